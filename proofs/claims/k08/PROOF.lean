import PyProof.Rows.All
import KE.KDictList
import KE.KIntText
import KE.IntTextLaws
import KE.KLam
import KE.KRevSl
import KE.KSortTup
import KE.KTryMore
import OpenK.KEqL
import OpenK.XOpen
import Wide.Once
import Wide.Txt2
import PySem.Challenge.RW_formkin_k08_books_written
set_option Elab.async false
set_option linter.all false
set_option maxRecDepth 1000000
set_option maxHeartbeats 0
set_option genSizeOf false
set_option compiler.extract_closed false
open List renaming length_map->Ay,getElem?_eq_getElem->Az,getD_eq_getElem?_getD->AL,mem_singleton->AM,getElem?_eq_some_iff->AO,getElem?_map->AT,mem_cons->AU,mem_of_getElem?->AY,length_append->AZ,map_cons->Bf,mem_map->Bg,map_map->Bi,range->Bm,size_toArray->Bs,length_range->BB,mem_cons_of_mem->BG,not_mem_nil->BL,all_eq_true->BM,mem_cons_self->BQ,length_take->BY,mem_append->BZ,mem_append_right->Ca,length_cons->Cd,map_append->Ck,getElem?_eq_none->Cz,append_nil->CA,mem_range->CG,take_length->Dh,map_congr_left->Dj,map_nil->Dl,mem_of_mem_take->Dp,mem_append_left->Dq,getElem?_append_right->Ds,mem_iff_getElem?->DB,length_drop->DR,pairwise_map->Ed,mem_filter->Eh,getLast?_eq_getElem?->Ek,getElem?_append_left->El,filter_append->Ep,lookup->Ew,filter_cons_of_pos->EE,length_singleton->Fm,length_filter_le->Fn,pairwise_iff_getElem->Ft,drop_eq_getElem_cons->Fu,flatten_cons->FG,append_assoc->FH,getElem?_take_of_lt->FJ,filterMap_cons->FY,take_succ->Gh,filter_cons_of_neg->Gi,find?_eq_none->Gu,all_cons->GK,reverse_cons->GR,lookup_cons->Hx,map_eq_nil_iff->HH,getElem?_range->HI,find?_cons->Ic,take_of_length_le->IM,replicate->IN,take_append_drop->Ja,length_replicate->Jb,any_cons->Jr,mem_iff_getElem->JK,map->JL,take_succ_cons->Kf,length_reverse->Kg,length_pos_iff->Kh,any_eq_false->Mz,reverse_eq_nil_iff->NE,length_eq_zero_iff->NF,getElem_mem->NG,filter_eq_nil_iff->Oh,drop_eq_nil_of_le->Oi,nodup_cons->OS,nil_append->OT,length_nil->OU,length->QQ,getElem?_set_ne->QR,append->QS,filter_eq_self->RL,sum_cons->Sv,mem_filterMap->SS,take_sublist->Vh,take_add_one->Vi,ext_getElem?->Vj,mem_reverse->WO,take_append_of_le_length->XY,eq_nil_of_length_eq_zero->XZ
open PySem renaming Value->AB,Addr->AE,Shared->AG,wpAny_bind->AR,Str->Bc,Program->Bq,wpAny_pure->Bx,wpAny->BN,World->BU,starEach->BW,mainGlobals->Cg,bootBuiltins->Co,Heap->Ct,Around->CH,wpAny_Call_Name_kw->CQ,sizeLine_eq->DJ,compareOp->DL,eval->Ea,OsState->Eu,FuncData->Ey,backTo->Fq,mem_of_lookup->FW,Pos->FX,wpAny_truthy_bool->Ge,wpAny_newObj_type->Gf,sysModules->Gp,attributeBase->Hn,wpAny_mono->Ia,keywordEach->Ib,wpAny_holding->IJ,codeAny_builtin->IQ,KeyKind->Jq,recursionLimit->JH,Stmt->JI,Arguments->KH,codeAny->KJ,behindInMarks->KL,sliceBounds->Lp,wpAny_passesOwn->Mf,letOwnedTupleGo->Mg,codeAny_mono->MC,treeTable->MJ,typeIs_str->Nx,tupleKind_room_in1->Ny,builtinsNs->Nz,binaryOp->NA,backToKw->NB,assignEach->NC,wpAny_pyIter_list->OO,wpAny_field->OP,wpAny_call->RD,callerA->RF,call_meets->RG,wpAny_newFunctionEnv->UY,wpAny_loadName_local->UZ,cLine->Va,tupleKind->Vo,scanBound->Vp,getMethod->Vq,getItem->Vr,Keyword->Vs,wpAny_newList->XS
open PySem.W renaming Frag->AF,kitOne->BR,emptyDict->CD,findIn->CF,instObj->CS,kitAny->DE,kia_tup->DH,kia_one->DI,findIn->DK,boot_heap->ET,kla_obj->Fw,behindTheImports->FF,keepIn->FI,Frag->FL,keepIn->Hg,CodeHd->Hh,topFrame->Ht,SharedT->Ir,makesIn->IY,methodCall_KW->IZ,kitOne->JR,kas_asc->JS,callWith_K0->Ke,fnOf->KC,callWith_K->Lq,specialIn->Mu,kitx_list->Mv,kitx_dict->Mw,hasDictIn->Mx,sortI->MD,plainGet->ND,makesIn->OQ,tabObj->QK,lookIn->QL,kitCls->QM,kas_tail3->RE,plainGet_of->RJ,mroIn->Su,methodObj->Vc,isFn->Vd,makes_of->WM,kas_place->XT
open Bool renaming and_eq_true->AI,false_ne_true->Bj,false_and->Cu,true_and->CN,noConfusion->ER,eq_iff_iff->GI,and_eq_true_iff->JP,and_false->Lr,not_eq_true'->MA
open Nat renaming le_trans->AJ,le_refl->AX,add_le_add_left->BA,ne_of_lt->BE,lt_of_lt_of_le->BP,lt_of_le_of_lt->BS,zero_le->Ci,add_le_add->CC,le_succ->Da,lt_irrefl->DZ,lt_succ_of_lt->ED,le_of_lt->Gs,lt_succ_self->Hw,ne_of_gt->IK,lt_trans->IL,mul_le_mul_right->QP,toDigits->Ve,sub_self->Vf,le_of_eq->Vg
open PySem.Heap renaming get?_push_of_some->AK,get?_push_size->Bo,lt_size->Bu,get?_push_ne->HD,size_push->JM,size_update->QT,get?_update_other->RM,SameBut->RN
open Option.some renaming inj->Ba,injEq->My
open Or renaming inl->Bn,inr->Cw
open PySem.Value renaming ref->BD,none->DX,int->EA,bool->EB,type->IU,str->KB,float->Vb
open PySem.Str renaming ofString->BJ,join->Ec
open PySem.F renaming plainAttrs_list->BO,type_list_append->Cm,slot_list_append->Cn,plainAttrs_str->Db,type_str_join->Fj,slot_str_join->Fk,slot_dict_get->GP,type_list_extend->ME,slot_list_extend->MF,entry_dict_get->Og
open PySem.Challenge renaming pw_formkin_k08_books_written->BX
open Option renaming map_eq_some_iff->Cc
open PySem.PyData renaming strOk->CB,str->Gq,eqv->KE,canLayAll0->OR
open Ne renaming symm->CI
open PySem.Txt renaming slice->Dx,join->Eb,slice_le->RH
open True renaming intro->Dz
open PySem.PassesOwn renaming never->DT
open PyProof.Rows renaming seqObj->EG,callWith_type1->EL,callWith_builtin1->WN,IntsAre->Yb,AllBare->Yc
open Array renaming length_toList->EJ,toList_append->Ki,getElem?_eq_none->Om,mem_toList_iff->QU,getD->SU
open PySem.Builtin.Str renaming occurrences->EM,strSliceIndices->MG,partsBetween->Pj
open PySem.Obj renaming mapSeq->EQ
open False renaming elim->Fg
open PySem.Builtin.Int renaming intBits->Fh
open PySem.BindsTo renaming of_defaults->Fi
open List.cons renaming inj->FK
open Int renaming toNat_of_nonneg->FZ,lt_trans->KG,le_trans->Oj
open PySem.SeqAt renaming shaped->Gg
open Prod.mk renaming injEq->GJ
open PySem.Calls renaming spliced_cons->GV,spliced_nil->JN,callWith_builtin->JO,evalArgs_plain->Vl
open PyProof.Rows.F renaming plain_set_update_loop->HG,entry_set_update_loop->RK
open PySem.Builtin.Slice renaming slicePlaces->Ij,sliceAdjust->Ol
open PySem.Builtin.Tuple renaming tupleExact->IP
open Pure renaming pure->IX
open Prod renaming snd->JJ,fst->QO
open Nat.succ renaming inj->KF
open ForInStep renaming yield->OV
open PySem.Builtin.List renaming listTooLong->Pk
open PySem.W.R renaming mapR->QN
open PySem.StrLaws renaming join_length_le->RI
open PySem.W.WData renaming weight->SR,int->XU
open List.Pairwise renaming nil->Vk
open PySem.Paired renaming length->XW
open PySem.NameKind renaming cell->XX
noncomputable section
abbrev Ac:List Bc:=["thing","least","most"]
abbrev Ad:List Bc:=["number"]
abbrev Ae:List Bc:=["kind","default"]
abbrev Af:List Bc:=["kind","ahead"]
abbrev Ag:List Bc:=["form","weights"]
abbrev Ah:List Bc:=["field"]
abbrev Ai:List Bc:=["words","at"]
abbrev Aj:List Bc:=["_law_number_here","_law_k"]
abbrev Ak:List Bc:=["_law_kind_here","_law_number_here"]
abbrev Al:List Bc:=["_law_kind_here","_law_weights"]
abbrev Am:List Bc:=["_law_form","_law_weights"]
abbrev An:List Bc:=["_law_kind_here","_law_spec_here"]
abbrev Ao:List Bc:=["_law_field_here","_law_spec_here"]
abbrev Ap:List Bc:=["_law_spec_here"]
abbrev Aq:List Bc:=["self"]
abbrev Ar:List Bc:=["self","value"]
abbrev As:List Bc:=["self","most"]
abbrev At:List Bc:=["self","name"]
abbrev Au:List Bc:=["self","number","name","kind","must","default"]
abbrev Av:List Bc:=["self","name","fields","gone"]
abbrev Aw:List Bc:=["_law_field_here"]
theorem wg{p:Prop}[inst:Decidable p](h:p):decide p=true:=decide_eq_true h
theorem wh{p:Prop}[inst:Decidable p](h:¬p):decide p=false:=decide_eq_false h
theorem wj{p:Prop}[inst:Decidable p](h:decide p=true):p:=of_decide_eq_true h
theorem wk{c:Prop}[h:Decidable c](n:¬c){α:Sort u}{t e:α}:ite c t e=e:=if_neg n
theorem wm{c:Prop}[h:Decidable c](n:c){α:Sort u}{t e:α}:ite c t e=t:=if_pos n
theorem wn{α:Sort u}{β:Sort v}{a b:α}(f:α->β)(h:a=b):f a=f b:=congrArg f h
def wo{a:Prop}{b:Sort v}(h:a)(n:¬a):b:=absurd h n
theorem Ab{p:Prop}[i:Decidable p](h:decide p=true:=by kernel_rfl):p:=of_decide_eq_true h
theorem Aa{p:Prop}[i:Decidable p](h:decide p=true:=by exact Eq.refl true):p:=of_decide_eq_true h
theorem k08.ws:PySem.Challenge.rw_formkin_k08_books_written.wellSaid=true:=by kernel_rfl
theorem k08.law_of(h:PySem.Challenge.rw_formkin_k08_books_written.row.wellSaid=true->PySem.Challenge.rw_formkin_k08_books_written.row.Holds):PySem.Challenge.rw_formkin_k08_books_written.Holds:=PySem.W.holds_law k08.ws h
namespace HL
open PySem PySem.W PyProof.Rows
abbrev bE:String->Option Builtin:=PySem.W.Fast.tw14364793385576792824
abbrev Tv:=PySem.W.Fast.tw15667345088766844465
abbrev PM:=PySem.W.Fast.tw14374325043358763698
abbrev iT:=PySem.W.Fast.tw10110043849684766642
abbrev Qu:=PySem.W.Fast.tw11892475500146522536
abbrev GS:FX:=⟨0,0,0,0⟩
abbrev Ln:Option AB:=some (.ref 6)
noncomputable def env(p:Bq):Env:={scope:=p.main.scope,locals:=mainNs,globals:=mainNs,cells:=[],code:=.ref 13,frame:=some 14}
noncomputable def code(p:Bq):Code:=.body (FF p) (env p)
noncomputable def qs(l:List Nat):Bc:=⟨⟨l⟩⟩
noncomputable def rH:Bc:=qs [60,109,111,100,117,108,101,62]
noncomputable def rL:Bc:=qs [47,99,108,97,105,109,47,99,117,116,46,112,121]
noncomputable def rJ:Bc:=qs [95,95,109,97,105,110,95,95]
noncomputable def vW:Obj:={cls:=.type PySem.W.SL.s2766695959194262286x5,data:=.seq #[]}
noncomputable def vV:Obj:={cls:=.none,data:=.fields #[]}
noncomputable def vU:Obj:={cls:=.type PySem.W.SL.s5856160107412720595x4,data:=.fields #[.str rH 182,.str rH 183,.str rL 184,.int 1 0,.int 0 0,.int 0 0,.int 0 0,.int 0 0,.ref 11,.bool false,.int 181 0,.ref 12,.none,.none,.none,.none,.int 185 0,.int 1 0,.str rL 186]}
noncomputable def vT:Obj:={cls:=.type PySem.W.SL.s658472552662922059x5,slots:=#[some (.ref 13),some (.ref 3),some (.ref 3),none,some (.str rJ 164),none,some (.ref 0)]}
abbrev lf(o:Obj):BT:=.node o .nil .nil
noncomputable def qZ(P:Params):BT:=.node (boot_o_0 P) (.node (boot_o_1 P) (.node (boot_o_3 P) (lf (boot_o_7 P)) (lf vW)) (.node (boot_o_5 P) (lf (boot_o_9 P)) (lf vU))) (.node (boot_o_2 P) (.node (boot_o_4 P) (lf (boot_o_8 P)) (lf vV)) (.node (boot_o_6 P) (lf (boot_o_10 P)) (lf vT)))
noncomputable def S0(w:BU)(os:Eu):Ir:=⟨qZ w.params,15,{},#[],{},187,os⟩
noncomputable def fN(w:BU)(os:Eu):AG:=⟨ET w.params,#[],boot_drawn,boot_toks,os⟩
noncomputable def T0(p:Bq):Thread:=piecesOf (FF p) (env p) (code p) GS [Ht GS]
noncomputable def R(p:Bq)(n:Nat)(w:BU)(os:Eu):Option (Flow×Ir×Code×FX):=iT bE p w 11 Ln 1 n (S0 w os) (T0 p)
abbrev oH(p:Bq):=PySem.W.Fast.tw5923862056798008813 p.main.body
abbrev oz(q:Bq):=PySem.W.Fast.tw3399658132070893891 q
abbrev YO(q:Bq)(lo:List Bc):=PySem.W.Fast.tw821141287760084731 q lo
abbrev kD(q:Bq):=PySem.W.Fast.tw3247288618530077131 q
noncomputable def sj(p:Bq)(P:Params)(s:AG):Bool:=staticsOk (oH p) (ET P) s.heap&&namesBound p s.heap&&gensDone s&&laidKept (ET P) s.heap
noncomputable def si(q:Bq)(s:AG):=PySem.W.Fast.tw5160383126252970620 (QN (λx=>x.name) (oz q)) (PySem.W.Fast.tw5991557255702980513 q) [] {s with gens:=#[]}
noncomputable def sh(p q:Bq)(lo:List Bc)(s:AG):Bool:=PySem.W.Fast.tw10880121769531294198 s.heap (YO q lo) (QN (λx=>x.name) (oz q)) (QN (λx=>x.fst) (PySem.W.Fast.tw7409074990110511671 q)) (QN (λx=>x.name) (PySem.W.Fast.tw13664370479719496447 q (YO q lo)))
  &&PySem.W.Fast.tw14722251495701143533 s.heap (oH p) &&s.heap.isNs Cg&&s.heap.isNs Nz&&PySem.W.Fast.tw10994771534591457954 q s.heap&& (xlAt q [] s&&recOk [] s) && (s.gens.size==0)
noncomputable def Nl(p q:Bq)(lo:List Bc)(P:Params)(s:AG):=(sj p P s,si q s,s.heap.bltView,sh p q lo s,PySem.W.Fast.tw479339242167458305 q s,PySem.W.Fast.tw16090120013241838585 q (kD q) s,PySem.W.Fast.tw2386780881361962483 q (YO q lo) s,PySem.W.Fast.tw11698064438423848299 q lo s,PySem.W.Fast.tw7317090234206586261 q s,PySem.W.Fast.tw7369524293546568484 q lo s)
noncomputable def Qp(q:Bq)(lo:List Bc):=(true,expectedOf q,bltViewBooted,true,true,pinGoodD (kD q),plainGoodE q (YO q lo),plainGoodD q lo,wideGood q,clsGoodW q lo)
open PySem.W.Fast in
theorem iM{p:Bq}{w:BU}{os:Eu}(h:Tv bE p w 11 Ln 12 (fN w os) (topStub p)=some ((S0 w os).abs,⟨Qu bE (code p),code p,GS,[Ht GS]⟩)):
  topGo MJ p w 11 Ln 12 (fN w os) (topStub p)=some ((S0 w os).abs,⟨denote MJ (code p),code p,GS,[Ht GS]⟩):=by
 rw[te15667345088766844465,te14364793385576792824,te11892475500146522536];exact h
open PySem.W.Fast in
theorem cw{p:Bq}{w:BU}{s:AG}(h:PM bE p w 11 Ln 1 1 s (blockOf (FF p) (env p) (code p) GS [Ht GS])=some (.next,s,code p,GS)):
  segRun MJ p w 11 Ln 1 1 s (blockOf (FF p) (env p) (code p) GS [Ht GS])=some (.next,s,code p,GS):=by
 rw[te14374325043358763698,te14364793385576792824];exact h
open PySem.W.Fast in
theorem iL{p:Bq}{n:Nat}{w:BU}{os:Eu}{x:Flow×Ir×Code×FX}(h:R p n w os=some x):segRunT MJ p w 11 Ln 1 n (S0 w os) (T0 p)=some x:=by
 rw[te10110043849684766642,te14364793385576792824];exact h
theorem nE{p:Bq}{w:BU}{c:Code}{q:FX}:∀s:AG,topRun MJ p w 11 Ln 2 s ⟨doneF .next,c,q,[Ht GS]⟩=some s:=λa=>by
 obtain⟨_,_,_,_,_⟩:=a;exact rfl
theorem fS{p:Bq}{n:Nat}{w:BU}{os:Eu}{s:Ir}{q:FX}(Oc:Tv bE p w 11 Ln 12 (fN w os) (topStub p)=some ((S0 w os).abs,⟨Qu bE (code p),code p,GS,[Ht GS]⟩))(dq:∀s,PM bE p w 11 Ln 1 1 s (blockOf (FF p) (env p) (code p) GS [Ht GS])=some (.next,s,code p,GS))(h:R p n w os=some (.next,s,code p,q)):topRun MJ p w 11 Ln (12+ (1+ (n+2))) (fN w os) (topStub p)=some s.abs:=by
 refine go_top (iM Oc) (piece_block (cw (dq _)) ?_);have e:=piece_app (rest:=[]) (segRun_of (iL h)) (piece_nil (nE (q:=q) s.abs));rw[CA]at e;exact e
open PySem.W.Fast in
theorem cu{p q:Bq}{lo:List Bc}{P:Params}{s:AG}(h:Nl p q lo P s=Qp q lo): (staticsOk (importedModules p.main.body) (ET P) s.heap&&namesBound p s.heap&&gensDone s&&laidKept (ET P) s.heap)=true/\openSeen q lo (importedModules p.main.body) (λs=>xlAt q [] s&&recOk [] s) true s=openGood q lo:=by
 simp only[Nl,Qp,GJ]at h;obtain⟨a,b,c,d,e,f,g,i,j,k⟩:=h;refine⟨?_,?_⟩
 ·rw[te5923862056798008813];exact a
 ·unfold openSeen openGood;simp only[GJ];refine⟨?_,c,?_,?_,?_,?_,?_,?_,?_⟩
  ·rw[PySem.W.R.mapR_eq,te5160383126252970620,te3399658132070893891,te5991557255702980513];exact b
  ·rw[PySem.W.R.mapR_eq,te10880121769531294198,te821141287760084731,te3399658132070893891,te7409074990110511671,te13664370479719496447,te14722251495701143533,te5923862056798008813,te10994771534591457954];exact d
  ·rw[te479339242167458305];exact e
  ·rw[te16090120013241838585,te3247288618530077131];exact f
  ·rw[te2386780881361962483,te821141287760084731];exact g
  ·rw[te11698064438423848299];exact i
  ·rw[te7317090234206586261];exact j
  ·rw[te7369524293546568484];exact k
noncomputable def lk{a:Type}(p q:Bq)(lo:List Bc)(Yf:AG->a)(w:BU)(s:Ir):=(Nl p q lo w.params s.abs,Yf s.abs)
theorem some_of{j i d:Type}{o:Option (Flow×j×i)}{f:j->d}{y:Flow}{z:i}{g:d}(h:o.map (λx=>(x.1,x.2.2,f x.2.1))=some (y,z,g)):∃s,o=some (y,s,z)/\f s=g:=by
 cases o with
 |none=>cases h
 |some x=>
  obtain⟨a,b,c⟩:=x;have e:=Ba h;simp only[GJ]at e;obtain⟨rfl,rfl,rfl⟩:=e;exact⟨b,rfl,rfl⟩
theorem mV{p q:Bq}{lo:List Bc}{n N:Nat}{pos:FX}{g:Type}{Yf:AG->g}{Ya:BU->g}(h1:opening p=plainProg p.main.scope.names)(h2:∀s,fenceModules? p s=some s)(Oc:∀w os,Tv bE p w 11 Ln 12 (fN w os) (topStub p)=some ((S0 w os).abs,⟨Qu bE (code p),code p,GS,[Ht GS]⟩))(dq:∀w s,PM bE p w 11 Ln 1 1 s (blockOf (FF p) (env p) (code p) GS [Ht GS])=some (.next,s,code p,GS))(a:∀w os,(R p n w os).map (λx=>(x.1,x.2.2,lk p q lo Yf w x.2.1))=some (.next,(code p,pos),(Qp q lo,Ya w)))(hsz:∀P:Params,(ET P).isNs Cg=true/\(ET P).objs.size=11/\(ET P).nsMap Cg "__annotations__"=Ln)(o:Nat.ble 600 N=true)(u:12+ (1+ (n+2))<=N):LeftO p q lo (λs=>xlAt q [] s&&recOk [] s) Yf Ya N:=by
 intro w;obtain⟨⟨hp,gs,d,k,os⟩,e,h⟩:=Cc.mp (boot_open h1 o h2 w);simp only[GJ]at h;obtain⟨rfl,rfl,rfl,rfl⟩:=h;obtain⟨s,hs,hf⟩:=some_of (f:=lk p q lo Yf w) (a w os);have c:Nl p q lo w.params s.abs=Qp q lo:=wn QO hf;have b:Yf s.abs=Ya w:=wn JJ hf;obtain⟨m,l2⟩:=cu c;have r:=topRun_mono (N - (12+ (1+ (n+2)))) _ _ _ _ (fS (Oc w os) (dq w) hs);rw[Nat.add_sub_cancel' u]at r;obtain⟨l,j,i⟩:=hsz w.params;have t:topFrom MJ p w N (fN w os)=some s.abs:=by
  unfold topFrom;have z: ((fN w os).heap.isNs Cg&& (fN w os).gens.size==0)=true:=by
   show((ET w.params).isNs Cg&&_)=true;rw[l];rfl
  rw[z]
  dsimp only
  rw[show(fN w os).heap.objs.size=11 from j,show(fN w os).heap.nsMap Cg "__annotations__"=Ln from i,r]
  dsimp only[Option.bind]
  rw[show(fN w os).heap=ET w.params from rfl,m]
 unfold openEnds;rw[e];show((topFrom MJ p w N (fN w os)).map _)=_;rw[t];exact wn some (Prod.ext l2 b)
end HL
namespace L2
open PySem PySem.Spec PyProof.Rows
abbrev Gk:=Sum Int Bc
def Xp:Gk->AB->Bool
 |.inl k,v=>Value.isInt k v
 |.inr x,v=>Value.isStrOf x v
def qp(w:BU):Gk->Int
 |.inl k=>hashInt k
 |.inr x=>hashStr w x
theorem Fc:∀{k:Gk} {v:AB},Xp k v=true->(∃i t,k=Sum.inl i/\v=EA i t)\/(∃x t,k=Sum.inr x/\v=KB x t)
 |.inl i,v,h=>by
  obtain⟨t,e⟩:=Value.isInt_shape (k:=i) (v:=v) h;exact .inl ⟨i,t,rfl,e⟩
 |.inr x,v,h=>by
  obtain⟨t,e⟩:=Value.isStrOf_shape (x:=x) (v:=v) h;exact .inr ⟨x,t,rfl,e⟩
theorem gQ(i:Int)(t:Tok):Xp (.inl i) (.int i t)=true:=by simp[Xp,Value.isInt]
theorem gP(x:Bc)(t:Tok):Xp (.inr x) (.str x t)=true:=by simp[Xp,Value.isStrOf]
theorem qo(a b:Int):decide ((Sum.inl a:Gk)=Sum.inl b)=(a==b):=by
 by_cases e:a=b
 ·subst e;simp
 ·have h:¬ (Sum.inl a:Gk)=Sum.inl b:=λq=>e (Sum.inl.inj q);rw[wh h];exact(beq_eq_false_iff_ne.mpr e).symm
theorem qk(a b:Bc):decide ((Sum.inr a:Gk)=Sum.inr b)=decide (a=b):=by
 by_cases e:a=b
 ·subst e;simp
 ·have h:¬ (Sum.inr a:Gk)=Sum.inr b:=λq=>e (Sum.inr.inj q);rw[wh h,wh e]
theorem qm(a:Int)(b:Bc):decide ((Sum.inl a:Gk)=Sum.inr b)=false:=wh (λq=>nomatch q)
theorem ql(a:Bc)(b:Int):decide ((Sum.inr a:Gk)=Sum.inl b)=false:=wh (λq=>nomatch q)
noncomputable def DY(prog:Bq)(w:BU):Jq prog w Gk where
 is:=Xp
 hash:=qp w
 inj:=λv a b ha hb=>by
  rcases Fc ha with⟨i,t,rfl,rfl⟩|⟨x,t,rfl,rfl⟩
  ·rcases Fc hb with⟨j,u,rfl,e⟩|⟨y,u,rfl,e⟩
   ·injection e with c _;rw[c]
   ·exact nomatch e
  ·rcases Fc hb with⟨j,u,rfl,e⟩|⟨y,u,rfl,e⟩
   ·exact nomatch e
   ·injection e with c _;rw[c]
 byValue:=λk v h=>by
  rcases Fc h with⟨i,t,rfl,rfl⟩|⟨x,t,rfl,rfl⟩ <;> rfl
 pyHash:=λd h=>by
  rcases Fc d with⟨i,t,rfl,rfl⟩|⟨x,t,rfl,rfl⟩
  ·exact wpAny_pyHash_int h
  ·exact wpAny_pyHash_str h
 eqBool:=λf d h=>by
  rcases Fc f with⟨i,t,rfl,rfl⟩|⟨x,t,rfl,rfl⟩
  ·rcases Fc d with⟨j,u,rfl,rfl⟩|⟨y,u,rfl,rfl⟩
   ·rw[qo]at h;exact wpAny_eqBool_int h
   ·rw[qm]at h;exact SeqAt.EqAt.int_str i t y u _ _ _ _ h
  ·rcases Fc d with⟨j,u,rfl,rfl⟩|⟨y,u,rfl,rfl⟩
   ·rw[ql]at h;exact SeqAt.EqAt.str_int x t j u _ _ _ _ h
   ·rw[qk]at h;exact wpAny_eqBool_str h
 «strs»:=λk x t v h=>by
  rcases Fc h with⟨i,u,rfl,e⟩|⟨y,u,rfl,e⟩
  ·exact nomatch e
  ·injection e with c _;subst c;cases v <;> rfl
theorem aG(prog:Bq)(w:BU)(i:Int)(t:Tok): (DY prog w).is (.inl i) (.int i t)=true:=gQ i t
theorem Nj(prog:Bq)(w:BU)(x:Bc)(t:Tok): (DY prog w).is (.inr x) (.str x t)=true:=gP x t
inductive V where
 |non|bl (b:Bool)|int (i:Int)|str (x:Bc)|byt (b:Array UInt8)|flt (b:UInt64)|ref (a:AE)|ty (n:String)
 deriving DecidableEq
def Dd:V->AB->Prop
 |.non,u=>u=DX
 |.bl b,u=>u=EB b
 |.int i,u=>∃t,u=EA i t
 |.str x,u=>∃t,u=KB x t
 |.byt b,u=>∃t,u=Value.bytes b t
 |.flt b,u=>∃t,u=Vb b t
 |.ref a,u=>u=BD a
 |.ty n,u=>u=IU n
abbrev Cv:List V->List AB->Prop:=Paired Dd
theorem Cv.length{xs:List V}{us:List AB}(r:Cv xs us):xs.length=us.length:=XW r
theorem Cv.get:∀{xs:List V} {us:List AB} {i:Nat} {x:V},Cv xs us->xs[i]?=some x->∃u,us[i]?=some u/\Dd x u
 |_,_,_,_,.nil,e=>by simp at e
 |_,_,0,_,.cons r _,e=>by simp at e;subst e;exact⟨_,rfl,r⟩
 |_,_,i+1,x,.cons _ t,e=>by
  obtain⟨u,h1,h2⟩:=Cv.get (i:=i) (x:=x) t (by simpa using e);exact⟨u,by simpa using h1,h2⟩
theorem Cv.append:∀{xs ys:List V} {us ws:List AB},Cv xs us->Cv ys ws->Cv (xs++ys) (us++ws)
 |_,_,_,_,.nil,s=>s
 |_,_,_,_,.cons r t,s=>.cons r (Cv.append t s)
theorem Cv.take:∀{xs:List V} {us:List AB} (n:Nat),Cv xs us->Cv (xs.take n) (us.take n)
 |_,_,0,_=>.nil
 |_,_,_+1,.nil=>.nil
 |_,_,n+1,.cons r t=>.cons r (Cv.take n t)
theorem Cv.drop:∀{xs:List V} {us:List AB} (n:Nat),Cv xs us->Cv (xs.drop n) (us.drop n)
 |_,_,0,r=>r
 |_,_,_+1,.nil=>.nil
 |_,_,n+1,.cons _ t=>Cv.drop n t
def Lo:Option V->Option AB->Prop
 |some v,some u=>Dd v u
 |none,none=>True
 |_,_=>False
def KV{κ:Type}:List (κ×V)->List (κ×AB)->Prop:=Paired λ(p:κ×V) (q:κ×AB)=>p.1=q.1/\Dd p.2 q.2
def kV:Gk->V
 |.inl i=>.int i
 |.inr x=>.str x
inductive HO where
 |lst (xs:List V)
 |tup (xs:List V)
 |dK (kvs:List (Gk×V))|dT (kvs:List (List Gk×V))
 |set (S:Int->Bool) (n:Nat)
 |ins (C dx:AE) (fs:List (Bc×V))
 |own (x:AE)
 |xd (fs:List (Bc×V))
 |met (f x:AE)
 |rng (lo hi:Int)
 |frz (o:Obj) (u:HO)
 |tbl (ps:Array AB)
 |ext (φ:Ct->Prop)
abbrev Hp:=AE->Option HO
def upd(H:Hp)(a:AE)(o:HO):Hp:=λb=>if b=a then some o else H b
theorem AC{H:Hp}{a:AE}{o:HO}:upd H a o a=some o:=by unfold upd;rw[wm rfl]
theorem Bb{H:Hp}{a b:AE}{o:HO}(h:b≠a):upd H a o b=H b:=by unfold upd;rw[wk h]
theorem Iv{H:Hp}{a:AE}{o u:HO}:upd (upd H a o) a u=upd H a u:=by
 funext b;unfold upd;split <;> rfl
theorem rT{H:Hp}{a b:AE}{o u:HO}(h:H a=some o)(h':H b=some u)(d:o≠u):a≠b:=by
 intro e;subst e;rw[h]at h';exact d (Ba h')
theorem Bt{H:Hp}{a b:AE}{o:HO}(h:H a=some o)(h':H b=none):a≠b:=by
 intro e;subst e;rw[h]at h';cases h'
section
variable(P:Bq)(w:BU)
def Dw(H:Hp)(h:Ct)(a:AE):HO->Prop
 |.lst xs=>xs.length<=sizeLine/\∃(b:List AB) (n:Nat),Cv xs b/\h.get? a=some {cls:=.type "list",data:=.seq b.toArray n}
 |.tup xs=>xs.length<=sizeLine/\∃b:List AB,Cv xs b/\IsTup h a b.toArray
 |.dK kvs=>kvs.length<=sizeLine/\(a==Gp)=false/\∃vs,KV kvs vs/\h.DictOf (DY P w) a vs
 |.dT kvs=>kvs.length<=sizeLine/\(a==Gp)=false/\∃xs:List (List Gk×AE×AB),Paired (λ(p:List Gk×V) (q:List Gk×AE×AB)=>p.1=q.1/\H q.2.1=some (.tup (p.1.map kV))/\Dd p.2 q.2.2) kvs xs/\∃o es c,h.get? a=some o/\o.ExactDict/\o.data= .dict es c/\es.toList=xs.map (entryOfKey (Vo (DY P w)))/\(xs.map (·.1)).Nodup
 |.set S n=>h.SetOf (intKind P w) a S n
 |.ins C dx fs=>H dx=some (.own a)/\fs.length<=1000/\dx≠a/\h.get? a=some (CS C dx)/\∃mA,h.Ns1 dx mA/\(∀f,Lo (fs.lookup f) (mA f))/\PySem.Within mA (fs.map (·.1))
 |.own _=>∃o,h.get? a=some o
 |.xd fs=>∃mA,h.Ns1 a mA/\∀f,Lo (fs.lookup f) (mA f)
 |.rng lo hi=>∃t u v,h.get? a=some {cls:=.type "range",data:=.fields #[.int lo t,.int hi u,.int 1 v]}
 |.frz o u=>h.get? a=some o/\Dw H h a u
 |.tbl ps=>h.get? a=some {cls:=.none,data:=.fields ps}
 |.met f x=>h.get? a=some (Vc (.ref f) (.ref x))
 |.ext φ=>φ h/\(∃o,h.get? a=some o)/\∀h1 h2:Ct,φ h1->(∀o,h1.get? a=some o->h2.get? a=some o)->φ h2
def Md(H:Hp)(h:Ct):Prop:=∀a o,H a=some o->Dw P w H h a o
end
section
variable{P:Bq}{w:BU}{H H':Hp}{h h':Ct}{a:AE}{o:HO}
theorem Dw.lt(x:Dw P w H h a o):a<h.objs.size:=by
 cases o with
 |lst xs=>obtain⟨_,_,_,_,e⟩:=x;exact Bu e
 |tup xs=>obtain⟨_,_,_,p⟩:=x;exact p.lt
 |dK kvs=>obtain⟨_,_,_,_,o,_,_,e,_⟩:=x;exact Bu e
 |dT kvs=>obtain⟨_,_,_,_,o,_,_,e,_⟩:=x;exact Bu e
 |set S n=>obtain⟨o,_,_,_,e,_⟩:=x;exact Bu e
 |ins C dx fs=>obtain⟨_,_,_,e,_⟩:=x;exact Bu e
 |own y=>obtain⟨_,e⟩:=x;exact Bu e
 |xd fs=>obtain⟨_,⟨_,_,_,e,_⟩,_⟩:=x;exact Bu e
 |rng lo hi=>obtain⟨_,_,_,e⟩:=x;exact Bu e
 |frz ob u=>obtain⟨e,_⟩:=x;exact Bu e
 |tbl ps=>exact Bu (show h.get? a=some _ from x)
 |met f y=>exact Bu (show h.get? a=some _ from x)
 |ext φ=>obtain⟨_,⟨_,e⟩,_⟩:=x;exact Bu e
theorem Paired.mapP{g e:Type}{F G:g->e->Prop}:∀{d:List g} {c:List e},Paired F d c->(∀a b,F a b->G a b)->Paired G d c
 |_,_,.nil,_=>.nil
 |_,_,.cons r t,f=>.cons (f _ _ r) (Paired.mapP t f)
theorem Paired.imp'{g e:Type}{F G:g->e->Prop}(f:∀a b,F a b->G a b){d:List g}{c:List e}(r:Paired F d c):Paired G d c:=Paired.mapP r f
theorem Dw.stay(x:Dw P w H h a o)(k:∀b u,(b=a\/H b=some (.own a))->h.get? b=some u->h'.get? b=some u)(ho:∀b,H b=some (.own a)->H' b=some (.own a))(l:∀b xs,H b=some (.tup xs)->H' b=some (.tup xs)):Dw P w H' h' a o:=by
 induction o with
 |lst xs=>obtain⟨z,i,n,r,e⟩:=x;exact⟨z,i,n,r,k _ _ (.inl rfl) e⟩
 |tup xs=>obtain⟨z,i,r,ob,e,c⟩:=x;exact⟨z,i,r,ob,k _ _ (.inl rfl) e,c⟩
 |dK kvs=>obtain⟨z,y,vs,r,ob,es,g,e,c⟩:=x;exact⟨z,y,vs,r,ob,es,g,k _ _ (.inl rfl) e,c⟩
 |dT kvs=>
  obtain⟨z,y,xs,r,ob,es,g,e,c⟩:=x;exact⟨z,y,xs,Paired.mapP r λp q z=>⟨z.1,l _ _ z.2.1,z.2.2⟩,ob,es,g,k _ _ (.inl rfl) e,c⟩
 |set S n=>obtain⟨ob,es,g,t,e,c⟩:=x;exact⟨ob,es,g,t,k _ _ (.inl rfl) e,c⟩
 |ins C dx fs=>
  obtain⟨d,z,ne,e,mA,⟨od,es,g,m,c⟩,r⟩:=x;exact⟨ho _ d,z,ne,k _ _ (.inl rfl) e,mA,⟨od,es,g,k _ _ (.inr d) m,c⟩,r⟩
 |own y=>obtain⟨ob,e⟩:=x;exact⟨ob,k _ _ (.inl rfl) e⟩
 |xd fs=>obtain⟨mA,⟨od,es,g,e,c⟩,r⟩:=x;exact⟨mA,⟨od,es,g,k _ _ (.inl rfl) e,c⟩,r⟩
 |rng lo hi=>obtain⟨t,u,v,e⟩:=x;exact⟨t,u,v,k _ _ (.inl rfl) e⟩
 |frz ob u j=>obtain⟨e,q⟩:=x;exact⟨k _ _ (.inl rfl) e,j q⟩
 |tbl ps=>
  have e:h.get? a=some {cls:=.none,data:=.fields ps}:=x;show h'.get? a=some {cls:=.none,data:=.fields ps};exact k a _ (.inl rfl) e
 |met f y=>
  have e:h.get? a=some (Vc (.ref f) (.ref y)):=x;show h'.get? a=some (Vc (.ref f) (.ref y));exact k a _ (.inl rfl) e
 |ext φ=>obtain⟨p,⟨o,e⟩,st⟩:=x;exact⟨st _ _ p λo q=>k _ _ (.inl rfl) q,⟨o,k _ _ (.inl rfl) e⟩,st⟩
theorem Md.lt(x:Md P w H h)(e:H a=some o):a<h.objs.size:=(x a o e).lt
theorem Md.fresh(x:Md P w H h)(e:h.objs.size<=a):H a=none:=by
 cases q:H a with
 |none=>rfl
 |some u=>exact wo (BP (x.lt q) e) (DZ _)
theorem Md.kept(x:Md P w H h)(k:∀b u,h.get? b=some u->h'.get? b=some u):Md P w H h':=λa o e=>
 (x a o e).stay (λb u _ q=>k b u q) (λ_ q=>q) λ_ _ q=>q
theorem Md.laid(x:Md P w H h)(k:∀b u,h.get? b=some u->h'.get? b=some u)(hp:h.objs.size<=a)(new:Dw P w (upd H a o) h' a o):Md P w (upd H a o) h':=λb u e=>by
 have hn:=x.fresh hp;by_cases hb:b=a
 ·subst hb;rw[AC]at e;cases e;exact new
 ·rw[Bb hb]at e;exact(x b u e).stay (λc v _ q=>k c v q) (λc q=>by rw[Bb (Bt q hn)];exact q) λc xs q=>by rw[Bb (Bt q hn)];exact q
end
def Rd(H:Hp)(a:AE)(u:HO):Prop:=H a=some u\/∃o,H a=some (.frz o u)
theorem Rd.ok{P:Bq}{w:BU}{H:Hp}{h:Ct}{a:AE}{u:HO}(r:Rd H a u)(x:Md P w H h):Dw P w H h a u:=by
 rcases r with r|⟨o,r⟩
 ·exact x a u r
 ·obtain⟨_,q⟩:=x a _ r;exact q
def sZ:Option HO->Prop
 |some (.lst _)=>True
 |some (.dK _)=>True
 |some (.dT _)=>True
 |some (.set _ _)=>True
 |some (.ins _ _ _)=>True
 |some (.xd _)=>True
 |some (.ext _)=>True
 |_=>False
section
variable{P:Bq}{w:BU}{H:Hp}{h h':Ct}{x e:AE}{o':HO}
theorem Md.write(ok:Md P w H h)(g:sZ (H x))(l:e=x\/H e=some (.own x))(k:∀b u,b≠e->h.get? b=some u->h'.get? b=some u)(i:∃u,h'.get? e=some u)(new:Dw P w (upd H x o') h' x o'):Md P w (upd H x o') h':=λb u q=>by
 have d:∀c y,H c=some (.own y)->c≠x:=λc y r z=>by subst z;rw[r]at g;exact g
 have f:∀c xs,H c=some (.tup xs)->c≠x:=λc xs r z=>by subst z;rw[r]at g;exact g
 by_cases hb:b=x
 ·subst hb;rw[AC]at q;cases q;exact new
 ·rw[Bb hb]at q;by_cases a:b=e
  ·have j:H b=some (.own x):=by
    rcases l with z|z
    ·exact wo (a.trans z) hb
    ·rw[a];exact z
   rw[q]at j;cases j;obtain⟨v,m⟩:=i;exact⟨v,by rw[a];exact m⟩
  ·refine(ok b u q).stay (λc v hc r=>k c v ?_ r) (λc r=>by rw[Bb (d c b r)];exact r) λc xs r=>by rw[Bb (f c xs r)];exact r
   rcases hc with rfl|hc
   ·exact a
   ·rintro rfl;rcases l with z|z
    ·exact d c b hc z
    ·rw[hc]at z;cases z;exact hb rfl
end
structure Un(fs ex:List AE)(H H':Hp)(h h':Ct):Prop where
 keep:∀b o,h.get? b=some o->H b=none->b∉fs->b∉ex->h'.get? b=some o
 slot:∀b o,h.get? b=some o->H b=none->b∈fs->b∉ex->∃sl,h'.get? b=some {o with slots:=sl}
 free:∀b o,h.get? b=some o->H b=none->b∉ex->H' b=none
 there:∀b o,h.get? b=some o->b∉ex->∃o',h'.get? b=some o'
 tups:∀b xs,H b=some (.tup xs)->H' b=some (.tup xs)
 frzs:∀b o u,H b=some (.frz o u)->H' b=some (.frz o u)
 tbls:∀b ps,H b=some (.tbl ps)->∃more,H' b=some (.tbl (ps++more))
section
variable{fs fs' ex ex':List AE}{H H1 H2:Hp}{h h1 h2 h':Ct}{a x e:AE}{o:HO}
theorem Un.any(u:Un fs ex H H1 h h1){b:AE}{ob:Obj}(q:h.get? b=some ob)(n:H b=none)(hx:b∉ex):∃sl,h1.get? b=some {ob with slots:=sl}:=by
 by_cases hb:b∈fs
 ·exact u.slot b ob q n hb hx
 ·exact⟨ob.slots,u.keep b ob q n hb hx⟩
theorem Un.kept(k:∀b u,h.get? b=some u->h'.get? b=some u):Un fs ex H H h h':=⟨λb ob q _ _ _=>k b ob q,λb ob q _ _ _=>⟨ob.slots,k b ob q⟩,λ_ _ _ n _=>n,λb ob q _=>⟨ob,k b ob q⟩,λ_ _ q=>q,λ_ _ _ q=>q,λ_ ps q=>⟨#[],by rw[q];simp⟩⟩
theorem Un.refl:Un fs ex H H h h:=Un.kept λ_ _ q=>q
theorem Un.laid(k:∀b u,h.get? b=some u->h'.get? b=some u)(hp:h.objs.size<=a)(hn:H a=none):Un fs ex H (upd H a o) h h' where
 keep:=λb u q _ _ _=>k b u q
 slot:=λb u q _ _ _=>⟨u.slots,k b u q⟩
 free:=λb u q n _=>by rw[Bb (BE (BP (Bu q) hp))];exact n
 there:=λb u q _=>⟨u,k b u q⟩
 tups:=λb xs q=>by rw[Bb (Bt q hn)];exact q
 frzs:=λb u xs q=>by rw[Bb (Bt q hn)];exact q
 tbls:=λb ps q=>⟨#[],by rw[Bb (Bt q hn),q];simp⟩
theorem Un.write(c:sZ (H x))(f:e=x\/H e=some (.own x))(k:∀b u,b≠e->h.get? b=some u->h'.get? b=some u)(d:∃u,h'.get? e=some u):Un fs ex H (upd H x o) h h':=by
 have hx:∀b,H b=none->b≠x:=λb n z=>by subst z;rw[n]at c;exact c
 have hb:∀b,H b=none->b≠e:=λb n z=>by
  subst z;rcases f with r|r
  ·exact hx b n r
  ·rw[n]at r;cases r
 have hm:∀b u,H b=some u->¬sZ (some u)->b≠x:=λb u q nm z=>by subst z;rw[q]at c;exact nm c
 refine⟨λb u q n _ _=>k b u (hb b n) q,λb u q n _ _=>⟨u.slots,k b u (hb b n) q⟩,λb u q n _=>by rw[Bb (hx b n)];exact n,λb u q _=>?_,λb xs q=>by rw[Bb (hm b _ q λz=>z)];exact q,λb u xs q=>by rw[Bb (hm b _ q λz=>z)];exact q,λb ps q=>⟨#[],by rw[Bb (hm b _ q λz=>z),q];simp⟩⟩;by_cases a:b=e
 ·subst a;exact d
 ·exact⟨u,k b u a q⟩
end
def tu(h:Ct)(H:Hp):List AE:=(Bm h.objs.size).filter λa=>(H a).isSome
def YV(h:Ct)(H:Hp):Ct:=PySem.W.hideAll h (tu h H)
theorem gU(h:Ct)(H:Hp): (YV h H).objs.size=h.objs.size:=PySem.W.hideAll_size _ _
theorem ke{h:Ct}{H:Hp}{b:AE}{o:Obj}(e:h.get? b=some o)(n:H b=none): (YV h H).get? b=some o:=PySem.W.hideAll_get _ e λhm=>by
  have q: (H b).isSome=true:=(Eh.mp hm).2;rw[n]at q;simp at q
theorem mO{h:Ct}{H:Hp}{b:AE}{o:Obj}(e: (YV h H).get? b=some o):h.get? b=some o/\H b=none:=by
 have a:h.get? b=some o:=PySem.W.of_hideAll (tu h H) e;refine⟨a,?_⟩;cases q:H b with
 |none=>rfl
 |some x=>
  have hm:b∈tu h H:=Eh.mpr ⟨CG.mpr (Bu a),by simp[q]⟩;have z: (YV h H).get? b=none:=PySem.W.hideAll_none (tu h H) hm;rw[z]at e;cases e
def nQ(g h:Ct)(L:AE):List (AE×Obj):=(Bm h.objs.size).filterMap λa=>if a=L\/(g.get? a).isSome=true then none else (h.get? a).map λo=>(a,o)
def rest(g h:Ct)(L d:AE):List (AE×Obj):=(nQ g h L).filter λp=>decide (p.1≠d)
structure Mod(K:AF)(mg:Bc->Option AB)(base:Ct):Prop where
 kin:K.In base
 glob:base.Ns Cg mg
 blt:∃mb,base.Ns Nz mb/\∀x:Bc,x≠ "__name__" ->mb x=Co x
 nolimit:base.NoLimit
abbrev qV(cls:AB)(dx:Option AE)(a0 tb:AB):Obj:={cls:=cls,dict:=dx,data:=.fields #[a0,tb,.none,.none,.bool false,.none]}
def vE(e:AE)(ob:Obj):HO:=.frz ob (.ext λh=>h.get? e=some ob)
def Hd(A:CH)(H:Hp):Prop:=∃e cls dx a0 tb,A.handled=some (.ref e)/\H e=some (vE e (qV cls dx a0 tb))
structure Cx where
 prog:Bq
 w:BU
 K:AF
 mg:Bc->Option AB
 base:Ct
 A:CH
 N:List Bc
 s_:AG
 H_:Hp
 env:Env
 outer:List Env
 stack:List Env
 ex:List AE
 fn:Bc->Bool
 calm:Bool
 suit:Bool
 pn:List (AE×Obj)
 xe:AB->AG->Prop
def kl(l:List Env):List AE:=l.filterMap (·.frame)
abbrev Cx.fs(X:Cx):List AE:=kl X.outer
def tK(sc:Scope)(x:Bc):Prop:=sc.names.lookup x=some .local\/sc.names.lookup x=some .cell\/sc.names.lookup x=some .free
def ti(sc:Scope)(x:Bc):Prop:=sc.names.lookup x=some .local\/sc.names.lookup x=some .cell
def vl(env:Env)(h:Ct)(m:Bc->Option AB)(x:Bc)(u:AB):Prop:=(env.kindOf x=some .local/\m x=some u)\/((env.kindOf x=some .cell\/env.kindOf x=some .free)/\∃c,env.cells.lookup x=some c/\h.IsCell c (some u))
structure Cx.Ok(X:Cx):Prop where
 mod:Mod X.K X.mg X.base
 kind:X.env.scope.kind= .function
 glob:X.env.globals=Cg
 blt:X.env.builtins=Nz
 above:X.s_.heap.objs.size<=X.env.locals
 inj:∀x y c,X.env.cells.lookup x=some c->X.env.cells.lookup y=some c->x=y
 has:∀x,(X.env.kindOf x=some .cell\/X.env.kindOf x=some .free)->∃c,X.env.cells.lookup x=some c
 cab:∀x c,X.fn x=true->X.env.cells.lookup x=some c->X.s_.heap.objs.size<=c
 hd:X.calm=true->X.A.handled=none
 frames:X.A.frames=some X.stack
 stk:X.stack=X.outer\/(X.stack=X.env::X.outer/\X.env.frame=some X.env.locals)
 exf:∀b∈X.ex,b≠X.env.locals/\∀x c,X.env.cells.lookup x=some c->c≠b
 bs:∀b o,X.base.get? b=some o->X.s_.heap.get? b=some o/\X.H_ b=none
 bsz:X.base.objs.size<=X.s_.heap.objs.size
 noex:∀b o,X.base.get? b=some o->b∉X.ex
 exfs:∀b∈X.ex,b∉X.fs
 funs:X.s_.heap.FunFrames X.base X.outer
 frf:∀b∈X.fs,X.H_ b=none
 hs:X.suit=true->Hd X.A X.H_
structure Cr(X:Cx)(pZ:List (AE×Obj))(σ:List (Option V))(H:Hp)(s:AG):Prop where
 ok:X.Ok
 os:s.os=X.s_.os
 bare:Yc s.gens
 base:Un X.fs X.ex X.H_ H X.s_.heap s.heap
 loc:∃m,s.heap.Ns X.env.locals m/\∀(i:Nat) (x:Bc) (v:V),X.N[i]?=some x->σ[i]?=some (some v)->tK X.env.scope x->∃u,Dd v u/\vl X.env s.heap m x u
 cell:∀x c,X.env.cells.lookup x=some c->∃v,s.heap.IsCell c v
 free:H X.env.locals=none
 freeC:∀x c,X.env.cells.lookup x=some c->H c=none
 pin:∀p∈X.pn++pZ,s.heap.get? p.1=some p.2/\H p.1=none/\p.1≠X.env.locals/\p.1∉X.fs/\∀v,p.2.data≠ .cell v
 hok:Md X.prog X.w H s.heap
 len:σ.length=X.N.length
section
variable{X:Cx}{pZ:List (AE×Obj)}{σ:List (Option V)}{H H':Hp}{s:AG}{h':Ct}
theorem Cx.Ok.nofr(ok:X.Ok){b:AE}{o:Obj}(e:X.base.get? b=some o):b∉X.fs:=λhb=>by
 have:=(ok.funs.mem hb).1;rw[e]at this;cases this
theorem Cr.bs(I:Cr X pZ σ H s):∀b o,X.base.get? b=some o->s.heap.get? b=some o/\H b=none:=λb o e=>
 ⟨I.base.keep b o (I.ok.bs b o e).1 (I.ok.bs b o e).2 (I.ok.nofr e) (I.ok.noex b o e),I.base.free b o (I.ok.bs b o e).1 (I.ok.bs b o e).2 (I.ok.noex b o e)⟩
theorem Cr.bk(I:Cr X pZ σ H s):∀b o,X.base.get? b=some o->s.heap.get? b=some o:=λb o e=>(I.bs b o e).1
theorem Cr.mod(I:Cr X pZ σ H s):Mod X.K X.mg X.base:=I.ok.mod
theorem Cr.kIn(I:Cr X pZ σ H s):X.K.In s.heap:=I.ok.mod.kin.keeps I.bk
theorem Cr.lt(I:Cr X pZ σ H s):X.env.locals<s.heap.objs.size:=let ⟨_,hn,_⟩:=I.loc;hn.lt
theorem Cr.sz(I:Cr X pZ σ H s):X.s_.heap.objs.size<=s.heap.objs.size:=AJ I.ok.above (Gs I.lt)
theorem Cr.nofs(I:Cr X pZ σ H s){a:AE}(h:s.heap.objs.size<=a):a∉X.fs:=λhb=>by
 obtain⟨_,o,ho,_⟩:=I.ok.funs.mem hb;exact wo (BP (Bu ho) (AJ I.sz h)) (DZ _)
theorem Cr.cne(I:Cr X pZ σ H s):∀x c,X.env.cells.lookup x=some c->c≠X.env.locals:=λx c e z=>by
 obtain⟨v,o,ho,hd⟩:=I.cell x c e;obtain⟨m,⟨o',es,d,a,b,_⟩,_⟩:=I.loc;rw[z,a]at ho;cases ho;rw[b]at hd;cases hd
theorem Cr.funs(I:Cr X pZ σ H s):s.heap.FunFrames X.base X.outer:=by
 have all:∀(l:List Env),(∀b∈kl l,b∈X.fs)->X.s_.heap.FunFrames X.base l->s.heap.FunFrames X.base l:=by
  intro l;induction l with
  |nil=>intro _ _;trivial
  |cons env r c=>
   intro hs f;obtain⟨g,⟨L,o,hf,hn,ho,hd⟩,d⟩:=f;have a:L∈X.fs:=hs L (by unfold kl;rw[FY,hf];exact BQ);obtain⟨sl,e⟩:=I.base.slot L o ho (I.ok.frf L a) a λz=>I.ok.exfs L z a;exact⟨g,⟨L,_,hf,hn,e,hd⟩,c (λb hb=>hs b (by unfold kl;rw[FY,hf];exact BG _ hb)) d⟩
 exact all X.outer (λ_ hb=>hb) I.ok.funs
theorem Cr.stack(I:Cr X pZ σ H s):s.heap.FunFrames X.base X.stack:=by
 rcases I.ok.stk with e|⟨e,hf⟩
 ·rw[e];exact I.funs
 ·rw[e];obtain⟨m,hn,_⟩:=I.loc;refine .cons (by rw[I.ok.kind];decide) hf hn ?_ I.funs;exact Heap.get?_none_of_le (AJ I.ok.bsz I.ok.above)
theorem Cr.stkSub(I:Cr X pZ σ H s):∀b∈kl X.stack,b∈X.env.locals::X.fs:=λb hb=>by
 rcases I.ok.stk with e|⟨e,hf⟩
 ·rw[e]at hb;exact BG _ hb
 ·rw[e]at hb;unfold kl at hb;rw[FY,hf]at hb;exact hb
theorem Cr.stkFree(I:Cr X pZ σ H s):∀b∈kl X.stack,H b=none:=λb hb=>by
 rcases AU.mp (I.stkSub b hb)with e|hb
 ·rw[e];exact I.free
 ·obtain⟨_,o,ho,_⟩:=I.ok.funs.mem hb;exact I.base.free b o ho (I.ok.frf b hb) λz=>I.ok.exfs b z hb
theorem Cr.step{g':Array GenState}{t':Nat}{d':Drawn}{ch:List AE}(I:Cr X pZ σ H s)(f:∀b∈ch,(b∈X.ex\/X.s_.heap.objs.size<=b)/\b≠X.env.locals/\(∀x c,X.env.cells.lookup x=some c->c≠b)/\∀p∈X.pn++pZ,p.1≠b)(keep:∀b o,b≠X.env.locals->b∉X.fs->b∉ch->s.heap.get? b=some o->H b=none->h'.get? b=some o)(slot:∀b o,b≠X.env.locals->b∈X.fs->b∉ch->s.heap.get? b=some o->H b=none->∃sl,h'.get? b=some {o with slots:=sl})(free:∀b o,b∉ch->s.heap.get? b=some o->H b=none->H' b=none)(there:∀b o,b∉ch->s.heap.get? b=some o->∃o',h'.get? b=some o')(tups:∀b xs,H b=some (.tup xs)->H' b=some (.tup xs))(frzs:∀b o u,H b=some (.frz o u)->H' b=some (.frz o u))(tbls:∀b ps,H b=some (.tbl ps)->∃more,H' b=some (.tbl (ps++more)))(ns:∀m,s.heap.Ns X.env.locals m->h'.Ns X.env.locals m)(hok:Md X.prog X.w H' h')(hg:Yc g'):
  Cr X pZ σ H' {s with heap:=h',gens:=g',drawn:=d',toks:=t'}:=by
 have t:∀b o,X.s_.heap.get? b=some o->b≠X.env.locals:=λb o e=>BE (BP (Bu e) I.ok.above);have h:∀b o,X.s_.heap.get? b=some o->b∉X.ex->b∉ch:=λb o e hx hb=>by
  rcases(f b hb).1 with z|z
  ·exact hx z
  ·exact wo (BP (Bu e) z) (DZ _)
 have g:∀x c,X.env.cells.lookup x=some c->∀v,s.heap.IsCell c v->h'.IsCell c v:=λx c e v y=>by
  obtain⟨o,ho,hd⟩:=y;have a:c∉ch:=λz=>(f c z).2.2.1 x c e rfl;by_cases hc:c∈X.fs
  ·obtain⟨sl,q⟩:=slot c o (I.cne x c e) hc a ho (I.freeC x c e);exact⟨_,q,hd⟩
  ·exact⟨o,keep c o (I.cne x c e) hc a ho (I.freeC x c e),hd⟩
 refine⟨I.ok,I.os,hg,⟨λb o e n hb hx=>?_,λb o e n hb hx=>?_,λb o e n hx=>?_,λb o e hx=>?_,λb xs e=>tups b xs (I.base.tups b xs e),λb o xs e=>frzs b o xs (I.base.frzs b o xs e),λb ps e=>?_⟩,?_,λx c e=>?_,?_,λx c e=>?_,λp hp=>?_,hok,I.len⟩
 ·exact keep b o (t b o e) hb (h b o e hx) (I.base.keep b o e n hb hx) (I.base.free b o e n hx)
 ·obtain⟨sl,j⟩:=I.base.slot b o e n hb hx;obtain⟨B,A⟩:=slot b _ (t b o e) hb (h b o e hx) j (I.base.free b o e n hx);exact⟨B,A⟩
 ·obtain⟨o',j⟩:=I.base.there b o e hx;exact free b o' (h b o e hx) j (I.base.free b o e n hx)
 ·obtain⟨o',j⟩:=I.base.there b o e hx;exact there b o' (h b o e hx) j
 ·obtain⟨E,j⟩:=I.base.tbls b ps e;obtain⟨D,A⟩:=tbls b _ j;exact⟨E++D,by rw[A,Array.append_assoc]⟩
 ·obtain⟨m,hn,F⟩:=I.loc;refine⟨m,ns m hn,λi x v j A G=>?_⟩;obtain⟨u,r,l⟩:=F i x v j A G;refine⟨u,r,?_⟩;rcases l with l|⟨k,c,e,z⟩
  ·exact .inl l
  ·exact .inr ⟨k,c,e,g x c e _ z⟩
 ·obtain⟨v,z⟩:=I.cell x c e;exact⟨v,g x c e v z⟩
 ·obtain⟨m,⟨o,_,_,ho,_⟩,_⟩:=I.loc;exact free _ o (λz=>(f _ z).2.1 rfl) ho I.free
 ·obtain⟨v,o,ho,hd⟩:=I.cell x c e;exact free c o (λz=>(f c z).2.2.1 x c e rfl) ho (I.freeC x c e)
 ·obtain⟨e,n,ne,C,d⟩:=I.pin p hp;have a:p.1∉ch:=λz=>(f p.1 z).2.2.2 p hp rfl;exact⟨keep p.1 p.2 ne C a e n,free p.1 p.2 a e n,ne,C,d⟩
theorem Cr.un{t':Nat}(I:Cr X pZ σ H s)(u:Un X.fs [] H H' s.heap h')(hok:Md X.prog X.w H' h'):Cr X pZ σ H' {s with heap:=h',toks:=t'}:=by
 obtain⟨m,⟨o,es,i,ho,r⟩,_⟩:=id I.loc;obtain⟨sl,g⟩:=u.any ho I.free (by simp);exact I.step (g':=s.gens) (d':=s.drawn) (ch:=[]) (λ_ z=>nomatch z) (λb o _ hb _ e n=>u.keep b o e n hb (by simp)) (λb o _ hb _ e n=>u.slot b o e n hb (by simp)) (λb o _ e n=>u.free b o e n (by simp)) (λb o _ e=>u.there b o e (by simp)) u.tups u.frzs u.tbls (λh hm=>by
  obtain⟨o',c,d,a,f⟩:=hm;rw[ho]at a;cases a;exact⟨_,c,d,g,f⟩) hok I.bare
theorem Cr.call{g':Array GenState}{t':Nat}{d':Drawn}{ch:List AE}(I:Cr X pZ σ H s)(u:Un (kl X.stack) ch H H' s.heap h')(hok:Md X.prog X.w H' h')(hg:Yc g')(d:∀b∈ch,(b∈X.ex\/X.s_.heap.objs.size<=b)/\b≠X.env.locals/\(∀x c,X.env.cells.lookup x=some c->c≠b)/\∀p∈X.pn++pZ,p.1≠b):
  Cr X pZ σ H' {s with heap:=h',gens:=g',drawn:=d',toks:=t'}:=by
 obtain⟨m,⟨o,es,k,ho,r⟩,_⟩:=id I.loc;obtain⟨sl,f⟩:=u.any ho I.free λz=>(d _ z).2.1 rfl;exact I.step (ch:=ch) d (λb o f hb hc e n=>u.keep b o e n (λz=>(AU.mp (I.stkSub b z)).elim f hb) hc) (λb o _ _ hc e n=>u.any e n hc) (λb o hc e n=>u.free b o e n hc) (λb o hc e=>u.there b o e hc) u.tups u.frzs u.tbls (λj hm=>by
  obtain⟨o',g,h,a,i⟩:=hm;rw[ho]at a;cases a;exact⟨_,g,h,f,i⟩) hok hg
theorem Cr.turned{t':Nat}{it:AE}(I:Cr X pZ σ H s)(k:∀b o,b≠it->s.heap.get? b=some o->h'.get? b=some o)(hn:H it=none)(d:it≠X.env.locals)(h1:it∈X.ex\/X.s_.heap.objs.size<=it)(h2:∀x c,X.env.cells.lookup x=some c->c≠it)(h3:∀p∈X.pn++pZ,p.1≠it):Cr X pZ σ H {s with heap:=h',toks:=t'}:=by
 have a:∀b u,H b=some u->b≠it:=λb u e z=>by rw[z,hn]at e;cases e
 refine I.step (g':=s.gens) (d':=s.drawn) (ch:=[it]) (λb hb=>?_) (λb o _ _ hc e _=>k b o (λz=>hc (by simp[z])) e) (λb o _ _ hc e _=>⟨o.slots,k b o (λz=>hc (by simp[z])) e⟩) (λ_ _ _ _ n=>n) (λb o hc e=>⟨o,k b o (λz=>hc (by simp[z])) e⟩) (λ_ _ e=>e) (λ_ _ _ e=>e) (λb ps e=>⟨#[],by rw[e];simp⟩) (λm hm=>?_) (λb u e=>?_) I.bare
 ·have e:b=it:=by simpa using hb
  subst e;exact⟨h1,d,h2,h3⟩
 ·obtain⟨o,es,f,ho,r⟩:=hm;exact⟨o,es,f,k _ o (CI d) ho,r⟩
 ·refine(I.hok b u e).stay (λc v hc q=>k c v ?_ q) (λ_ q=>q) λ_ _ q=>q;rcases hc with z|z
  ·rw[z];exact a b u e
  ·exact a c _ z
theorem Cr.tok(I:Cr X pZ σ H s)(t:Nat):Cr X pZ σ H {s with toks:=t}:=I.un (h':=s.heap) (t':=t) Un.refl I.hok
theorem Cr.kept{t':Nat}(I:Cr X pZ σ H s)(k:∀b u,s.heap.get? b=some u->h'.get? b=some u):Cr X pZ σ H {s with heap:=h',toks:=t'}:=I.un (Un.kept k) (I.hok.kept k)
theorem Cr.laid{a:AE}{o:HO}{t':Nat}(I:Cr X pZ σ H s)(k:∀b u,s.heap.get? b=some u->h'.get? b=some u)(hp:s.heap.objs.size<=a)(new:Dw X.prog X.w (upd H a o) h' a o):
  Cr X pZ σ (upd H a o) {s with heap:=h',toks:=t'}:=I.un (Un.laid k hp (I.hok.fresh hp)) (I.hok.laid k hp new)
theorem Cr.write{x e:AE}{o:HO}{t':Nat}(I:Cr X pZ σ H s)(c:sZ (H x))(d:e=x\/H e=some (.own x))(k:∀b u,b≠e->s.heap.get? b=some u->h'.get? b=some u)(a:∃u,h'.get? e=some u)(new:Dw X.prog X.w (upd H x o) h' x o):Cr X pZ σ (upd H x o) {s with heap:=h',toks:=t'}:=I.un (Un.write c d k a) (I.hok.write c d k a new)
theorem Cr.weak{a:List (Option V)}(I:Cr X pZ σ H s)(c:a.length=σ.length)(w:∀(i:Nat) v,a[i]?=some (some v)->σ[i]?=some (some v)):Cr X pZ a H s:=⟨I.ok,I.os,I.bare,I.base,let ⟨m,hn,b⟩:=I.loc;⟨m,hn,λi x v f e d=>b i x v f (w i v e) d⟩,I.cell,I.free,I.freeC,I.pin,I.hok,c.trans I.len⟩
theorem Cr.pins_of{a:List (AE×Obj)}(I:Cr X pZ σ H s)(h:∀p∈a,s.heap.get? p.1=some p.2/\H p.1=none/\p.1≠X.env.locals/\p.1∉X.fs/\∀v,p.2.data≠ .cell v):Cr X a σ H s:=⟨I.ok,I.os,I.bare,I.base,I.loc,I.cell,I.free,I.freeC,λp hp=>(BZ.mp hp).elim (λz=>I.pin p (Dq _ z)) (h p),I.hok,I.len⟩
theorem aC{N:List Bc}(c:N.Nodup){i j:Nat}{x:Bc}(a:N[i]?=some x)(b:N[j]?=some x):i=j:=by
 obtain⟨h1,e⟩:=AO.mp a;obtain⟨h2,d⟩:=AO.mp b;exact(List.getElem_inj c).mp (e.trans d.symm)
theorem WX{M:Model}{A:CH}{E:AB->AG->Prop}{i:Nat}{x:Bc}{v:V}{u:AB}{Q:Unit->AG->Prop}(I:Cr X pZ σ H s)(hN:X.N.Nodup)(hi:X.N[i]?=some x)(hx:ti X.env.scope x)(r:Dd v u)(h:∀s',Cr X pZ (σ.set i (some v)) H s'->(∃a,RN a s.heap s'.heap/\(a=X.env.locals\/X.env.cells.lookup x=some a))->Q () s')(hf:X.fn x=true\/X.env.scope.names.lookup x=some .local:=by first|exact .inl rfl|exact .inr rfl|assumption):BN M A (storeName X.env x u) Q E s:=by
 obtain⟨m,hn,hl⟩:=id I.loc;have K: (X.env.scope.kind== .class|| (X.env.scope.kind== .module&&X.env.locals != X.env.globals))=false:=by rw[I.ok.kind];rfl
 have C:i<σ.length:=by rw[I.len];exact(AO.mp hi).1
 have cne:=I.cne;have f:∀{a:AE} {h':Ct},(∃o,s.heap.get? a=some o/\H a=none)->RN a s.heap h'->Md X.prog X.w H h':=λ{a h'} ha hs b ob e=>by
  obtain⟨_,_,l⟩:=ha;refine(I.hok b ob e).stay (λc P hc q=>(hs.2 c ?_).trans q) (λ_ q=>q) λ_ _ q=>q;rintro rfl;rcases hc with rfl|hc
  ·rw[l]at e;cases e
  ·rw[l]at hc;cases hc
 rcases hx with B|B
 ·refine wpAny_storeName_local B hn (λh' Z hs=>?_) K;obtain⟨oL,_,_,Y,_⟩:=id hn;refine h _ ⟨I.ok,I.os,I.bare,⟨λb o e n hb hx=>?_,λb o e n hb hx=>?_,I.base.free,λb o e hx=>?_,I.base.tups,I.base.frzs,I.base.tbls⟩,⟨_,Z,λj y S g t e3=>?_⟩,λy c e=>?_,I.free,I.freeC,λp hp=>?_,f ⟨oL,Y,I.free⟩ hs,by simpa using I.len⟩ ⟨_,hs,.inl rfl⟩
  ·exact(hs.2 b (BE (BP (Bu e) I.ok.above))).trans (I.base.keep b o e n hb hx)
  ·obtain⟨sl,g⟩:=I.base.slot b o e n hb hx;exact⟨sl,(hs.2 b (BE (BP (Bu e) I.ok.above))).trans g⟩
  ·obtain⟨o',g⟩:=I.base.there b o e hx;exact⟨o',(hs.2 b (BE (BP (Bu e) I.ok.above))).trans g⟩
  ·by_cases D:j=i
   ·subst D;rw[hi]at g;cases g;rw[List.getElem?_set_self C]at t;cases t;exact⟨u,r,.inl ⟨B,by simp⟩⟩
   ·rw[QR (CI D)]at t;obtain⟨T,U,q⟩:=hl j y S g t e3;refine⟨T,U,?_⟩;rcases q with⟨k,e⟩|⟨k,c,e,z⟩
    ·refine .inl ⟨k,?_⟩;have:y≠x:=λe=>D (aC hN g (e ▸ hi));simp[this,e]
    ·exact .inr ⟨k,c,e,z.sameBut hs (cne y c e)⟩
  ·obtain⟨P,z⟩:=I.cell y c e;exact⟨P,z.sameBut hs (cne y c e)⟩
  ·obtain⟨e,n,ne,W,d⟩:=I.pin p hp;exact⟨(hs.2 p.1 ne).trans e,n,ne,W,d⟩
 ·have F:X.fn x=true:=by
   rcases hf with z|z
   ·exact z
   ·rw[z]at B;cases B
  obtain⟨c,hc⟩:=I.ok.has x (.inl B);obtain⟨P,z⟩:=I.cell x c hc;refine wpAny_storeName_cell I.ok.kind B hc z (λh' O hs=>?_);obtain⟨oc,J,G⟩:=id z;refine h {s with heap:=h'} ⟨I.ok,I.os,I.bare,⟨λb o e n hb hx=>?_,λb o e n hb hx=>?_,I.base.free,λb o e hx=>?_,I.base.tups,I.base.frzs,I.base.tbls⟩,⟨m,hn.sameBut hs (CI (cne x c hc)),λj y S g t e3=>?_⟩,λy R e=>?_,I.free,I.freeC,λp hp=>?_,f ⟨oc,J,I.freeC x c hc⟩ hs,by simpa using I.len⟩ ⟨c,hs,.inr hc⟩
  ·exact(hs.2 b (BE (BP (Bu e) (I.ok.cab x c F hc)))).trans (I.base.keep b o e n hb hx)
  ·obtain⟨sl,g⟩:=I.base.slot b o e n hb hx;exact⟨sl,(hs.2 b (BE (BP (Bu e) (I.ok.cab x c F hc)))).trans g⟩
  ·obtain⟨o',g⟩:=I.base.there b o e hx;exact⟨o',(hs.2 b (BE (BP (Bu e) (I.ok.cab x c F hc)))).trans g⟩
  ·by_cases D:j=i
   ·subst D;rw[hi]at g;cases g;rw[List.getElem?_set_self C]at t;cases t;exact⟨u,r,.inr ⟨.inl B,c,hc,O⟩⟩
   ·rw[QR (CI D)]at t;obtain⟨T,U,q⟩:=hl j y S g t e3;refine⟨T,U,?_⟩;rcases q with q|⟨k,R,e,z'⟩
    ·exact .inl q
    ·refine .inr ⟨k,R,e,z'.sameBut hs ?_⟩;rintro rfl;exact D (aC hN g (I.ok.inj _ _ _ e hc ▸ hi))
  ·by_cases L:R=c
   ·subst L;exact⟨_,O⟩
   ·obtain⟨w2,z2⟩:=I.cell y R e;exact⟨w2,z2.sameBut hs L⟩
  ·obtain⟨e,n,ne,W,d⟩:=I.pin p hp;refine⟨(hs.2 p.1 ?_).trans e,n,ne,W,d⟩;intro q;rw[q,J]at e;have q':oc=p.2:=Ba e;exact d P (by rw[<-q'];exact G)
theorem ZF{M:Model}{A:CH}{E:AB->AG->Prop}{i:Nat}{x:Bc}{v:V}{u:AB}{Q:Unit->AG->Prop}(I:Cr X pZ σ H s)(a:X.N.Nodup)(hi:X.N[i]?=some x)(hx:ti X.env.scope x)(r:Dd v u)(h:∀s',Cr X pZ (σ.set i (some v)) H s'->Q () s')(hf:X.fn x=true\/X.env.scope.names.lookup x=some .local:=by first|exact .inl rfl|exact .inr rfl|assumption):BN M A (storeName X.env x u) Q E s:=WX I a hi hx r (λs' b _=>h s' b) hf
theorem Cr.call'{s':AG}{ch:List AE}(I:Cr X pZ σ H s)(ho:s'.os=s.os)(u:Un (kl X.stack) ch H H' s.heap s'.heap)(hok:Md X.prog X.w H' s'.heap)(hg:Yc s'.gens)(a:∀b∈ch,(b∈X.ex\/X.s_.heap.objs.size<=b)/\b≠X.env.locals/\(∀x c,X.env.cells.lookup x=some c->c≠b)/\∀p∈X.pn++pZ,p.1≠b):Cr X pZ σ H' s':=by
 obtain⟨h',g',d',t',o'⟩:=s';have e:o'=s.os:=ho;subst e;exact I.call (g':=g') (t':=t') (d':=d') u hok hg a
end
abbrev XK:=AB->Option AE->Hp->Prop
abbrev St:=List (Option V)
abbrev VK:=V->Hp->Prop
abbrev TE:=St->Hp->VK->Prop
abbrev TT:=St->Hp->(Bool->Hp->Prop)->Prop
abbrev TA:=St->Hp->(List V->Hp->Prop)->Prop
structure WL where
 nx:St->Hp->Prop
 rt:VK
 bk:St->Hp->Prop:=λ_ _=>False
 ct:St->Hp->Prop:=λ_ _=>False
abbrev TS:=WL->St->Hp->Prop
def EP(X:Cx)(pZ:List (AE×Obj))(σ:St)(Q:VK)(u:AB)(s':AG):Prop:=∃v H',Cr X pZ σ H' s'/\Dd v u/\Q v H'
def TP(X:Cx)(pZ:List (AE×Obj))(σ:St)(Q:Bool->Hp->Prop)(b:Bool)(s':AG):Prop:=∃H',Cr X pZ σ H' s'/\Q b H'
def AP(X:Cx)(pZ:List (AE×Obj))(σ:St)(Q:List V->Hp->Prop)(us:List AB)(s':AG):Prop:=∃vs H',Cr X pZ σ H' s'/\Cv vs us/\Q vs H'
def SP(X:Cx)(pZ:List (AE×Obj))(D:WL)(f:Flow)(s':AG):Prop:=match f with
 |.next=>∃a H',Cr X pZ a H' s'/\D.nx a H'
 |.brk=>∃a H',Cr X pZ a H' s'/\D.bk a H'
 |.cont=>∃a H',Cr X pZ a H' s'/\D.ct a H'
 |.ret u=>∃v a H',Cr X pZ a H' s'/\Dd v u/\D.rt v H'
def PE(X:Cx)(e:Expr)(t:TE):Prop:=∀(pZ:List (AE×Obj)) (s:AG) (σ:St) (H:Hp) (Q:VK),Cr X pZ σ H s->t σ H Q->BN (model X.prog X.w) X.A (Ea e X.env) (EP X pZ σ Q) X.xe s
def PT(X:Cx)(e:Expr)(t:TT):Prop:=∀(pZ:List (AE×Obj)) (s:AG) (σ:St) (H:Hp) (Q:Bool->Hp->Prop),Cr X pZ σ H s->t σ H Q->BN (model X.prog X.w) X.A (isTrue e X.env (Ea e X.env)) (TP X pZ σ Q) X.xe s
def PW(X:Cx)(e:Expr)(t:TT):Prop:=∀(whole:Sem AB) (pZ:List (AE×Obj)) (s:AG) (σ:St) (H:Hp) (Q:Bool->Hp->Prop),Cr X pZ σ H s->t σ H Q->BN (model X.prog X.w) X.A (isTrue e X.env whole) (TP X pZ σ Q) X.xe s
theorem PW.pt{X:Cx}{e:Expr}{t:TT}(h:PW X e t):PT X e t:=h _
def PA(X:Cx)(es:List Expr)(t:TA):Prop:=∀(pos:FX) (pZ:List (AE×Obj)) (s:AG) (σ:St) (H:Hp) (Q:List V->Hp->Prop),Cr X pZ σ H s->t σ H Q->BN (model X.prog X.w) X.A (spliced (Fq pos (BW es X.env))) (AP X pZ σ Q) X.xe s
def PS(X:Cx)(st:JI)(t:TS):Prop:=∀(pZ:List (AE×Obj)) (s:AG) (σ:St) (H:Hp) (D:WL),Cr X pZ σ H s->t D σ H->BN (model X.prog X.w) X.A (exec st X.env) (SP X pZ D) X.xe s
def XQ(X:Cx)(st:List JI)(t:TS):Prop:=∀(pZ:List (AE×Obj)) (s:AG) (σ:St) (H:Hp) (D:WL),Cr X pZ σ H s->t D σ H->BN (model X.prog X.w) X.A (execs st X.env) (SP X pZ D) X.xe s
theorem Ei{b:Type}{t:Sem b}{Q c:b->AG->Prop}{M:Model}{A:CH}{E:AB->AG->Prop}{s:AG}(h:BN M A t Q E s)(d:∀a s,Q a s->c a s):BN M A t c E s:=Ia h d λ_ _ x=>x
section
variable{X:Cx}
def rg(i:Nat):TE:=λσ H Q=>∃v,σ[i]?=some (some v)/\Q v H
def tC(v:V):TE:=λ_ H Q=>Q v H
theorem pO{i:Nat}{x:Bc}{pos:FX}(j:X.N[i]?=some x)(f:tK X.env.scope x)(hd: (x==("__debug__" :Bc))=false:=by decide)(d: (x==("__classdict__" :Bc))=false:=by decide):PE X (.Name x pos) (rg i):=by
 intro pZ s σ H Q I h;obtain⟨v,e,h⟩:=h;obtain⟨m,hn,g⟩:=I.loc;obtain⟨u,r,l⟩:=g i x v j e f;have fin:EP X pZ σ Q u s:=⟨v,H,I,r,h⟩;rcases l with⟨b,hm⟩|⟨b,c,hc,a⟩
 ·exact wpAny_Name (UZ I.ok.kind b hn hm fin) hd
 ·rcases b with b|b
  ·exact wpAny_Name (wpAny_loadName_cell I.ok.kind b hc a fin) hd
  ·exact wpAny_Name (wpAny_loadName_free I.ok.kind b hc a fin d) hd
theorem AH{i j pos}:PE X (.Constant (.int i) j pos) (tC (.int i)):=λ_ _ _ H _ I h=>wpAny_Constant_int ⟨.int i,H,I.tok _,⟨_,rfl⟩,h⟩
theorem DA{b j pos}:PE X (.Constant (.bool b) j pos) (tC (.bl b)):=λ_ _ _ H _ I h=>Constant_bool ⟨.bl b,H,I,rfl,h⟩
theorem CO{j pos}:PE X (.Constant .none j pos) (tC .non):=λ_ _ _ H _ I h=>Constant_none ⟨.non,H,I,rfl,h⟩
theorem AQ{x j pos}:PE X (.Constant (.str x) j pos) (tC (.str x)):=λ_ _ _ H _ I h=>Calls.Constant_str ⟨.str x,H,I.tok _,⟨_,rfl⟩,h⟩
def Gl(X:Cx)(x:Bc):Prop:=X.env.kindOf x=some .globalImplicit
theorem Qj{E:AB->AG->Prop}{pZ:List (AE×Obj)}{s:AG}{σ:St}{H:Hp}{x:Bc}{u:AB}{pos:FX}{Q:AB->AG->Prop}(I:Cr X pZ σ H s)(hg:Gl X x)(hm:X.mg x=some u)(h:Q u s)(hd: (x==("__debug__" :Bc))=false:=by decide):BN (model X.prog X.w) X.A (Ea (.Name x pos) X.env) Q E s:=Calls.Name_function_global I.ok.kind hg (Calls.loadGlobal_global (by rw[I.ok.glob];exact I.mod.glob.keeps I.bk) hm h) hd
theorem Ku{E:AB->AG->Prop}{pZ:List (AE×Obj)}{s:AG}{σ:St}{H:Hp}{x:Bc}{u:AB}{pos:FX}{Q:AB->AG->Prop}(I:Cr X pZ σ H s)(hg:Gl X x)(hm:X.mg x=none)(a:Co x=some u)(h:Q u s)(hn:x≠ "__name__":=by decide)(hd: (x==("__debug__" :Bc))=false:=by decide):BN (model X.prog X.w) X.A (Ea (.Name x pos) X.env) Q E s:=by
 obtain⟨mb,h1,h2⟩:=I.mod.blt;exact Calls.Name_function_global I.ok.kind hg (Calls.loadGlobal_builtin (by rw[I.ok.glob];exact I.mod.glob.keeps I.bk) hm (by rw[I.ok.blt];exact h1.keeps I.bk) ((h2 x hn).trans a) h) hd
theorem YI{x:Bc}{v:V}{u:AB}{pos:FX}(hg:Gl X x)(hm:X.mg x=some u)(r:Dd v u)(hd: (x==("__debug__" :Bc))=false:=by decide):PE X (.Name x pos) (tC v):=λ_ _ _ H _ I h=>Qj I hg hm ⟨v,H,I,r,h⟩ hd
theorem mz{x:Bc}{v:V}{u:AB}{pos:FX}(hg:Gl X x)(hm:X.mg x=none)(a:Co x=some u)(r:Dd v u)(hn:x≠ "__name__":=by decide)(hd: (x==("__debug__" :Bc))=false:=by decide):PE X (.Name x pos) (tC v):=λ_ _ _ H _ I h=>Ku I hg hm a ⟨v,H,I,r,h⟩ hn hd
variable{a b:Expr}{ta tb:TE}{pos:FX}
def PC(X:Cx)(op:CmpOp)(a b:Expr)(t:TE):Prop:=∀(pZ:List (AE×Obj)) (s:AG) (σ:St) (H:Hp) (Q:VK),Cr X pZ σ H s->t σ H Q->BN (model X.prog X.w) X.A (Ea a X.env) (λv d=>BN (model X.prog X.w) X.A (Ea b X.env) (λu c=>BN (model X.prog X.w) X.A (DL op v u) (EP X pZ σ Q) X.xe c) X.xe d) X.xe s
def tB(t:TE):TT:=λσ H Q=>t σ H λx H1=>∃c,x= .bl c/\Q c H1
theorem pP{op:CmpOp}{t:TE}(h:PC X op a b t)(h1:KL op b=false:=by first|exact nobehind _ Aa Aa|rfl):PE X (.Compare a [op] [b] pos) t:=λpZ s σ H Q I hw=>wpAny_Compare1 (h pZ s σ H Q I hw) h1
theorem pN{op:CmpOp}{t:TE}(h:PC X op a b t)(h1:KL op b=false:=by first|exact nobehind _ Aa Aa|rfl):PT X (.Compare a [op] [b] pos) (tB t):=by
 intro pZ s σ H Q I hw;refine wpAny_isTrue_Compare1 (Ei (h pZ s σ H _ I hw) λv s1 h1=>Ei h1 λu s2 h2=>Ei h2 λc j e=>?_) h1;obtain⟨x,H1,i,f,g⟩:=e;obtain⟨d,rfl,q⟩:=g;cases f;exact Ge ⟨H1,i,q⟩
theorem BI{e:Expr}{t:TE}(h:PE X e t)(f:∀whole,isTrue e X.env whole=(do let v <-whole;standAt e.pos;holding [v] (truthy v)):=by intro _;rfl):PT X e (tB t):=by
 intro pZ s σ H Q I hw;refine isTrue_plain (Ei (h pZ s σ H _ I hw) λv s1 a=>?_) (f _);obtain⟨x,H1,g,b,c⟩:=a;obtain⟨d,rfl,q⟩:=c;cases b;exact Ge ⟨H1,g,q⟩
variable{tA tB':TT}{rest:List Expr}
def ub(t u:TT):TT:=λσ H Q=>t σ H λc H1=>if c=true then u σ H1 Q else Q false H1
def vI(t u:TT):TT:=λσ H Q=>t σ H λc H1=>if c=true then Q true H1 else u σ H1 Q
def tV(t:TT):TT:=λσ H Q=>t σ H λc H1=>Q (!c) H1
theorem Fv(ha:PT X a tA):PW X (.BoolOp .And [a] pos) tA:=by
 intro b pZ s σ H Q I h;refine isTrue_and (Ei (ha pZ s σ H Q I h) λc s1 e=>?_);cases c with
 |true=>exact isTrue_and_nil e
 |false=>exact e
theorem FS(ha:PT X a tA):PW X (.BoolOp .Or [a] pos) tA:=by
 intro b pZ s σ H Q I h;refine isTrue_or (Ei (ha pZ s σ H Q I h) λc s1 e=>?_);cases c with
 |false=>exact isTrue_or_nil e
 |true=>exact e
theorem Gm(ha:PT X a tA)(hb:PW X (.BoolOp .And (b::rest) pos) tB'):PW X (.BoolOp .And (a::b::rest) pos) (ub tA tB'):=by
 intro g pZ s σ H Q I h;refine isTrue_and (Ei (ha pZ s σ H _ I h) λc s1 d=>?_);obtain⟨H1,f,e⟩:=d;cases c with
 |true=>exact hb g pZ s1 σ H1 Q f e
 |false=>exact⟨H1,f,e⟩
theorem GA(ha:PT X a tA)(hb:PW X (.BoolOp .Or (b::rest) pos) tB'):PW X (.BoolOp .Or (a::b::rest) pos) (vI tA tB'):=by
 intro g pZ s σ H Q I h;refine isTrue_or (Ei (ha pZ s σ H _ I h) λc s1 d=>?_);obtain⟨H1,f,e⟩:=d;cases c with
 |true=>exact⟨H1,f,e⟩
 |false=>exact hb g pZ s1 σ H1 Q f e
theorem CK(ha:PT X a tA):PT X (.UnaryOp .Not a pos) (tV tA):=by
 intro pZ s σ H Q I h;exact isTrue_not (ha pZ s σ H (λc H1=>Q (!c) H1) I h)
def rD(ta tb:TE):TE:=λσ H Q=>ta σ H λx H1=>∃c,x= .bl c/\if c=true then tb σ H1 Q else Q (.bl false) H1
def rj(ta:TE):TE:=λσ H Q=>ta σ H λx H1=>∃c,x= .bl c/\Q (.bl (!c)) H1
theorem Im{op}{t:TE}(h:PE X a t):PE X (.BoolOp op [a] pos) t:=λpZ s σ H Q I hw=>BoolOp_one (h pZ s σ H Q I hw)
theorem Io(ha:PE X a ta)(hb:PE X (.BoolOp .And (b::rest) pos) tb):PE X (.BoolOp .And (a::b::rest) pos) (rD ta tb):=by
 intro pZ s σ H Q I h;refine BoolOp_and (Ei (ha pZ s σ H _ I h) λv s1 d=>?_);obtain⟨x,H1,f,g,e⟩:=d;obtain⟨c,rfl,e⟩:=e;cases g;refine Ge ?_;cases c with
 |true=>exact hb pZ s1 σ H1 Q f e
 |false=>exact⟨.bl false,H1,f,rfl,e⟩
theorem jp(ha:PE X a ta):PE X (.UnaryOp .Not a pos) (rj ta):=by
 intro pZ s σ H Q I h;refine UnaryOp_ (Ei (ha pZ s σ H _ I h) λv s1 b=>?_);obtain⟨x,H1,f,e,d⟩:=b;obtain⟨c,rfl,d⟩:=d;cases e;exact not_of (Ge ⟨.bl (!c),H1,f,rfl,d⟩)
def vJ(t:TT)(ta tb:TE):TE:=λσ H Q=>t σ H λc H1=>if c=true then ta σ H1 Q else tb σ H1 Q
theorem Gb{c:Expr}(hc:PT X c tA)(ha:PE X a ta)(hb:PE X b tb):PE X (.IfExp c a b pos) (vJ tA ta tb):=by
 intro pZ s σ H Q I h;refine wpAny_IfExp (Ei (hc pZ s σ H _ I h) λd s1 e=>?_);obtain⟨H1,g,f⟩:=e;cases d with
 |true=>exact ha pZ s1 σ H1 Q g f
 |false=>exact hb pZ s1 σ H1 Q g f
end
def Cj(K:AF)(H:Hp)(a:AE)(xs:List V):Prop:=Rd H a (.lst xs)\/
  ∃(o:Obj) (b:Array AB) (n:Nat),K.lookup a=some o/\o.cls= .type "list" /\o.dict=none/\o.data= .seq b n/\b.size<=sizeLine/\Cv xs b.toList
def DW(K:AF)(H:Hp)(a:AE)(xs:List V):Prop:=Rd H a (.tup xs)\/
  ∃(o:Obj) (b:Array AB) (n:Nat),K.lookup a=some o/\o.cls= .type "tuple" /\o.data= .seq b n/\b.size<=sizeLine/\Cv xs b.toList
def vf:AB->Option V
 |.none=>some .non
 |.bool b=>some (.bl b)
 |.int i _=>some (.int i)
 |.str x _=>some (.str x)
 |.bytes b _=>some (.byt b)
 |.float b _=>some (.flt b)
 |.ref a=>some (.ref a)
 |.type n=>some (.ty n)
 |_=>none
theorem Dd.abs{x:V}{u:AB}(r:Dd x u):vf u=some x:=by
 cases x with
 |non=>cases r;rfl
 |bl _=>cases r;rfl
 |int _=>obtain⟨t,rfl⟩:=r;rfl
 |str _=>obtain⟨t,rfl⟩:=r;rfl
 |byt _=>obtain⟨t,rfl⟩:=r;rfl
 |flt _=>obtain⟨t,rfl⟩:=r;rfl
 |ref _=>cases r;rfl
 |ty _=>cases r;rfl
theorem Dd.inj{x y:V}{u:AB}(r:Dd x u)(q:Dd y u):x=y:=Ba (r.abs.symm.trans q.abs)
theorem Cv.inj:∀{xs ys:List V} {us:List AB},Cv xs us->Cv ys us->xs=ys
 |_,_,_,.nil,.nil=>rfl
 |_,_,_,.cons r t,.cons a t'=>by rw[r.inj a,Cv.inj t t']
section
variable{X:Cx}{pZ:List (AE×Obj)}{σ:St}{H:Hp}{s:AG}{a:AE}{xs ys:List V}
theorem Cj.of{K:AF}(h:H a=some (.lst xs)):Cj K H a xs:=.inl (.inl h)
theorem DW.of{K:AF}(h:H a=some (.tup xs)):DW K H a xs:=.inl (.inl h)
theorem Cr.list(I:Cr X pZ σ H s)(h:Cj X.K H a xs):∃b:List AB,Cv xs b/\PlainL s.heap a b.toArray/\xs.length<=sizeLine:=by
 rcases h with h|⟨o,b,n,c,hc,hd,hs,hz,r⟩
 ·obtain⟨z,b,n,r,e⟩:=h.ok I.hok;exact⟨b,r,⟨_,n,e,rfl,rfl,rfl⟩,z⟩
 ·refine⟨b.toList,r,⟨o,n,I.kIn a o c,hc,hd,by simpa using hs⟩,?_⟩;have e:=r.length;simp only[EJ]at e
  lia
theorem Cr.tuple(I:Cr X pZ σ H s)(h:DW X.K H a xs):∃b:List AB,Cv xs b/\IsTup s.heap a b.toArray/\xs.length<=sizeLine:=by
 rcases h with h|⟨o,b,n,c,hc,hs,hz,r⟩
 ·obtain⟨z,b,r,p⟩:=h.ok I.hok;exact⟨b,r,p,z⟩
 ·refine⟨b.toList,r,⟨o,I.kIn a o c,hc,n,by simpa using hs⟩,?_⟩;have e:=r.length;simp only[EJ]at e
  lia
theorem Cr.list_inj(I:Cr X pZ σ H s)(h:Cj X.K H a xs)(h':Cj X.K H a ys):xs=ys:=by
 obtain⟨b,r,⟨o,n,e,_,_,d⟩,_⟩:=I.list h;obtain⟨its',f,⟨o',g,c,_,_,d'⟩,_⟩:=I.list h';rw[e]at c;cases c;rw[d]at d';injection d' with d1 _;have:b=its':=by simpa using wn Array.toList d1
 subst this;exact r.inj f
theorem Cr.tuple_inj(I:Cr X pZ σ H s)(h:DW X.K H a xs)(h':DW X.K H a ys):xs=ys:=by
 obtain⟨b,r,⟨o,e,_,n,d⟩,_⟩:=I.tuple h;obtain⟨its',f,⟨o',c,_,g,d'⟩,_⟩:=I.tuple h';rw[e]at c;cases c;rw[d]at d';injection d' with d1 _;have:b=its':=by simpa using wn Array.toList d1
 subst this;exact r.inj f
end
abbrev Cx.wish(X:Cx)(E:AB->AG->Prop):Cx:={X with xe:=E}
abbrev Cx.nox(X:Cx):Cx:=X.wish λ_ _=>False
theorem Cx.Ok.wish{X:Cx}(ok:X.Ok)(E:AB->AG->Prop): (X.wish E).Ok:=⟨ok.mod,ok.kind,ok.glob,ok.blt,ok.above,ok.inj,ok.has,ok.cab,ok.hd,ok.frames,ok.stk,ok.exf,ok.bs,ok.bsz,ok.noex,ok.exfs,ok.funs,ok.frf,ok.hs⟩
theorem Cx.Ok.unwish{X:Cx}{E:AB->AG->Prop}(ok: (X.wish E).Ok):X.Ok:=⟨ok.mod,ok.kind,ok.glob,ok.blt,ok.above,ok.inj,ok.has,ok.cab,ok.hd,ok.frames,ok.stk,ok.exf,ok.bs,ok.bsz,ok.noex,ok.exfs,ok.funs,ok.frf,ok.hs⟩
section
variable{X:Cx}{pZ:List (AE×Obj)}{σ:St}{H:Hp}{s:AG}{E:AB->AG->Prop}
theorem Cr.wish(I:Cr X pZ σ H s)(E:AB->AG->Prop):Cr (X.wish E) pZ σ H s:=⟨I.ok.wish E,I.os,I.bare,I.base,I.loc,I.cell,I.free,I.freeC,I.pin,I.hok,I.len⟩
theorem Cr.unwish(I:Cr (X.wish E) pZ σ H s):Cr X pZ σ H s:=⟨I.ok.unwish,I.os,I.bare,I.base,I.loc,I.cell,I.free,I.freeC,I.pin,I.hok,I.len⟩
theorem SP.unwish{D:WL}{f:Flow}{s':AG}(h:SP (X.wish E) pZ D f s'):SP X pZ D f s':=by
 cases f with
 |next=>obtain⟨a,H',I,q⟩:=h;exact⟨a,H',I.unwish,q⟩
 |brk=>obtain⟨a,H',I,q⟩:=h;exact⟨a,H',I.unwish,q⟩
 |cont=>obtain⟨a,H',I,q⟩:=h;exact⟨a,H',I.unwish,q⟩
 |ret u=>obtain⟨v,a,H',I,r,q⟩:=h;exact⟨v,a,H',I.unwish,r,q⟩
theorem XQ.nox{st:List JI}{t:TS}(h:XQ X.nox st t):XQ X st t:=λpZ s σ H D I hw=>
 Ia (h pZ s σ H D (I.wish _) hw) (λ_ _ q=>q.unwish) λ_ _ z=>Fg z
end
section
variable{X:Cx}{st:JI}{rest:List JI}{t u:TS}{e:Expr}{te:TE}{pos:FX}
def rk:TS:=λD σ H=>D.nx σ H
def tS(t u:TS):TS:=λD σ H=>t {D with nx:=u D} σ H
theorem Bd:XQ X [] rk:=λ_ _ σ H _ I h=>wpAny_execs_nil ⟨σ,H,I,h⟩
theorem AV(h1:PS X st t)(h2:XQ X rest u):XQ X (st::rest) (tS t u):=by
 intro pZ s σ H D I h;refine wpAny_execs_cons (Ei (h1 pZ s σ H {D with nx:=u D} I h) λf s1 q=>?_);cases f with
 |next=>
  obtain⟨a,H',b,q⟩:=q;exact h2 pZ s1 a H' D b q
 |ret v=>exact q
 |brk=>exact q
 |cont=>exact q
theorem AD(h1:PS X st t):XQ X [st] t:=by
 intro pZ s σ H D I h;refine wpAny_execs_cons (Ei (h1 pZ s σ H D I h) λf s1 q=>?_);cases f with
 |next=>exact wpAny_execs_nil q
 |ret v=>exact q
 |brk=>exact q
 |cont=>exact q
theorem Cr.quiet{pZ:List (AE×Obj)}{σ:St}{H:Hp}{s:AG}(I:Cr X pZ σ H s):interactive X.env=false:=by simp[interactive,I.ok.kind]
def rs(te:TE):TS:=λD σ H=>te σ H λ_ H1=>D.nx σ H1
theorem EX(c:PE X e te)(hs:swapsWith e none pos.line X.env=IX false:=by rfl):PS X (.Expr e pos) (rs te):=by
 intro pZ s σ H D I h;exact wpAny_Expr_any (Ei (c pZ s σ H _ I h) λv s1 a=>(by obtain⟨x,H1,d,f,b⟩:=a;exact⟨σ,H1,d,b⟩)) I.quiet hs
def tU(te:TE):TS:=λD σ H=>te σ H D.rt
theorem AN(d:PE X e te):PS X (.Return (some e) pos) (tU te):=by
 intro pZ s σ H D I h;exact wpAny_Return_some (Ei (d pZ s σ H _ I h) λv s1 a=>(by obtain⟨x,H1,f,b,c⟩:=a;exact⟨x,σ,H1,f,b,c⟩))
def tX(c:TT)(t u:TS):TS:=λD σ H=>c σ H λb H1=>if b=true then t D σ H1 else u D σ H1
theorem BH{c:Expr}{a b:List JI}{tc:TT}(hc:PT X c tc)(ha:XQ X a t)(hb:XQ X b u):PS X (.If c a b pos) (tX tc t u):=by
 intro pZ s σ H D I h;refine wpAny_If (Ei (hc pZ s σ H _ I h) λd s1 e=>?_);obtain⟨H1,g,f⟩:=e;cases d with
 |true=>exact ha pZ s1 σ H1 D g f
 |false=>exact hb pZ s1 σ H1 D g f
def pu:TS:=λ_ _ _=>False
theorem IG:PS X st pu:=λ_ _ _ _ _ _ h=>h.elim
end
abbrev TG:=V->St->Hp->(St->Hp->Prop)->Prop
abbrev oY:=List V->St->Hp->(St->Hp->Prop)->Prop
def PG(X:Cx)(target:Expr)(t:TG):Prop:=∀(pZ:List (AE×Obj)) (s:AG) (σ:St) (H:Hp) (v:V) (u:AB) (Q:St->Hp->Prop),Cr X pZ σ H s->Dd v u->t v σ H Q->BN (model X.prog X.w) X.A (assign target X.env u) (λ_ s'=>∃a H',Cr X pZ a H' s'/\Q a H') X.xe s
def qT(X:Cx)(ts:List Expr)(t:oY):Prop:=∀(pZ:List (AE×Obj)) (s:AG) (σ:St) (H:Hp) (vs:List V) (us:List AB) (Q:St->Hp->Prop),Cr X pZ σ H s->Cv vs us->t vs σ H Q->BN (model X.prog X.w) X.A (assignInOrder ((NC ts X.env).map (·.2)) us) (λ_ s'=>∃a H',Cr X pZ a H' s'/\Q a H') X.xe s
section
variable{X:Cx}{pos:FX}
def fu(i:Nat):TG:=λv σ H Q=>Q (σ.set i (some v)) H
theorem Cb{i:Nat}{x:Bc}(a:X.N.Nodup)(hi:X.N[i]?=some x)(hx:ti X.env.scope x)(hf:X.fn x=true\/X.env.scope.names.lookup x=some .local:=by first|exact .inl rfl|exact .inr rfl|assumption):PG X (.Name x pos) (fu i):=by
 intro pZ s σ H v u Q I r h;exact wpAny_assign_Name (ZF I a hi hx r (λs' b=>⟨_,H,b,h⟩) hf)
def uY:oY:=λvs σ H Q=>vs=[]/\Q σ H
def sJ(t:TG)(u:oY):oY:=λvs σ H Q=>∃v r,vs=v::r/\t v σ H λa H'=>u r a H' Q
theorem PV:qT X [] uY:=by
 intro pZ s σ H vs us Q I r h;obtain⟨e,h⟩:=h;subst e;cases r;exact assignInOrder_nil ⟨σ,H,I,h⟩
theorem Ha{e:Expr}{es:List Expr}{t:TG}{u:oY}(h1:PG X e t)(h2:qT X es u)(hs: (NC (e::es) X.env).map (·.2)=assign e X.env:: (NC es X.env).map (·.2):=by rfl):qT X (e::es) (sJ t u):=by
 intro pZ s σ H vs us Q I r h;obtain⟨v,i,f,h⟩:=h;subst f;cases r with
 |cons r c=>
  rw[hs];refine assignInOrder_cons (Ei (h1 pZ s σ H _ _ _ I r h) λ_ s1 a=>?_);obtain⟨b,H1,g,d⟩:=a;exact h2 pZ s1 b H1 _ _ Q g c d
def sI(K:AF)(n:Nat)(t:oY):TG:=λv σ H Q=>∃a xs,v= .ref a/\DW K H a xs/\xs.length=n/\t xs σ H Q
theorem Ue{es:List Expr}{k:Nat}{t:oY}{n:Nat}(hc:X.calm=true)(h:qT X es t)(hn: (NC es X.env).length=n:=by rfl)(c: (NC es X.env).findIdx? (·.1)=none:=by rfl):PG X (.Tuple es k pos) (sI X.K n t):=by
 intro pZ s σ H v u Q I r hw;obtain⟨a,xs,l,i,j,hw⟩:=hw;subst l;cases r;obtain⟨f,d,g,hz⟩:=I.tuple i;refine assign_Tuple_tuple (I.ok.hd hc) g (by simp[hn,<-j,d.length]) c λh' hx=>?_;have m:Cr X pZ σ H {s with heap:=h'}:=I.kept (t':=s.toks) λb o e=>hx b o (BE (Bu e)) e;exact h pZ _ σ H xs _ Q m (by simpa using d) hw
def rC(te:TE)(g:TG):TS:=λD σ H=>te σ H λx H1=>g x σ H1 D.nx
theorem BV{i:Nat}{x:Bc}{e:Expr}{te:TE}{pos':FX}(f:X.N.Nodup)(hi:X.N[i]?=some x)(hx:ti X.env.scope x)(d:PE X e te)(hs:swapsWith e (some (.Name x pos')) pos.line X.env=IX false:=by rfl)(hf:X.fn x=true\/X.env.scope.names.lookup x=some .local:=by first|exact .inl rfl|exact .inr rfl|assumption):
  PS X (.Assign [.Name x pos'] e pos) (rC te (fu i)):=by
 intro pZ s σ H D I h;refine wpAny_Assign_Name (Ei (d pZ s σ H _ I h) λv s1 a=>?_) hs;obtain⟨y,H1,j,b,c⟩:=a;exact ZF j f hi hx b (λs2 g=>⟨_,H1,g,c⟩) hf
end
section
variable{X:Cx}{pos:FX}
end
structure It where
 go:Nat->Hp->Prop
 yld:Nat->Hp->V->Hp->Prop
 stop:Nat->Hp->Prop
 sok:Bool
def RC(X:Cx)(pZ:List (AE×Obj))(H:Hp)(b:AE):Prop:=H b=none/\b≠X.env.locals/\b∉X.fs/\(b∈X.ex\/X.s_.heap.objs.size<=b)/\(∀x c,X.env.cells.lookup x=some c->c≠b)/\∀p∈X.pn++pZ,p.1≠b
theorem Cr.fpOk{X:Cx}{pZ:List (AE×Obj)}{σ:St}{H H':Hp}{s:AG}{b:AE}(I:Cr X pZ σ H s)(hb:s.heap.objs.size<=b)(hn:H' b=none):RC X pZ H' b:=by
 refine⟨hn,IK (BP I.lt hb),I.nofs hb,.inr (AJ I.sz hb),λx c e z=>?_,λp hp z=>?_⟩
 ·obtain⟨v,q⟩:=I.cell x c e;exact wo (BP q.lt (by rw[z];exact hb)) (DZ _)
 ·exact wo (BP (Bu (I.pin p hp).1) (by rw[z];exact hb)) (DZ _)
structure dH(P:Bq)(w:BU)(K:AF)(tg:Expr)(J:It)(fp:List AE)(it:AE)(tn:Nat->Ct->Prop):Prop where
 mem:it∈fp
 obj:∀i h,tn i h->∀b∈fp,∃o,h.get? b=some o/\∀v,o.data≠ .cell v
 keep:∀i h h',tn i h->(∀b∈fp,∀o,h.get? b=some o->h'.get? b=some o)->tn i h'
 item:∀(X:Cx),X.prog=P->X.w=w->X.K=K->(X.calm=true\/J.sok=true/\X.suit=true)->∀(i:Nat) (pZ:List (AE×Obj)) (s:AG) (σ:St) (H:Hp) (E:AB->AG->Prop),Cr X pZ σ H s->(∀b∈fp,RC X pZ H b)->tn i s.heap->J.go i H->BN (model P w) X.A (pyNext (.ref it)) (λr s1=>∃u,r=some u/\BN (model P w) X.A (Mg tg (.ref it) u) (λ_ s2=>∃x H',Cr X pZ σ H' s2/\Dd x u/\J.yld i H x H'/\tn (i+1) s2.heap/\∀b∈fp,H' b=none) E s1) E s
 done:∀(X:Cx),X.prog=P->X.w=w->X.K=K->(X.calm=true\/J.sok=true/\X.suit=true)->∀(i:Nat) (pZ:List (AE×Obj)) (s:AG) (σ:St) (H:Hp) (E:AB->AG->Prop),Cr X pZ σ H s->(∀b∈fp,RC X pZ H b)->tn i s.heap->J.stop i H->BN (model P w) X.A (pyNext (.ref it)) (λr s1=>r=none/\Cr X pZ σ H s1) E s
 self:∀(A:CH) (i:Nat) (s:AG) (Q:AB->AG->Prop) (E:AB->AG->Prop),tn i s.heap->Q (.ref it) s->BN (model P w) A (pyIter (.ref it)) Q E s
abbrev TI:=St->Hp->(It->Hp->Prop)->Prop
def oZ(X:Cx)(pZ:List (AE×Obj))(σ:St)(tg:Expr)(R:It->Hp->Prop)(a:AB)(s2:AG):Prop:=∃(it:AE) (fp:List AE) (tn:Nat->Ct->Prop) (J:It) (H':Hp),a= .ref it/\Cr X pZ σ H' s2/\dH X.prog X.w X.K tg J fp it tn/\tn 0 s2.heap/\(∀b∈fp,RC X pZ H' b)/\R J H'
def PI(X:Cx)(tg iter:Expr)(wi:TI):Prop:=∀(pZ:List (AE×Obj)) (s:AG) (σ:St) (H:Hp) (R:It->Hp->Prop),Cr X pZ σ H s->wi σ H R->BN (model X.prog X.w) X.A (Ea iter X.env) (λv s1=>BN (model X.prog X.w) X.A (pyIter v) (oZ X pZ σ tg R) X.xe s1) X.xe s
theorem fj{M:Model}{A:CH}{E:AB->AG->Prop}{s:AG}{tg:Expr}{it:AE}{u:AB}{o:Obj}{n:String}{vs:Array AB}{Q:Unit->AG->Prop}(ho:s.heap.get? it=some o)(hc:o.cls= .type n)(hd:o.data= .fields vs)(hn: ["enumerate","zip","dict_itemiterator","dict_reverseitemiterator","odict_iterator","itertools.zip_longest","itertools.pairwise"].contains n=false)(a:Q () s):BN M A (Mg tg (.ref it) u) Q E s:=by
 unfold Mg;cases tg <;> first
  |exact Bx a
  |(cases u <;> first
    |exact Bx a
    |(refine AR (wpAny_load ho ?_)
      rw[hc,hd];show BN M A (if (["enumerate","zip","dict_itemiterator","dict_reverseitemiterator","odict_iterator","itertools.zip_longest","itertools.pairwise"].contains n&&vs[0]?==some (rawInt _))=true then _ else _) Q E s
      rw[wk (by intro h;rw[hn,Cu]at h;cases h)];exact Bx a))
section
variable{prog:Bq}{w:BU}{A:CH}{E:AB->AG->Prop}{s:AG}
theorem WG:entryFor table "proto.unchain"=some Builtin.«proto.unchain»:=entryFor_of_tree (by kernel_rfl)
theorem cL{a:Type}{e x:AE}{b oe:Obj}{xs es:Array AB}{Q:a->AG->Prop}(f:A.handled=some (.ref x))(hx:s.heap.get? x=some b)(dx:b.data= .fields xs)(c:xs[2]?=some .none)(ne:x≠e)(d:s.heap.get? e=some oe)(de:oe.data= .fields es)(z:2<es.size)(k:E (.ref e) {s with heap:=s.heap.update e (Obj.mapFields (·.setIfInBounds 2 (.ref x)))}):BN (model prog w) A (raiseNew (.ref e):Sem a) Q E s:=by
 unfold raiseNew;refine AR (wpAny_handled ?_);rw[f]
 dsimp only
 rw[wm (show(BD x != BD e)=true from by simp[ne])];refine AR (IJ (wpAny_runValue (IQ WG ?_)));unfold Builtin.«proto.unchain»
 dsimp only
 refine AR (OP hx dx c ?_);rw[wm Aa];refine Bx ?_;show BN _ _ (setField (.ref e) 2 (.ref x) >>= λ_=>throw (BD e)) _ _ _;exact AR (wpAny_setField d de z (wpAny_throw k))
theorem pE{d:Type}{x it:AE}{c:Obj}{xs:Array AB}{h0:Ct}{Q:Option AB->AG->Prop}{R:d->AG->Prop}(h:A.handled=some (.ref x))(hx:s.heap.get? x=some c)(dx:c.data= .fields xs)(g:xs[2]?=some .none)(kp:∀b o,b≠it->s.heap.get? b=some o->h0.get? b=some o)(ne:x≠it)(k:∀h',Heap.ExtBut it s.heap h'->Q none {s with heap:=h'}):
  BN (model prog w) A.in1 (newExc (.type "StopIteration") [] >>= λe=>(raiseNew e:Sem d)) R (λe s'=>BN (model prog w) A (do if <-isInstance e (.type "StopIteration")then IX none else throw e) Q E s') {s with heap:=h0}:=by
 refine AR ?_;simp only[newExc,newTuple];refine AR (Gf ?_ (by size_fits));refine AR (m:=firstArgMember _ _) (wpAny_of_eq (a:=DX) (by simp only[firstArgMember];rfl) ?_);refine Gf ?_ (by size_fits)
 dsimp only
 have hz: (h0.push {cls:=.type "tuple",data:=.seq ([]:List AB).toArray}).objs.size≠x:=IK (Bu (AK _ (kp x c ne hx)));refine cL (x:=x) h (AK _ (AK _ (kp x c ne hx))) dx g (CI hz) (Bo _ rfl) rfl (by show 2<6;decide) ?_;refine AR (wpAny_isInstance (T:="StopIteration") (b:=true) ⟨_,Heap.get?_update_self _ (Bo _ rfl) rfl,rfl⟩ isSubtype_stop ?_);refine Bx (k _ λb o hb q=>?_);have f:=AK {cls:=.type "tuple",data:=.seq ([]:List AB).toArray} (kp b o hb q)
 dsimp only
 rw[RM _ _ (IK (Bu f))];exact AK _ f
theorem Ut{x it l:AE}{i:Nat}{items:Array AB}{d:Obj}{xs:Array AB}{Q:Option AB->AG->Prop}(g:A.handled=some (.ref x))(hx:s.heap.get? x=some d)(dx:d.data= .fields xs)(e:xs[2]?=some .none)(hit:s.heap.IsListIter it l i)(f:s.heap.IsList l items)(hi:items[i]?=none)(ne:x≠it)(k:∀h',Heap.ExtBut it s.heap h'->Q none {s with heap:=h'}):BN (model prog w) A (pyNext (.ref it)) Q E s:=by
 obtain⟨j,a,_,c⟩:=id hit;obtain⟨ol,h,_,nl,dl⟩:=f;unfold pyNext;refine AR (wpAny_attempt (wpAny_callSpecial?_slot (name:="__next__") hit.typeIs slot_listiter_next (wpAny_call_entry slot_listiter_next hit.typeIs entry_listiter_next ?_ (args_listiter_next _))));refine AR (m:=field (.ref it) 0) (OP a c (x:=.ref l) rfl ?_);rw[wk (by intro z;cases z)];refine AR (m:=field (.ref it) 1) (OP a c (x:=.int i 0) rfl ?_);refine AR (m:=seqItems? (.ref l)) (wpAny_seqItems h dl ?_);simp only[Int.toNat_natCast,hi];refine AR (wpAny_rule (AR (wpAny_setField a c (by simp) ?_)));exact pE g hx dx e (λb o hb q=>(RM _ _ (CI hb)).trans q) ne k
end
def qM(K:AF)(a:AE):It:=⟨λi H=>∃xs x,Cj K H a xs/\xs[i]?=some x,λi H x H'=>H'=H/\∀xs,Cj K H a xs->xs[i]?=some x,λi H=>∃xs,Cj K H a xs/\xs.length<=i,true⟩
def vo(K:AF)(a:AE):It:=⟨λi H=>∃xs x,DW K H a xs/\xs[i]?=some x,λi H x H'=>H'=H/\∀xs,DW K H a xs->xs[i]?=some x,λi H=>∃xs,DW K H a xs/\xs.length<=i,false⟩
def qL(lo:Int)(n:Nat):It:=⟨λi _=>i<n,λi H x H'=>H'=H/\x= .int (lo+i),λi _=>n<=i,false⟩
theorem fW{P:Bq}{w:BU}{K:AF}{tg:Expr}(a it:AE):dH P w K tg (qM K a) [it] it (λi h=>h.IsListIter it a i) where
 mem:=by simp
 obj:=λi h st b hb=>by
  have e:b=it:=by simpa using hb
  subst e;obtain⟨o,e,c,d⟩:=st;exact⟨o,e,λv z=>by rw[d]at z;cases z⟩
 keep:=λi h h' st k=>st.at λo e=>k it (by simp) o e
 item:=by
  intro X y hw A hc i pZ s σ H E I hf st hg;subst y hw A;obtain⟨xs,x,l,hx⟩:=hg;obtain⟨t,r,p,hz⟩:=I.list l;obtain⟨u,F,C⟩:=r.get hx;obtain⟨j,f1,f2,q,n,m⟩:=hf it (by simp);refine wpAny_pyNext_list_item st p.isList (x:=u) (by simpa using F) λh' g sb=>?_;have M:Cr X pZ σ H {s with heap:=h'}:=I.turned (t':=s.toks) (λb o hb e=>(sb.2 b hb).trans e) j f1 q n m;obtain⟨o,e,c,d⟩:=id g;exact⟨u,rfl,fj (s:={s with heap:=h'}) e c d Aa ⟨x,H,M,C,⟨rfl,λys D=>by rw[I.list_inj D l];exact hx⟩,g,λb hb=>(hf b hb).1⟩⟩
 done:=by
  intro X y hw A hc i pZ s σ H E I hf st hg;subst y hw A;obtain⟨xs,l,hx⟩:=hg;obtain⟨t,r,p,hz⟩:=I.list l;obtain⟨j,f1,f2,q,n,m⟩:=hf it (by simp);have N:=r.length;rcases hc with hc|⟨_,hc⟩
  rotate_left
  ·obtain⟨e,cls,dx,a0,tb,L,J⟩:=I.ok.hs hc;have f:=I.base.frzs e _ _ J;obtain⟨G,_⟩:=I.hok e _ f;exact Ut L G rfl rfl st p.isList (by simp;lia) (λz=>by rw[z,j]at f;cases f) λh' B=>⟨rfl,I.turned (t':=s.toks) (λb o hb e=>B b o hb e) j f1 q n m⟩
  exact wpAny_pyNext_list_end (I.ok.hd hc) st p.isList (by simp;lia) λh' B=>⟨rfl,I.turned (t':=s.toks) (λb o hb e=>B b o hb e) j f1 q n m⟩
 self:=λ_ _ _ _ _ st h=>wpAny_pyIter_listiter st h
theorem bO{P:Bq}{w:BU}{K:AF}{tg:Expr}(a it:AE):dH P w K tg (vo K a) [it] it (λi h=>h.IsTupleIter it a i) where
 mem:=by simp
 obj:=λi h st b hb=>by
  have e:b=it:=by simpa using hb
  subst e;obtain⟨o,e,c,d⟩:=st;exact⟨o,e,λv z=>by rw[d]at z;cases z⟩
 keep:=λi h h' st k=>st.at λo e=>k it (by simp) o e
 item:=by
  intro X m hw n hc i pZ s σ H E I hf st hg;subst m hw n;obtain⟨xs,x,j,hx⟩:=hg;obtain⟨f,l,p,hz⟩:=I.tuple j;obtain⟨u,C,A⟩:=l.get hx;obtain⟨y,f1,f2,t,r,q⟩:=hf it (by simp);refine wpAny_pyNext_tuple_item st (show s.heap.IsTuple a f.toArray from p) (x:=u) (by simpa using C) λh' g sb=>?_;have F:Cr X pZ σ H {s with heap:=h'}:=I.turned (t':=s.toks) (λb o hb e=>(sb.2 b hb).trans e) y f1 t r q;obtain⟨o,e,c,d⟩:=id g;exact⟨u,rfl,fj (s:={s with heap:=h'}) e c d Aa ⟨x,H,F,A,⟨rfl,λys B=>by rw[I.tuple_inj B j];exact hx⟩,g,λb hb=>(hf b hb).1⟩⟩
 done:=by
  intro X m hw n hc i pZ s σ H E I hf st hg;subst m hw n;obtain⟨xs,j,hx⟩:=hg;obtain⟨f,l,p,hz⟩:=I.tuple j;obtain⟨y,f1,f2,t,r,q⟩:=hf it (by simp);have G:=l.length;have hc:=hc.resolve_right λz=>ER (show false=true from z.1);exact wpAny_pyNext_tuple_end (I.ok.hd hc) st (show s.heap.IsTuple a f.toArray from p) (by simp;lia) λh' D=>⟨rfl,I.turned (t':=s.toks) (λb o hb e=>D b o hb e) y f1 t r q⟩
 self:=λ_ _ _ _ _ st h=>wpAny_pyIter_tupleiter st h
theorem bP{P:Bq}{w:BU}{K:AF}{tg:Expr}(it:AE)(lo:Int)(n:Nat):dH P w K tg (qL lo n) [it] it (λi h=>IsRangeIter h it (lo+ (i:Nat) *1) ((n:Int) - (i:Nat)) 1) where
 mem:=by simp
 obj:=λi h st b hb=>by
  have e:b=it:=by simpa using hb
  subst e;exact⟨_,st,λv z=>by
   have m:Data.fields _=Data.cell v:=z;cases m⟩
 keep:=λi h h' st k=>k it (by simp) _ st
 item:=by
  intro X c hw d hc i pZ s σ H E I hf st hg;subst c hw d;obtain⟨l,f1,f2,j,g,f⟩:=hf it (by simp);have hc:=hc.resolve_right λz=>ER (show false=true from z.1);have W:=Walks.range (prog:=X.prog) (w:=X.w) (I.ok.hd hc) it lo 1 n;refine W.item i s _ _ hg st λv h' tk q a p=>?_;obtain⟨t,rfl⟩:=q;have u:Cr X pZ σ H {s with heap:=h',toks:=tk}:=I.turned (λb o hb e=>p b o (by simpa using hb) e) l f1 j g f;refine⟨_,rfl,fj (s:={s with heap:=h',toks:=tk}) (n:="range_iterator") a rfl rfl Aa ⟨.int (lo+i),H,u,⟨t,?_⟩,⟨rfl,rfl⟩,a,λb hb=>(hf b hb).1⟩⟩;rw[Int.mul_one]
 done:=by
  intro X c hw d hc i pZ s σ H E I hf st hg;subst c hw d;obtain⟨l,f1,f2,j,g,f⟩:=hf it (by simp);have hc:=hc.resolve_right λz=>ER (show false=true from z.1);exact wpAny_pyNext_range_end (I.ok.hd hc) st (by have:n<=i:=hg;lia) λh' r=>⟨rfl,I.turned (t':=s.toks) (λb o hb e=>r b o hb e) l f1 j g f⟩
 self:=λ_ _ _ _ _ st h=>wpAny_pyIter_rangeiter st h
section
variable{X:Cx}{tg:Expr}
def oP(K:AF)(tl:TE):TI:=λσ H R=>tl σ H λx H1=>∃a,x= .ref a/\(∃xs,Cj K H1 a xs)/\R (qM K a) H1
def sE(K:AF)(tl:TE):TI:=λσ H R=>tl σ H λx H1=>∃a,x= .ref a/\(∃xs,DW K H1 a xs)/\R (vo K a) H1
theorem CU{l:Expr}{tl:TE}(k:PE X l tl):PI X tg l (oP X.K tl):=by
 intro pZ s σ H R I h;refine Ei (k pZ s σ H _ I h) λv s1 c=>?_;obtain⟨x,H1,d,f,g⟩:=c;obtain⟨a,e,⟨xs,j⟩,q⟩:=g;subst e;cases f;obtain⟨i,m,p,hz⟩:=d.list j;refine OO p.isList ?_;refine⟨s1.heap.objs.size,[s1.heap.objs.size],_,_,H1,rfl,d.kept (t':=s1.toks) λb o e=>AK _ e,fW a _,⟨_,Bo _ rfl,rfl,rfl⟩,λb hb=>?_,q⟩;have e:b=s1.heap.objs.size:=by simpa using hb
 subst e;exact d.fpOk (AX _) (d.hok.fresh (AX _))
theorem Rq{l:Expr}{tl:TE}(k:PE X l tl):PI X tg l (sE X.K tl):=by
 intro pZ s σ H R I h;refine Ei (k pZ s σ H _ I h) λv s1 c=>?_;obtain⟨x,H1,d,g,i⟩:=c;obtain⟨a,e,⟨xs,j⟩,q⟩:=i;subst e;cases g;obtain⟨f,m,p,hz⟩:=d.tuple j;refine wpAny_pyIter_tuple (show s1.heap.IsTuple a f.toArray from p) ?_;refine⟨s1.heap.objs.size,[s1.heap.objs.size],_,_,H1,rfl,d.kept (t':=s1.toks) λb o e=>AK _ e,bO a _,⟨_,Bo _ rfl,rfl,rfl⟩,λb hb=>?_,q⟩;have e:b=s1.heap.objs.size:=by simpa using hb
 subst e;exact d.fpOk (AX _) (d.hok.fresh (AX _))
theorem jc{pZ:List (AE×Obj)}{σ:St}{H:Hp}{s:AG}{R:It->Hp->Prop}{E:AB->AG->Prop}{lo hi:Int}{t u v:Tok}{tk:Nat}(I:Cr X pZ σ H s)(h1: -(2 ^ 62)<=lo)(h2:lo<2 ^ 62)(h3: -(2 ^ 62)<=hi)(c:hi<2 ^ 62)(q:R (qL lo (hi - lo).toNat) H):BN (model X.prog X.w) X.A (pyIter (.ref s.heap.objs.size)) (oZ X pZ σ tg R) E {s with heap:=s.heap.push {cls:=.type "range",data:=.fields #[.int lo t,.int hi u,.int 1 v]},toks:=tk}:=by
 refine wpAny_pyIter_range (IsRange.new ..) (small_one h1 h2 h3 c) ?_;have a:Cr X pZ σ H {s with heap:=s.heap.push {cls:=.type "range",data:=.fields #[.int lo t,.int hi u,.int 1 v]},toks:=tk}:=I.kept λb o e=>AK _ e;refine⟨(s.heap.push {cls:=.type "range",data:=.fields #[.int lo t,.int hi u,.int 1 v]}).objs.size,[(s.heap.push {cls:=.type "range",data:=.fields #[.int lo t,.int hi u,.int 1 v]}).objs.size],_,_,H,rfl,a.kept (t':=tk) λb o e=>AK _ e,bP _ lo (hi - lo).toNat,?_,λb hb=>?_,q⟩
 ·have f:lo+ ((0:Nat):Int) *1=lo:=by simp
  have d: (((hi - lo).toNat:Nat):Int) - ((0:Nat):Int)=Builtin.Range.rangeSize lo hi 1:=by rw[rangeSize_one];split <;> lia
  show IsRangeIter _ _ (lo+ ((0:Nat):Int) *1) ((((hi - lo).toNat:Nat):Int) - ((0:Nat):Int)) 1;rw[f,d];exact Bo _ rfl
 ·have e:b=(s.heap.push {cls:=.type "range",data:=.fields #[.int lo t,.int hi u,.int 1 v]}).objs.size:=by simpa using hb
  subst e;exact a.fpOk (AX _) (a.hok.fresh (AX _))
def sF(ta:TA):TI:=λσ H R=>ta σ H λvs H1=>∃j:Int,vs=[.int j]/\ -(2 ^ 62)<=j/\j<2 ^ 62/\R (qL 0 j.toNat) H1
theorem HA{a:Expr}{ta:TA}{p pos:FX}(hg:Gl X "range")(hm:X.mg "range"=none)(ha:PA X [a] ta)(hs:BW [a] X.env=[(false,Ea a X.env)]:=by rfl):PI X tg (.Call (.Name "range" p) [a] [] pos) (sF ta):=by
 intro pZ s σ H R I h;refine Call_ (Ku I hg hm boot_range (EL (Ei (ha pos pZ s σ H _ I h) λus s1 b=>?_) hs rfl));obtain⟨vs,H1,i,f,c⟩:=b;obtain⟨j,e,c,g,q⟩:=c;subst e;cases f with
 |cons r d=>
  cases d;obtain⟨t,rfl⟩:=r;exact call_range_1 (jc i (by lia) (by lia) c g (by simpa using q))
def tY(wi:TI)(g:TG)(tb:TS):TS:=λD σ H=>wi σ H λJ H1=>∃W:Nat->Nat->St->Hp->Prop,(∃m,W 0 m σ H1)/\∀i m σ H,W i m σ H->(J.stop i H/\D.nx σ H)\/(J.go i H/\∃N:St->Hp->Prop,(∀a H',N a H'->∃c,c<m/\W (i+1) c a H')/\∀x H',J.yld i H x H'->g x σ H' λb H2=>tb {D with nx:=N,ct:=N,bk:=D.nx} b H2)
def Rp(fp:List AE)(h:Ct):List (AE×Obj):=fp.filterMap λb=>(h.get? b).map λo=>(b,o)
theorem LR{fp:List AE}{h:Ct}{b:AE}{o:Obj}(hb:b∈fp)(e:h.get? b=some o): (b,o)∈Rp fp h:=SS.mpr ⟨b,hb,by rw[e];rfl⟩
theorem gG{fp:List AE}{h:Ct}{p:AE×Obj}(hp:p∈Rp fp h):p.1∈fp/\h.get? p.1=some p.2:=by
 obtain⟨b,hb,e⟩:=SS.mp hp;cases q:h.get? b with
 |none=>rw[q]at e;cases e
 |some o=>
  rw[q]at e;have a: (b,o)=p:=Ba e;subst a;exact⟨hb,q⟩
theorem Cr.pinned{pZ:List (AE×Obj)}{σ:St}{H:Hp}{s:AG}{fp:List AE}(I:Cr X pZ σ H s)(hf:∀b∈fp,RC X pZ H b)(ho:∀b∈fp,∃o,s.heap.get? b=some o/\∀v,o.data≠ .cell v):Cr X (pZ++Rp fp s.heap) σ H s:=I.pins_of λp hp=>(BZ.mp hp).elim (λz=>I.pin p (Ca _ z)) λz=>by
  obtain⟨hb,e⟩:=gG z;obtain⟨c,f1,f2,_⟩:=hf p.1 hb;obtain⟨o,a,d⟩:=ho p.1 hb;rw[e]at a;cases a;exact⟨e,c,f1,f2,d⟩
theorem Cr.unpinned{pZ pl:List (AE×Obj)}{σ:St}{H:Hp}{s:AG}(I:Cr X (pZ++pl) σ H s):Cr X pZ σ H s:=I.pins_of λp hp=>I.pin p (Ca _ (Dq _ hp))
theorem JA{iter:Expr}{body:List JI}{wi:TI}{g:TG}{tb:TS}{pos:FX}(hp:PassesOwn (model X.prog X.w) X.A X.env X.xe)(hc:X.calm=true)(hi:PI X tg iter wi)(hg:PG X tg g)(hb:XQ X body tb)(hs:∀x,foldedSetIterable iter X.env x=IX x:=by intro _;rfl):PS X (.For tg iter body [] pos) (tY wi g tb):=by
 intro pZ s σ H D I h;refine wpAny_For (Ei (hi pZ s σ H _ I h) λv s1 h1=>Ei h1 λb8 s2 h2=>?_) hs;obtain⟨it,fp,tn,J,H2,e,I2,T,S,f2,W,⟨m0,w0⟩,z⟩:=h2;subst e;have k:∀{H':Hp},(∀b∈fp,H' b=none)->∀b∈fp,RC X pZ H' b:=λhn b hb=>⟨hn b hb,(f2 b hb).2⟩;refine codeAny_forLoop_any (λn s'=>∃i j H',Cr X pZ j H' s'/\tn i s'.heap/\(∀b∈fp,H' b=none)/\W i n j H') ?_ m0 ⟨0,σ,H2,I2,S,λb hb=>(f2 b hb).1,w0⟩;rintro n s3 ⟨i,c,O,I3,B,M,w3⟩;rcases z i n c O w3 with⟨stop,qn⟩|⟨go,N,hN,step⟩
 ·refine Mf hp (Ei (T.done X rfl rfl rfl (.inl hc) i pZ s3 c O X.xe I3 (k M) B stop) λr s4 L=>?_);obtain⟨V,I4⟩:=L;subst V;exact wpAny_execs_nil ⟨c,O,I4,qn⟩
 ·refine Mf hp (Ei (T.item X rfl rfl rfl (.inl hc) i pZ s3 c O X.xe I3 (k M) B go) λr s4 K=>?_);obtain⟨u,V,h4⟩:=K;subst V;refine Mf hp (Ei h4 λ_ s5 G=>?_);obtain⟨x,H5,I5,r5,y5,y,Y⟩:=G;have Z:=I5.pinned (k Y) (T.obj _ _ y);refine Mf hp (Ei (hg _ s5 c H5 x u _ Z r5 (step x H5 y5)) λ_ s6 F=>?_);obtain⟨P,H6,I6,q6⟩:=F;refine Mf hp (Ei (hb _ s6 P H6 _ I6 q6) λf U q=>?_);have again:∀{a:St} {p:Hp},Cr X (pZ++Rp fp s5.heap) a p U->N a p->∃m,m<n/\∃i j H',Cr X pZ j H' U/\tn i U.heap/\(∀b∈fp,H' b=none)/\W i m j H':=λ{a p} l E=>by
   obtain⟨m',hm,w7⟩:=hN a p E;refine⟨m',hm,i+1,a,p,l.unpinned,T.keep _ _ _ y λb hb o e=>(l.pin (b,o) (Ca _ (Ca _ (LR hb e)))).1,λb hb=>?_,w7⟩;obtain⟨o,e,d⟩:=T.obj _ _ y b hb;exact(l.pin (b,o) (Ca _ (Ca _ (LR hb e)))).2.1
  cases f with
  |next=>obtain⟨a,p,l,E⟩:=q;exact again l E
  |cont=>obtain⟨a,p,l,E⟩:=q;exact again l E
  |brk=>obtain⟨a,p,l,q⟩:=q;exact⟨a,p,l.unpinned,q⟩
  |ret v=>obtain⟨x7,a,p,l,r7,q⟩:=q;exact⟨x7,a,p,l.unpinned,r7,q⟩
end
theorem Nq{K:AF}{a:AE}{xs:List V}{g:TG}{tb:TS}{D:WL}{σ:St}{H:Hp}(Pv:Nat->St->Hp->Prop)(h0:Pv 0 σ H)(j:∀i σ H,i<=xs.length->Pv i σ H->Cj K H a xs)(hs:∀i x σ H,xs[i]?=some x->Pv i σ H->g x σ H λb H2=>tb {D with nx:=Pv (i+1),ct:=Pv (i+1),bk:=D.nx} b H2)(hd:∀σ H,Pv xs.length σ H->D.nx σ H):
  ∃W:Nat->Nat->St->Hp->Prop,(∃m,W 0 m σ H)/\∀i m σ H,W i m σ H->((qM K a).stop i H/\D.nx σ H)\/((qM K a).go i H/\∃N:St->Hp->Prop,(∀c H',N c H'->∃f,f<m/\W (i+1) f c H')/\∀x H',(qM K a).yld i H x H'->g x σ H' λb H2=>tb {D with nx:=N,ct:=N,bk:=D.nx} b H2):=by
 refine⟨λi m σ H=>m=xs.length - i/\i<=xs.length/\Pv i σ H,⟨xs.length,by simp,Ci _,h0⟩,?_⟩;rintro i m σ H ⟨rfl,hi,p⟩;have q:=j i σ H hi p;by_cases d:i<xs.length
 ·refine .inr ⟨⟨xs,xs[i],q,by simp[d]⟩,Pv (i+1),λc H' h=>⟨xs.length - (i+1),by lia,rfl,d,h⟩,λx H' y=>?_⟩;obtain⟨e,y⟩:=y;subst e;exact hs i x σ _ (y xs q) p
 ·have e:i=xs.length:=by lia
  subst e;exact .inl ⟨⟨xs,q,AX _⟩,hd σ H p⟩
theorem Xu{lo:Int}{n:Nat}{g:TG}{tb:TS}{D:WL}{σ:St}{H:Hp}(Pv:Nat->St->Hp->Prop)(h0:Pv 0 σ H)(hs:∀i σ H,i<n->Pv i σ H->g (.int (lo+i)) σ H λa H2=>tb {D with nx:=Pv (i+1),ct:=Pv (i+1),bk:=D.nx} a H2)(hd:∀σ H,Pv n σ H->D.nx σ H):
  ∃W:Nat->Nat->St->Hp->Prop,(∃m,W 0 m σ H)/\∀i m σ H,W i m σ H->((qL lo n).stop i H/\D.nx σ H)\/((qL lo n).go i H/\∃N:St->Hp->Prop,(∀b H',N b H'->∃d,d<m/\W (i+1) d b H')/\∀x H',(qL lo n).yld i H x H'->g x σ H' λa H2=>tb {D with nx:=N,ct:=N,bk:=D.nx} a H2):=by
 refine⟨λi m σ H=>m=n - i/\i<=n/\Pv i σ H,⟨n,by simp,Ci _,h0⟩,?_⟩;rintro i m σ H ⟨rfl,hi,p⟩;by_cases c:i<n
 ·refine .inr ⟨c,Pv (i+1),λb H' f=>⟨n - (i+1),by lia,rfl,c,f⟩,λx H' y=>?_⟩;obtain⟨e,y⟩:=y;subst e y;exact hs i σ _ c p
 ·have e:i=n:=by lia
  subst e;exact .inl ⟨AX _,hd σ H p⟩
abbrev R2:=V->V->Hp->VK->Prop
def MI(X:Cx)(f:AB->AB->Sem AB)(r:R2):Prop:=∀(pZ:List (AE×Obj)) (s:AG) (σ:St) (H:Hp) (x y:V) (v u:AB) (Q:VK),Cr X pZ σ H s->Dd x v->Dd y u->r x y H Q->BN (model X.prog X.w) X.A (f v u) (EP X pZ σ Q) X.xe s
def vh(X:Cx)(f:AB->Sem AB)(r:V->Hp->VK->Prop):Prop:=∀(pZ:List (AE×Obj)) (s:AG) (σ:St) (H:Hp) (x:V) (v:AB) (Q:VK),Cr X pZ σ H s->Dd x v->r x H Q->BN (model X.prog X.w) X.A (f v) (EP X pZ σ Q) X.xe s
def FE(X:Cx)(f:AB)(r:List V->Hp->VK->Prop):Prop:=∀(pZ:List (AE×Obj)) (s:AG) (σ:St) (H:Hp) (xs:List V) (us:List AB) (Q:VK),Cr X pZ σ H s->Cv xs us->r xs H Q->BN (model X.prog X.w) X.A (call f us) (EP X pZ σ Q) X.xe s
def tw(r:R2)(ta tb:TE):TE:=λσ H Q=>ta σ H λx H1=>tb σ H1 λy H2=>r x y H2 Q
def vG(r:V->Hp->VK->Prop)(ta:TE):TE:=λσ H Q=>ta σ H λx H1=>r x H1 Q
def rI(C:Int->Int->Prop)(g:Int->Int->V):R2:=λx y H Q=>∃i j,x= .int i/\y= .int j/\C i j/\Q (g i j) H
def pK(g:Int->Int->V):R2:=λx y H Q=>∃i j,x= .int i/\y= .int j/\Q (g i j) H
def rU(g:Int->V):V->Hp->VK->Prop:=λx H Q=>∃i,x= .int i/\Q (g i) H
section
variable{X:Cx}{a b c:Expr}{ta tb tc:TE}{pos:FX}
theorem qJ(ha:PE X a ta)(hb:PE X b tb){pZ:List (AE×Obj)}{s:AG}{σ:St}{H:Hp}{R:V->V->Hp->Prop}(I:Cr X pZ σ H s)(h:ta σ H λx H1=>tb σ H1 λy H2=>R x y H2){Q:AB->AG->Prop}{f:AB->AB->Sem AB}(hf:∀v u s2 x y H2,Cr X pZ σ H2 s2->Dd x v->Dd y u->R x y H2->BN (model X.prog X.w) X.A (f v u) Q X.xe s2):
  BN (model X.prog X.w) X.A (Ea a X.env) (λv d=>BN (model X.prog X.w) X.A (Ea b X.env) (λu c=>BN (model X.prog X.w) X.A (f v u) Q X.xe c) X.xe d) X.xe s:=by
 refine Ei (ha pZ s σ H _ I h) λv s1 g=>?_;obtain⟨x,H1,n,j,l⟩:=g;refine Ei (hb pZ s1 σ H1 _ n l) λu s2 e=>?_;obtain⟨y,H2,m,i,k⟩:=e;exact hf v u s2 x y H2 m j i k
theorem Bz{op:Operator}{r:R2}(ho:MI X (NA op) r)(ha:PE X a ta)(hb:PE X b tb):PE X (.BinOp a op b pos) (tw r ta tb):=by
 intro pZ s σ H Q I h;exact wpAny_BinOp (qJ ha hb I h λv u s2 x y H2 e d c q=>ho pZ s2 σ H2 x y v u Q e d c q)
theorem PX{op:UnaryOp}{r:V->Hp->VK->Prop}(ho:vh X (unaryOp op) r)(ha:PE X a ta):PE X (.UnaryOp op a pos) (vG r ta):=by
 intro pZ s σ H Q I h;exact UnaryOp_ (Ei (ha pZ s σ H _ I h) λv s1 b=>(by obtain⟨x,H1,e,c,d⟩:=b;exact ho pZ s1 σ H1 x v Q e c d))
theorem tz{f:AB->AB->Sem AB}{C:Int->Int->Prop}{g:Int->Int->Int}(rule:∀(i j:Int) (t u:Tok) (s:AG) (Q:AB->AG->Prop) (E:AB->AG->Prop),C i j->Q (.int (g i j) s.toks) {s with toks:=s.toks+1}->BN (model X.prog X.w) X.A (f (.int i t) (.int j u)) Q E s):
  MI X f (rI C λi j=>.int (g i j)):=by
 intro pZ s σ H x y v u Q I b a h;obtain⟨i,j,rfl,rfl,hc,q⟩:=h;obtain⟨t,rfl⟩:=b;obtain⟨t',rfl⟩:=a;exact rule i j t t' s _ _ hc ⟨.int (g i j),H,I.tok _,⟨_,rfl⟩,q⟩
theorem rQ{f:AB->AB->Sem AB}{g:Int->Int->Int}(rule:∀(i j:Int) (t u:Tok) (s:AG) (Q:AB->AG->Prop) (E:AB->AG->Prop),Q (.int (g i j) s.toks) {s with toks:=s.toks+1}->BN (model X.prog X.w) X.A (f (.int i t) (.int j u)) Q E s):
  MI X f (pK λi j=>.int (g i j)):=by
 intro pZ s σ H x y v u Q I b a h;obtain⟨i,j,rfl,rfl,q⟩:=h;obtain⟨t,rfl⟩:=b;obtain⟨t',rfl⟩:=a;exact rule i j t t' s _ _ ⟨.int (g i j),H,I.tok _,⟨_,rfl⟩,q⟩
theorem pT{f:AB->AB->Sem AB}{g:Int->Int->Bool}(rule:∀(i j:Int) (t u:Tok) (s:AG) (Q:AB->AG->Prop) (E:AB->AG->Prop),Q (.bool (g i j)) s->BN (model X.prog X.w) X.A (f (.int i t) (.int j u)) Q E s):
  MI X f (pK λi j=>.bl (g i j)):=by
 intro pZ s σ H x y v u Q I b a h;obtain⟨i,j,rfl,rfl,q⟩:=h;obtain⟨t,rfl⟩:=b;obtain⟨t',rfl⟩:=a;exact rule i j t t' s _ _ ⟨.bl (g i j),H,I,rfl,q⟩
def vp(i j:Int):Prop:=0<j/\j<1073741824
def qQ(i j:Int):Prop:=(-(2 ^ 64) <i/\i<2 ^ 64)\/(-(2 ^ 64) <j/\j<2 ^ 64)
theorem qQ.ok{i j:Int}(h:qQ i j):IntMulOk i j:=by
 rcases h with⟨h1,h2⟩|⟨h1,h2⟩
 ·exact .of_left (intBits_le_64 h1 h2)
 ·exact .of_right (intBits_le_64 h1 h2)
theorem Dg:MI X (NA .Add) (pK λi j=>.int (i+j)):=rQ λ_ _ _ _ _ _ _ q=>add_int q
theorem cR:MI X (NA .Sub) (pK λi j=>.int (i - j)):=rQ λ_ _ _ _ _ _ _ q=>sub_int q
theorem Kp:MI X (NA .Mult) (rI qQ λi j=>.int (i*j)):=tz λ_ _ _ _ _ _ _ hc q=>mul_int q hc.ok
theorem Ej:MI X (NA .FloorDiv) (rI vp λi j=>.int (i/j)):=tz λi j _ _ _ _ _ hc q=>by
 have h1: (0:Int) <j:=hc.1;have h2:j<1073741824:=hc.2;exact floordiv_int (by lia) (by rw[Int.fdiv_eq_ediv_of_nonneg i (by lia)];exact q) (.inl (PyProof.noPylong_small (by lia)))
theorem Df:MI X (NA .Mod) (rI (λ_ j=>0<j) λi j=>.int (i%j)):=tz λi j _ _ _ _ _ hc q=>by
 have h1: (0:Int) <j:=hc;exact mod_int' (by lia) (by rw[Int.fmod_eq_emod_of_nonneg i (by lia)];exact q)
theorem vF{f:AB->Sem AB}{g:Int->Int}(rule:∀(i:Int) (t:Tok) (s:AG) (Q:AB->AG->Prop) (E:AB->AG->Prop),Q (.int (g i) s.toks) {s with toks:=s.toks+1}->BN (model X.prog X.w) X.A (f (.int i t)) Q E s):
  vh X f (rU λi=>.int (g i)):=by
 intro pZ s σ H x v Q I a h;obtain⟨i,rfl,q⟩:=h;obtain⟨t,rfl⟩:=a;exact rule i t s _ _ ⟨.int (g i),H,I.tok _,⟨_,rfl⟩,q⟩
theorem Lz:vh X (unaryOp .USub) (rU λi=>.int (-i)):=vF λ_ _ _ _ _ q=>neg_int q
end
def pH:V->V->Bool
 |.non,.non=>true|.non,.int _=>true|.int _,.non=>true|.non,.bl _=>true|.bl _,.non=>true|.non,.str _=>true|.str _,.non=>true
 |.int _,.int _=>true|.bl _,.bl _=>true|.str _,.str _=>true|.byt _,.byt _=>true
 |.int _,.str _=>true|.str _,.int _=>true|.bl _,.str _=>true|.str _,.bl _=>true
 |_,_=>false
def vS:R2:=λx y H Q=>pH x y=true/\Q (.bl (decide (x=y))) H
def vR:R2:=λx y H Q=>pH x y=true/\Q (.bl (!decide (x=y))) H
theorem fF{i j:Int}:decide (V.int i=V.int j)=(i==j):=by
 rw[GI];simp
theorem kF{i j:Bool}:decide (V.bl i=V.bl j)=(i==j):=by
 rw[GI];simp
theorem fE{i j:Bc}:decide (V.str i=V.str j)=(i==j):=by
 rw[GI];simp
theorem fG{i j:Array UInt8}:decide (V.byt i=V.byt j)=(i.toList==j.toList):=by
 rw[GI];cases i;cases j;simp
section
variable{X:Cx}{a b c:Expr}{ta tb tc:TE}{pos:FX}
theorem Dv{pZ:List (AE×Obj)}{σ:St}{H:Hp}{s:AG}{Q:VK}{k a:Bool}(I:Cr X pZ σ H s)(q:Q (.bl k) H)(e:k=a):EP X pZ σ Q (.bool a) s:=by
 subst e;exact⟨.bl k,H,I,rfl,q⟩
theorem De:MI X (DL .Eq) vS:=by
 intro pZ s σ H x y v u Q I b a h;obtain⟨hs,q⟩:=h;cases x with
 |non=>
  cases b;cases y with
  |non=>cases a;exact PySem.EqNone.eq_none_none (Dv I q (by simp))
  |bl j=>cases a;exact PySem.EqNone.eq_none_bool (Dv I q (by simp))
  |int j=>obtain⟨t',rfl⟩:=a;exact PySem.EqNone.eq_none_int (Dv I q (by simp))
  |str j=>obtain⟨t',rfl⟩:=a;exact PySem.EqNone.eq_none_str (Dv I q (by simp))
  |_=>exact wo (show false=true from hs) Bj
 |bl i=>
  cases b;cases y with
  |non=>cases a;exact PySem.EqNone.eq_bool_none (Dv I q (by simp))
  |bl j=>cases a;exact eq_bool (Dv I q kF)
  |str j=>obtain⟨t',rfl⟩:=a;exact PySem.EqMixed.eq_bool_str (Dv I q (by simp))
  |_=>exact wo (show false=true from hs) Bj
 |int i=>
  obtain⟨t,rfl⟩:=b;cases y with
  |non=>cases a;exact PySem.EqNone.eq_int_none (Dv I q (by simp))
  |int j=>obtain⟨t',rfl⟩:=a;exact eq_int (Dv I q fF)
  |str j=>obtain⟨t',rfl⟩:=a;exact PySem.EqMixed.eq_int_str (Dv I q (by simp))
  |_=>exact wo (show false=true from hs) Bj
 |str i=>
  obtain⟨t,rfl⟩:=b;cases y with
  |non=>cases a;exact PySem.EqNone.eq_str_none (Dv I q (by simp))
  |bl j=>cases a;exact PySem.EqMixed.eq_str_bool (Dv I q (by simp))
  |int j=>obtain⟨t',rfl⟩:=a;exact PySem.EqMixed.eq_str_int (Dv I q (by simp))
  |str j=>obtain⟨t',rfl⟩:=a;exact eq_str (Dv I q fE)
  |_=>exact wo (show false=true from hs) Bj
 |byt i=>
  obtain⟨t,rfl⟩:=b;cases y with
  |byt j=>obtain⟨t',rfl⟩:=a;exact PySem.W.eq_bytes (Dv I q fG)
  |_=>exact wo (show false=true from hs) Bj
 |_=>cases y <;> exact wo (show false=true from hs) Bj
theorem Ih:MI X (DL .NotEq) vR:=by
 intro pZ s σ H x y v u Q I b a h;obtain⟨hs,q⟩:=h;cases x with
 |non=>
  cases b;cases y with
  |non=>cases a;exact PySem.EqNone.ne_none_none (Dv I q (by simp))
  |bl j=>cases a;exact PySem.EqNone.ne_none_bool (Dv I q (by simp))
  |int j=>obtain⟨t',rfl⟩:=a;exact PySem.EqNone.ne_none_int (Dv I q (by simp))
  |str j=>obtain⟨t',rfl⟩:=a;exact PySem.EqNone.ne_none_str (Dv I q (by simp))
  |_=>exact wo (show false=true from hs) Bj
 |bl i=>
  cases b;cases y with
  |non=>cases a;exact PySem.EqNone.ne_bool_none (Dv I q (by simp))
  |bl j=>cases a;exact ne_bool (Dv I q (wn not kF))
  |str j=>obtain⟨t',rfl⟩:=a;exact PySem.EqMixed.ne_bool_str (Dv I q (by simp))
  |_=>exact wo (show false=true from hs) Bj
 |int i=>
  obtain⟨t,rfl⟩:=b;cases y with
  |non=>cases a;exact PySem.EqNone.ne_int_none (Dv I q (by simp))
  |int j=>obtain⟨t',rfl⟩:=a;exact ne_int (Dv I q (wn not fF))
  |str j=>obtain⟨t',rfl⟩:=a;exact PySem.EqMixed.ne_int_str (Dv I q (by simp))
  |_=>exact wo (show false=true from hs) Bj
 |str i=>
  obtain⟨t,rfl⟩:=b;cases y with
  |non=>cases a;exact PySem.EqNone.ne_str_none (Dv I q (by simp))
  |bl j=>cases a;exact PySem.EqMixed.ne_str_bool (Dv I q (by simp))
  |int j=>obtain⟨t',rfl⟩:=a;exact PySem.EqMixed.ne_str_int (Dv I q (by simp))
  |str j=>obtain⟨t',rfl⟩:=a;exact ne_str (Dv I q (wn not fE))
  |_=>exact wo (show false=true from hs) Bj
 |byt i=>
  obtain⟨t,rfl⟩:=b;cases y with
  |byt j=>obtain⟨t',rfl⟩:=a;exact PySem.W.ne_bytes (Dv I q (wn not fG))
  |_=>exact wo (show false=true from hs) Bj
 |_=>cases y <;> exact wo (show false=true from hs) Bj
theorem oG:MI X (DL .Lt) (pK λi j=>.bl (decide (i<j))):=pT λ_ _ _ _ _ _ _ q=>lt_int q
theorem Xg:MI X (DL .LtE) (pK λi j=>.bl (decide (i<=j))):=pT λ_ _ _ _ _ _ _ q=>le_int q
theorem Uf:MI X (DL .Gt) (pK λi j=>.bl (decide (j<i))):=pT λ_ _ _ _ _ _ _ q=>gt_int q
theorem gD:MI X (DL .In) (λx y H Q=>∃i j,x= .str i/\y= .str j/\Q (.bl (!(EM j i 0 j.length 1).isEmpty)) H):=by
 intro pZ s σ H x y v u Q I b a h;obtain⟨i,j,rfl,rfl,q⟩:=h;obtain⟨t,rfl⟩:=b;obtain⟨t',rfl⟩:=a;exact in_str (Dv I q rfl)
theorem Kq:MI X (DL .Is) (λx y H Q=>y= .non/\Q (.bl (decide (x= .non))) H):=by
 intro pZ s σ H x y v u Q I a b h;obtain⟨rfl,q⟩:=h;cases b;refine is_none_gen (Dv I q ?_);cases x <;> first
  |(cases a;rfl)
  |(obtain⟨t,rfl⟩:=a;rfl)
theorem PZ:MI X (DL .IsNot) (λx y H Q=>y= .non/\Q (.bl (!decide (x= .non))) H):=by
 intro pZ s σ H x y v u Q I a b h;obtain⟨rfl,q⟩:=h;cases b;refine isnot_none_gen (Dv I q ?_);cases x <;> first
  |(cases a;rfl)
  |(obtain⟨t,rfl⟩:=a;rfl)
theorem MI.or{f:AB->AB->Sem AB}{r c:R2}(h:MI X f r)(h':MI X f c):MI X f (λx y H Q=>r x y H Q\/c x y H Q):=by
 intro pZ s σ H x y v u Q I b a q;rcases q with q|q
 ·exact h pZ s σ H x y v u Q I b a q
 ·exact h' pZ s σ H x y v u Q I b a q
theorem Bw(b:Expr){op:CmpOp}(h:op≠ .In:=by decide)(h2:op≠ .NotIn:=by decide):KL op b=false:=by
 have c: (op==CmpOp.In)=false:=by cases op <;> first|rfl|exact wo rfl h
 have a: (op==CmpOp.NotIn)=false:=by cases op <;> first|rfl|exact wo rfl h2
 cases b <;> simp[KL,c,a]
theorem EY{op:CmpOp}{r:R2}(ho:MI X (DL op) r)(ha:PE X a ta)(hb:PE X b tb)(hm:KL op b=false):PE X (.Compare a [op] [b] pos) (tw r ta tb):=by
 intro pZ s σ H Q I h;exact wpAny_Compare1 (qJ ha hb I h λv u s2 x y H2 e d c q=>ho pZ s2 σ H2 x y v u Q e d c q) hm
def rh(t:TE):TT:=λσ H Q=>t σ H λx H'=>∃k,x= .bl k/\Q k H'
theorem Bp{op:CmpOp}{r:R2}(ho:MI X (DL op) r)(ha:PE X a ta)(hb:PE X b tb)(hm:KL op b=false):PT X (.Compare a [op] [b] pos) (rh (tw r ta tb)):=by
 intro pZ s σ H Q I h;refine wpAny_isTrue_Compare1 (Ei (ha pZ s σ H _ I h) λv s1 ⟨x,H1,o,g,l⟩=>Ei (hb pZ s1 σ H1 _ o l) λu s2 ⟨y,H2,n,f,j⟩=>
  Ei (ho pZ s2 σ H2 x y v u _ n g f j) λc q ⟨z,p,m,d,k,e,i⟩=>?_) hm
 subst e;cases d;exact Ge ⟨p,m,i⟩
def pB(r c:R2)(ta tb tc:TE):TE:=λσ H Q=>ta σ H λx H1=>tb σ H1 λy H2=>r x y H2 λz a=>∃k,z= .bl k/\(if k=true then tc σ a λb d=>c y b d Q else Q (.bl false) a)
theorem ak{op f:CmpOp}{r j:R2}(ho:MI X (DL op) r)(g:MI X (DL f) j)(ha:PE X a ta)(hb:PE X b tb)(hc:PE X c tc)(hm:lastMarks [op,f] [b,c]=false:=by with_unfolding_all rfl):PE X (.Compare a [op,f] [b,c] pos) (pB r j ta tb tc):=by
 intro pZ s σ H Q I h;refine Compare_chain (Ei (ha pZ s σ H _ I h) λv s1 ⟨x,H1,G,A,D⟩=>chain_link (Ei (hb pZ s1 σ H1 _ G D) λu s2 ⟨y,H2,F,i,C⟩=>
  Ei (ho pZ s2 σ H2 x y v u _ F A i C) λd q ⟨z,n,m,w,k,e,l⟩=>?_)) hm
 subst e;cases w;refine Ge ?_;cases k with
 |false=>exact ite_ff ⟨.bl false,n,m,rfl,l⟩
 |true=>exact ite_tt (chain_last (Ei (hc pZ q σ n _ m l) λp s4 ⟨o,J,E,t,B⟩=>g pZ s4 σ J y o u p Q E i t B))
theorem Uz: (sizeLine:Nat) <2 ^ 63:=by rw[DJ];decide
theorem Du:MI X (NA .Add) (λx y H Q=>∃i j,x= .str i/\y= .str j/\i.length+j.length<=sizeLine/\Q (.str (i++j)) H):=by
 intro pZ s σ H x y v u Q I b a h;obtain⟨i,j,rfl,rfl,hz,q⟩:=h;obtain⟨t,rfl⟩:=b;obtain⟨t',rfl⟩:=a;exact add_str (λt' tk=>⟨.str (i++j),H,I.tok _,⟨_,rfl⟩,q⟩) hz
theorem Ig{x:V}{us:List AB}(r:Cv [x] us):∃u,us=[u]/\Dd x u:=by
 cases r with
 |cons b a=>cases a;exact⟨_,rfl,b⟩
theorem el{x y:V}{us:List AB}(r:Cv [x,y] us):∃u a,us=[u,a]/\Dd x u/\Dd y a:=by
 cases r with
 |cons e d=>
  cases d with
  |cons c b=>cases b;exact⟨_,_,rfl,e,c⟩
theorem XE(hc:X.calm=true):FE X (.builtin "max") (λxs H Q=>∃i j,xs=[.int i,.int j]/\Q (.int (if j>i then j else i)) H):=by
 intro pZ s σ H xs us Q I r h;obtain⟨i,j,rfl,q⟩:=h;obtain⟨u,b,rfl,⟨t,rfl⟩,⟨t',rfl⟩⟩:=el r;refine max_two_ints (I.ok.hd hc) λh' tk k=>⟨_,H,I.kept k,?_,q⟩;by_cases a:j>i
 ·rw[wm a,wm a];exact⟨_,rfl⟩
 ·rw[wk a,wk a];exact⟨_,rfl⟩
theorem XF:FE X (.type "int") (λxs H Q=>(∃i,xs=[.int i]/\Q (.int i) H)\/∃k,xs=[.bl k]/\Q (.int (if k then 1 else 0)) H):=by
 intro pZ s σ H xs us Q I r h;rcases h with⟨i,rfl,q⟩|⟨k,rfl,q⟩
 ·obtain⟨u,rfl,t,rfl⟩:=Ig r;exact call_int_int ⟨.int i,H,I,⟨_,rfl⟩,q⟩
 ·obtain⟨u,rfl,a⟩:=Ig r;cases a;exact call_int_bool ⟨.int (if k then 1 else 0),H,I.tok _,⟨_,rfl⟩,q⟩
theorem HW:FE X (.type "str") (λxs H Q=>∃i,xs=[.int i]/\i.natAbs.log2<1920/\Q (.str (toString i)) H):=by
 intro pZ s σ H xs us Q I r h;obtain⟨i,rfl,hz,q⟩:=h;obtain⟨u,rfl,t,rfl⟩:=Ig r;exact PySem.P.str_of_int hz ⟨.str _,H,I.tok _,⟨_,rfl⟩,q⟩
theorem kM:FE X (.builtin "ord") (λxs H Q=>∃x,xs=[.str x]/\x.length=1/\Q (.int (x.cps.getD 0 0:Nat)) H):=by
 intro pZ s σ H xs us Q I r h;obtain⟨x,rfl,hz,q⟩:=h;obtain⟨u,rfl,t,rfl⟩:=Ig r;exact ord_of_one hz ⟨.int _,H,I.tok _,⟨_,rfl⟩,q⟩
end
structure dI(h:Ct)(x dx C:AE)(mA:Bc->Option AB):Prop where
 obj:h.get? x=some (CS C dx)
 ns:h.Ns1 dx mA
 ne:dx≠x
theorem gK{h:Ct}{dx:AE}{mA:Bc->Option AB}(n:h.Ns1 dx mA):∃od,h.get? dx=some od/\∀name,QL name od=some (mA name):=by
 obtain⟨o,es,g,ho,hd,d,_,hm⟩:=n;refine⟨o,ho,λname=>?_⟩;have e:=hm name;unfold nsFind findBy at e;rw[<-Array.find?_toList]at e;unfold QL;rw[hd]
 dsimp only
 split
 ·rename_i y q;rw[q]at e;exact wn some e
 ·rename_i q;rw[q]at e;have a:es.toList.any (·.refKey)=false:=by
   rw[Mz];intro y c;obtain⟨z,t,b⟩:=d y (QU.mp c);simp[DictEntry.refKey,b]
  have f:¬es.toList.any (·.refKey)=true:=by rw[a];exact Bj
  rw[wk f];exact wn some e
theorem dI.look{h:Ct}{x dx C:AE}{mA:Bc->Option AB}(I:dI h x dx C mA):∃od,PySem.W.InstAt h x (CS C dx) C (some od)/\∀name,QL name od=some (mA name):=let ⟨od,ho,a⟩:=gK I.ns
 ⟨od,⟨I.obj,rfl,rfl,ho⟩,a⟩
section
variable{prog:Bq}{w:BU}{A:CH}{E:AB->AG->Prop}{s:AG}{K:AF}{x dx C f:AE}{mA:Bc->Option AB}{name:Bc}{v:AB}
theorem YW{expr:Bool}{Q:AB->AG->Prop}(X:K.In s.heap)(I:dI s.heap x dx C mA)(hg:ND K C name=true)(d:Mx K C=true)(ha:CF K (.ref C) name=some none)(b:mA name=some v)(a:PySem.W.handedIn v=true)(h:Q v {s with toks:=s.toks+1}):
  BN (model prog w) A (getAttr (.ref x) name expr) Q E s:=by
 obtain⟨od,J,c⟩:=I.look;exact PySem.W.get_value X J (RJ hg).1 (PySem.W.findObj_own d ha rfl (by rw[c,b])) a h
theorem kh{pl:Sem Bool}{Q:AB×List AB->AG->Prop}(X:K.In s.heap)(I:dI s.heap x dx C mA)(hg:ND K C name=true)(hf:CF K (.ref C) name=some (some (.ref f)))(b:Vd K (.ref f)=true)(a:mA name=none)(h:Q (.ref f,[.ref x]) s):
  BN (model prog w) A (Vq (.ref x) name pl) Q E s:=by
 obtain⟨od,J,c⟩:=I.look;exact PySem.W.method_fn X J (RJ hg).1 (RJ hg).2 hf (beq_iff_eq.mp b) (by show(QL name od).map (·.isSome)=some false;rw[c,a];rfl) h
theorem ma{ns:List Bc}{Q:Unit->AG->Prop}(X:K.In s.heap)(I:dI s.heap x dx C mA)(hs:CF K (.ref C) "__setattr__"=some (some (.builtin "object.__setattr__")))(hp:PySem.W.plainOver K C=true)(j:PySem.W.takerIn K C name=some none)(k:Mx K C=true)(hw:PySem.Within mA ns)(hsz:ns.length<=sizeLine)(h:∀h',dI h' x dx C (λy=>if y=name then some v else mA y)->RN dx s.heap h'->Q () {s with heap:=h',toks:=s.toks+2}):
  BN (model prog w) A (setAttr (.ref x) name v) Q E s:=by
 obtain⟨od,J,n⟩:=I.look;refine PySem.W.set_plain X J hs (PySem.W.osa_open (s:={s with toks:=s.toks+1}) (r:=none) X J hp j λb=>?_);obtain⟨cd,hc,g⟩:=PySem.W.any_some k;have hx:s.heap.get? x=some ⟨.ref C,some dx,.plain,#[]⟩:=I.obj;refine AR (Bx (AR (AR (wpAny_loadPart hx (AR (PySem.W.Looks.here (s:={s with toks:=s.toks+1}) (PySem.W.looks_clsIn X hc) ?_))))));rw[g];refine Bx (a:=some dx) (AR (Bx (AR ?_)));refine wpAny_nsSet1 (s:={s with toks:=s.toks+1}) I.ns λh' d c=>?_;obtain⟨oD,l,m,e,f,i⟩:=d.count (PySem.Within.cons name v hw);refine AR (wpAny_lookBehind e (by rw[f];exact pastItsLine_dict (AJ i (by rw[Cd];lia))) ?_);exact Bx (h _ ⟨(c.2 _ (CI I.ne)).trans I.obj,d,I.ne⟩ c)
theorem jP{R:Result->AG->Prop}{vs:List AB}{a:List (Bc×AB)}(X:K.In s.heap)(hm:OQ K C=true)(hi:CF K (.ref C) "__init__"=some (some (.ref f)))(hf:PySem.W.typeIn K (.ref f)=some (.type "function"))(h:KJ (model prog w) (A.under (.builtin "type.__call__" ⟨.ref C::vs,a⟩)) (.call (.ref f) ⟨.ref (s.heap.objs.size+1)::vs,a⟩) (PySem.W.InitBack (s.heap.objs.size+1) R)
   {s with heap:=(s.heap.push CD).push (CS C s.heap.objs.size)}):
  KJ (model prog w) A (.call (.ref C) ⟨vs,a⟩) R s:=by
 obtain⟨b,g,d,t,os⟩:=s;exact PySem.W.make_core (WM X hm) (PySem.W.looks_findIn X hi) (λself=>PySem.W.bind_fn X self hf) (.inl rfl) h
theorem gJ{R:Result->AG->Prop}(X:K.In s.heap)(hm:OQ K C=true)(hi:CF K (.ref C) "__init__"=some (some (.builtin "object.__init__")))(hb:∀self,PySem.W.Looks (model prog w) s.heap (bindSpecial (.builtin "object.__init__") self) (.builtin "object.__init__",[self]))(h:KJ (model prog w) (A.under (.builtin "type.__call__" ⟨[.ref C],[]⟩)) (.call (.builtin "object.__init__") ⟨[.ref (s.heap.objs.size+1)],[]⟩) (PySem.W.InitBack (s.heap.objs.size+1) R)
   {s with heap:=(s.heap.push CD).push (CS C s.heap.objs.size)}):
  KJ (model prog w) A (.call (.ref C) ⟨[],[]⟩) R s:=by
 obtain⟨a,g,d,t,os⟩:=s;exact PySem.W.make_core (WM X hm) (PySem.W.looks_findIn X hi) hb (.inr ⟨rfl,rfl⟩) h
end
def Oa(f:Bc)(v:V):List (Bc×V)->List (Bc×V)
 |[]=>[(f,v)]
 |(g,x)::r=>if g=f then (g,v)::r else (g,x)::Oa f v r
theorem Sj(f g:Bc)(v:V):∀fs:List (Bc×V),(Oa f v fs).lookup g=if g=f then some v else fs.lookup g
 |[]=>by
  show Ew g [(f,v)]=_;by_cases h:g=f
  ·have hb: (g==f)=true:=beq_iff_eq.mpr h;simp only[Ew,hb,wm h]
  ·have hb: (g==f)=false:=beq_eq_false_iff_ne.mpr h;simp only[Ew,hb,wk h]
 |(k,x)::r=>by
  have b:=Sj f g v r;rw[show Oa f v ((k,x)::r)=(if k=f then (k,v)::r else (k,x)::Oa f v r)from rfl]
  by_cases a:k=f
  ·rw[wm a];by_cases h:g=k
   ·have hb: (g==k)=true:=beq_iff_eq.mpr h;simp only[Ew,hb,wm (h.trans a)]
   ·have hb: (g==k)=false:=beq_eq_false_iff_ne.mpr h;simp only[Ew,hb,wk (λe:g=f=>h (e.trans a.symm))]
  ·rw[wk a];by_cases h:g=k
   ·have hb: (g==k)=true:=beq_iff_eq.mpr h;simp only[Ew,hb,wk (λe:g=f=>a (h.symm.trans e))]
   ·have hb: (g==k)=false:=beq_eq_false_iff_ne.mpr h;simp only[Ew,hb];exact b
theorem Rv(f:Bc)(v:V):∀fs:List (Bc×V),f∈ (Oa f v fs).map (·.1)/\∀g,g∈fs.map (·.1)->g∈ (Oa f v fs).map (·.1)
 |[]=>⟨by simp[Oa],λg h=>by simp at h⟩
 |(k,x)::r=>by
  obtain⟨b,i2⟩:=Rv f v r;rw[show Oa f v ((k,x)::r)=(if k=f then (k,v)::r else (k,x)::Oa f v r)from rfl]
  by_cases a:k=f
  ·rw[wm a];subst a;exact⟨by simp,λg h=>by simpa using h⟩
  ·rw[wk a];refine⟨?_,λg h=>?_⟩
   ·rw[Bf];exact BG _ b
   ·rw[Bf]at h ⊢;rcases AU.mp h with e|e
    ·exact AU.mpr (.inl e)
    ·exact BG _ (i2 g e)
theorem Sk(f:Bc)(v:V):∀fs:List (Bc×V),(Oa f v fs).length<=fs.length+1
 |[]=>by simp[Oa]
 |(k,x)::r=>by
  have b:=Sk f v r;rw[show Oa f v ((k,x)::r)=(if k=f then (k,v)::r else (k,x)::Oa f v r)from rfl]
  by_cases a:k=f
  ·rw[wm a,Cd,Cd];lia
  ·rw[wk a,Cd,Cd];lia
theorem Lo.some_of{v:V}{o:Option AB}(r:Lo (some v) o):∃u,o=some u/\Dd v u:=by
 cases o with
 |none=>exact(show False from r).elim
 |some u=>exact⟨u,rfl,r⟩
theorem Lo.none_of{o:Option AB}(r:Lo none o):o=none:=by
 cases o with
 |none=>rfl
 |some u=>exact(show False from r).elim
theorem gW{v:V}{u:AB}(r:Dd v u):PySem.W.handedIn u=true:=by
 cases v with
 |non=>cases (show u=DX from r);rfl
 |bl b=>cases (show u=EB b from r);rfl
 |int i=>obtain⟨t,e⟩:=(show ∃t,u=EA i t from r);cases e;rfl
 |str x=>obtain⟨t,e⟩:=(show ∃t,u=KB x t from r);cases e;rfl
 |byt b=>obtain⟨t,e⟩:=(show ∃t,u=Value.bytes b t from r);cases e;rfl
 |flt b=>obtain⟨t,e⟩:=(show ∃t,u=Vb b t from r);cases e;rfl
 |ref a=>cases (show u=BD a from r);rfl
 |ty n=>cases (show u=IU n from r);rfl
section
variable{P:Bq}{w:BU}{H H':Hp}{h h':Ct}{a C dx:AE}{fs fs':List (Bc×V)}
theorem LX(hok:Md P w H h)(e:H a=some (.ins C dx fs)):∃mA,dI h a dx C mA/\(∀f,Lo (fs.lookup f) (mA f))/\PySem.Within mA (fs.map (·.1))/\fs.length<=1000/\H dx=some (.own a):=by
 obtain⟨d,z,ne,ob,mA,n,r,q⟩:=(show Dw P w H h a (.ins C dx fs)from hok a _ e);exact⟨mA,⟨ob,n,ne⟩,r,q,z,d⟩
end
structure NV(K:AF)(C:AE):Prop where
 pg:ND K C Str.empty=true
 hd:Mx K C=true
 po:PySem.W.plainOver K C=true
 sa:CF K (.ref C) "__setattr__"=some (some (.builtin "object.__setattr__"))
theorem NV.get{K:AF}{C:AE}(c:NV K C)(f:Bc):ND K C f=true:=c.pg
def Go(K:AF)(C:AE)(f:Bc):Prop:=CF K (.ref C) f=some none
theorem Go.taker{K:AF}{C:AE}{f:Bc}(n:Go K C f):PySem.W.takerIn K C f=some none:=by
 unfold PySem.W.takerIn;rw[show CF K (.ref C) f=some none from n];rfl
structure wf(K:AF)(C:AE)(f:Bc)(v:V)(u:AB):Prop where
 at_:CF K (.ref C) f=some (some u)
 rel:Dd v u
 get:Mu K u "__get__"=some none
 cp:PySem.W.copiedNames.contains f=false
structure hX(K:AF)(C:AE)(m:Bc)(f:AE):Prop where
 at_:CF K (.ref C) m=some (some (.ref f))
 fn:Vd K (.ref f)=true
 kp:Hg K (.ref f)=true
section
variable{X:Cx}{pZ:List (AE×Obj)}{σ:St}{H:Hp}{s:AG}{a C dx:AE}{fs:List (Bc×V)}{f:Bc}{v:V}{A:CH}{E:AB->AG->Prop}
theorem dr{b:Bool}{Q:AB->AG->Prop}(I:Cr X pZ σ H s)(e:H a=some (.ins C dx fs))(c:NV X.K C)(n:Go X.K C f)(l:fs.lookup f=some v)(h:∀u s',Cr X pZ σ H s'->Dd v u->Q u s'):BN (model X.prog X.w) A (getAttr (.ref a) f b) Q E s:=by
 obtain⟨mA,O,r,_,_,_⟩:=LX I.hok e;obtain⟨u,g,d⟩:=Lo.some_of (v:=v) (o:=mA f) (by rw[<-l];exact r f);exact YW I.kIn O (c.get f) c.hd n g (gW d) (h u _ (I.tok _) d)
theorem LY{m:Bc}{g:AE}{pl:Sem Bool}{Q:AB×List AB->AG->Prop}(I:Cr X pZ σ H s)(e:H a=some (.ins C dx fs))(c:NV X.K C)(k:hX X.K C m g)(l:fs.lookup m=none)(h:Q (.ref g,[.ref a]) s):BN (model X.prog X.w) A (Vq (.ref a) m pl) Q E s:=by
 obtain⟨mA,O,r,_,_,_⟩:=LX I.hok e;have hn:mA m=none:=Lo.none_of (by rw[<-l];exact r m);exact kh I.kIn O (c.get m) k.at_ k.fn hn h
theorem cD{y:V}{u:AB}{Q:Unit->AG->Prop}(I:Cr X pZ σ H s)(e:H a=some (.ins C dx fs))(c:NV X.K C)(n:Go X.K C f)(k:fs.length<1000)(i:Dd y u)(h:∀s',Cr X pZ σ (upd H a (.ins C dx (Oa f y fs))) s'->Q () s'):BN (model X.prog X.w) A (setAttr (.ref a) f u) Q E s:=by
 obtain⟨mA,O,r,wi,_,ho⟩:=LX I.hok e;have hz: (fs.map (·.1)).length<=sizeLine:=by rw[Ay,DJ];lia
 refine ma I.kIn O c.sa c.po n.taker c.hd wi hz λh' d sb=>h _ ?_;have hd:∃o,h'.get? dx=some o:=let ⟨o,_,_,j,_⟩:=d.ns;⟨o,j⟩;refine I.write (x:=a) (e:=dx) (by rw[e];exact Dz) (.inr ho) (λb q hb z=>(sb.2 b hb).trans z) hd ?_;refine⟨by rw[Bb O.ne];exact ho,?_,O.ne,d.obj,_,d.ns,λg=>?_,λg hg=>?_⟩
 ·have:=Sk f y fs;lia
 ·show Lo ((Oa f y fs).lookup g) (if g=f then some u else mA g)
  rw[Sj];by_cases q:g=f
  ·rw[wm q,wm q];exact i
  ·rw[wk q,wk q];exact r g
 ·by_cases q:g=f
  ·rw[q];exact(Rv f y fs).1
  ·refine(Rv f y fs).2 g (wi g λz=>hg ?_);show(if g=f then some u else mA g)=none
   rw[wk q];exact z
theorem Cr.made(I:Cr X pZ σ H s):Cr X pZ σ (upd (upd H s.heap.objs.size (.own (s.heap.objs.size+1))) (s.heap.objs.size+1) (.ins C s.heap.objs.size []))
  {s with heap:=(s.heap.push CD).push (CS C s.heap.objs.size)}:=by
 have c: (s.heap.push CD).get? s.heap.objs.size=some CD:=Bo s.heap rfl;have h: ((s.heap.push CD).push (CS C s.heap.objs.size)).get? (s.heap.objs.size+1)=some (CS C s.heap.objs.size):=by
  have:=Bo (s.heap.push CD) (o:=CS C s.heap.objs.size) rfl
  rwa [JM]at this
 have g: (s.heap.push CD).Ns s.heap.objs.size (λ_=>none):=⟨CD,#[],_,c,rfl,(λe f=>wo f (by simp)),λ_=>rfl⟩;have i:=I.laid (a:=s.heap.objs.size) (o:=.own (s.heap.objs.size+1)) (h':=s.heap.push CD) (t':=s.toks) (λb u q=>AK _ q) (AX _) ⟨_,c⟩;refine i.laid (a:=s.heap.objs.size+1) (o:=.ins C s.heap.objs.size []) (t':=s.toks) (λb u q=>AK _ q) (Vg (JM _ _)) ?_;have ne:s.heap.objs.size≠s.heap.objs.size+1:=BE (Hw _);refine⟨by rw[Bb ne,AC],Ci _,ne,h,λ_=>none,(Heap.Ns1.of_empty g).at λo q=>AK _ q,λ_=>Dz,λy d=>wo rfl d⟩
theorem Zj{prog:Bq}{w:BU}{env:Env}{e:Expr}{f:Bc}{pos:FX}{s:AG}{Q:AB->AG->Prop}(hb:Hn e f env (Ea e env)=Ea e env)(h:BN (model prog w) A (Ea e env) (λo a=>BN (model prog w) A (getAttr o f true) Q E a) E s):BN (model prog w) A (Ea (.Attribute e f pos) env) Q E s:=Attribute_any_ h (by rw[arm_eval_Attribute,hb])
end
def rp(K:AF)(ta:TE)(f:Bc):TE:=λσ H Q=>ta σ H λx H1=>∃a C dx fs v,x= .ref a/\H1 a=some (.ins C dx fs)/\NV K C/\Go K C f/\fs.lookup f=some v/\Q v H1
def uc(K:AF)(ta tv:TE)(f:Bc):TS:=λD σ H=>tv σ H λy H1=>ta σ H1 λx H2=>∃a C dx fs,x= .ref a/\H2 a=some (.ins C dx fs)/\NV K C/\Go K C f/\fs.length<1000/\D.nx σ (upd H2 a (.ins C dx (Oa f y fs)))
section
variable{X:Cx}{o e value:Expr}{f:Bc}{pos pos' tpos:FX}{ta tv:TE}
theorem BF(i:PE X e ta)(hb:Hn e f X.env (Ea e X.env)=Ea e X.env):PE X (.Attribute e f pos) (rp X.K ta f):=by
 intro pZ s σ H Q I h;refine Zj hb (Ei (i pZ s σ H _ I h) λu s1 b=>?_);obtain⟨x,H1,m,d,a,C,dx,fs,v,ex,j,c,n,l,q⟩:=b;subst ex;obtain rfl:u=BD a:=d;exact dr m j c n l λo s2 k g=>⟨v,H1,k,g,q⟩
theorem Gn(ha:PE X o ta)(k:PE X value tv)(hs:swapsWith value (some (.Attribute o f pos')) pos.line X.env=IX false):PS X (.Assign [.Attribute o f pos'] value pos) (uc X.K ta tv f):=by
 intro pZ s σ H D I h;refine plainObj_wpAny_Assign_Attribute (Ei (k pZ s σ H _ I h) λu s1 d=>?_) hs;obtain⟨y,H1,t,e,q⟩:=d;refine Ei (ha pZ s1 σ H1 _ t q) λj s2 b=>?_;obtain⟨x,H2,r,g,a,C,dx,fs,ex,m,c,n,l,i⟩:=b;subst ex;obtain rfl:j=BD a:=g;exact cD r m c n l e λv p=>⟨σ,_,p,i⟩
end
section
variable{X:Cx}{pZ:List (AE×Obj)}{σ:St}{H:Hp}{s:AG}{A:CH}{E:AB->AG->Prop}{Q:AB->AG->Prop}{c:AB}{b:Bool}
inductive Jl(K:AF)(H:Hp):V->AB->Prop where
 |non:Jl K H .non (.type "NoneType")
 |bl (x:Bool):Jl K H (.bl x) (.type "bool")
 |int (i:Int):Jl K H (.int i) (.type "int")
 |str (x:Bc):Jl K H (.str x) (.type "str")
 |flt (x:UInt64):Jl K H (.flt x) (.type "float")
 |lst {a:AE} {xs:List V} (e:H a=some (.lst xs)):Jl K H (.ref a) (.type "list")
 |frz {a:AE} {o:Obj} {xs:List V} (e:H a=some (.frz o (.lst xs))):Jl K H (.ref a) (.type "list")
 |tup {a:AE} {xs:List V} (e:H a=some (.tup xs)):Jl K H (.ref a) (.type "tuple")
 |dK {a:AE} {kvs:List (Gk×V)} (e:H a=some (.dK kvs)):Jl K H (.ref a) (.type "dict")
 |dT {a:AE} {kvs:List (List Gk×V)} (e:H a=some (.dT kvs)):Jl K H (.ref a) (.type "dict")
 |ins {a C dx:AE} {fs:List (Bc×V)} (e:H a=some (.ins C dx fs)) (cl:NV K C) (ha:CF K (.ref C) "__class__"=some (some (.builtin "object.__class__"))) (hn:Mu K (.builtin "object.__class__") "__get__"=some (some (.builtin "getset_descriptor.__get__"))) (htk:PySem.W.takesIn K (.builtin "object.__class__")=some true) (hm:Su K C (.type "object")=some true):Jl K H (.ref a) (.ref C)
theorem gR{x:V}{u t:AB}(I:Cr X pZ σ H s)(d:Dd x u)(ty:Jl X.K H x t)(e:BR X.K t c=some b)(h:∀tk,Q (.bool b) {s with toks:=tk}):
  BN (model X.prog X.w) A (call (.builtin "isinstance") [u,c]) Q E s:=by
 cases ty with
 |non=>cases (show u=DX from d);exact DI PySem.W.kitx_none I.kIn Dz e (λz=>nomatch z) h
 |bl y=>cases (show u=EB y from d);exact DI PySem.W.kitx_bool I.kIn Dz e (λz=>nomatch z) h
 |int i=>obtain⟨t,q⟩:=(show ∃t,u=EA i t from d);cases q;exact DI PySem.W.kitx_int I.kIn Dz e (λz=>nomatch z) h
 |str y=>obtain⟨t,q⟩:=(show ∃t,u=KB y t from d);cases q;exact DI PySem.W.kitx_str I.kIn Dz e (λz=>nomatch z) h
 |flt y=>obtain⟨t,q⟩:=(show ∃t,u=Vb y t from d);cases q;exact DI PySem.W.kitx_float I.kIn Dz e (λz=>nomatch z) h
 |@lst a xs f=>
  cases (show u=BD a from d);obtain⟨_,_,n,_,h1⟩:=(show Dw X.prog X.w H s.heap a (.lst xs)from I.hok a _ f);exact DI Mv I.kIn ⟨_,h1,rfl⟩ e (λz=>nomatch z) h
 |@frz a ob xs f=>
  cases (show u=BD a from d);obtain⟨_,_,_,n,_,h1⟩:=(show Dw X.prog X.w H s.heap a (.frz ob (.lst xs))from I.hok a _ f);exact DI Mv I.kIn ⟨_,h1,rfl⟩ e (λz=>nomatch z) h
 |@tup a xs f=>
  cases (show u=BD a from d);obtain⟨_,_,_,p⟩:=(show Dw X.prog X.w H s.heap a (.tup xs)from I.hok a _ f);obtain⟨o,h1,h2,_⟩:=p;exact DI PySem.W.kitx_tuple I.kIn ⟨o,h1,h2⟩ e (λz=>nomatch z) h
 |@dK a kvs f=>
  cases (show u=BD a from d);obtain⟨_,_,vs,_,p⟩:=(show Dw X.prog X.w H s.heap a (.dK kvs)from I.hok a _ f);obtain⟨o,es,g,h1,h2,_⟩:=p;exact DI Mw I.kIn ⟨o,h1,h2.1⟩ e (λz=>nomatch z) h
 |@dT a kvs f=>
  cases (show u=BD a from d);obtain⟨_,_,xs,_,o,es,g,h1,h2,_⟩:=(show Dw X.prog X.w H s.heap a (.dT kvs)from I.hok a _ f);exact DI Mw I.kIn ⟨o,h1,h2.1⟩ e (λz=>nomatch z) h
 |@ins a C dx fs f cl ha hn htk hm=>
  cases (show u=BD a from d);obtain⟨mA,O,_⟩:=LX I.hok f;obtain⟨od,J,_⟩:=O.look;exact DI (PySem.W.kitx_own (cl.get _) cl.hd ha hn htk hm) I.kIn J e (λz=>nomatch z) h
end
structure FD(k:Nat)(A:CH):Prop where
 dp:A.depth+3*k+5<JH
 un:A.units+16*k+200<Va
theorem FD.mono{j k:Nat}{A:CH}(r:FD k A)(h:j<=k):FD j A:=⟨by have:=r.dp;lia,by have:=r.un;lia⟩
theorem FD.deeper{k:Nat}{A:CH}(r:FD (k+1) A)(env:Env):FD k (A.deeper env):=⟨by have:=r.dp;show A.depth+1+3*k+5<_;lia,by have:=r.un;show A.units+3+16*k+200<_;lia⟩
theorem dg{A:CH}{C:AE}{us:List AB}{a:List (Bc×AB)}: (A.under (.builtin "type.__call__" ⟨.ref C::us,a⟩)).depth=A.depth+1:=by
 first|rfl|simp[Around.under,Code.weight,Code.isCreation,Code.isGuard,Code.isCaller,Code.frames,Code.isFrame,guardIds]
theorem dc{A:CH}{C:AE}{us:List AB}{a:List (Bc×AB)}: (A.under (.builtin "type.__call__" ⟨.ref C::us,a⟩)).units=A.units+1:=by
 first|rfl|simp[Around.under,Code.cUnits,Code.frames,Code.isFrame]
theorem FD.make{k:Nat}{A:CH}(r:FD (k+1) A)(C:AE)(us:List AB)(a:List (Bc×AB)):FD k (A.under (.builtin "type.__call__" ⟨.ref C::us,a⟩)):=⟨by have:=r.dp;rw[dg];lia,by have:=r.un;rw[dc];lia⟩
theorem FD.depth{k:Nat}{A:CH}(r:FD k A):A.depth<JH:=by have:=r.dp;lia
theorem FD.units{k:Nat}{A:CH}(r:FD k A):A.units+64<Va:=by have:=r.un;lia
def Yl:TA:=λ_ H Q=>Q [] H
def WW(ta:TE)(a:TA):TA:=λσ H Q=>ta σ H λx H1=>a σ H1 λxs H2=>Q (x::xs) H2
section
variable{X:Cx}{e:Expr}{es:List Expr}{te:TE}{t:TA}{pos:FX}
theorem AA:PA X [] Yl:=λ_ _ _ _ H Q I h=>JN ⟨[],H,I,.nil,h⟩
theorem Ax(ha:PE X e te)(i:PA X es t)(hs:BW (e::es) X.env=(false,Ea e X.env)::BW es X.env:=by rfl):PA X (e::es) (WW te t):=by
 intro pos pZ s σ H Q I h;rw[hs];show BN _ _ (spliced ((false,Ea e X.env)::Fq pos (BW es X.env))) _ _ s;refine GV (Ei (ha pZ s σ H _ I h) λu s1 b=>?_);obtain⟨x,H1,k,d,g⟩:=b;exact Ei (i pos pZ s1 σ H1 _ k g) λus s2 a=>(by obtain⟨xs,H2,j,c,f⟩:=a;exact⟨x::xs,H2,j,.cons d c,f⟩)
def tR(t:TA):TE:=λσ H Q=>t σ H λxs H1=>xs.length<=sizeLine/\∀p,H1 p=none->Q (.ref p) (upd H1 p (.tup xs))
def tW(t:TA):TE:=λσ H Q=>t σ H λxs H1=>xs.length<=sizeLine/\∀p,H1 p=none->Q (.ref p) (upd H1 p (.lst xs))
theorem DG{d}(h:PA X es t):PE X (.Tuple es d pos) (tR t):=by
 intro pZ s σ H Q I f;refine wpAny_Tuple_spliced (Ei (h pos pZ s σ H _ I f) λus s1 a=>?_);obtain⟨xs,H1,c,r,z,q⟩:=a;refine⟨by rw[<-r.length];exact z,?_⟩;have hf:H1 s1.heap.objs.size=none:=c.hok.fresh (AX _);refine⟨.ref s1.heap.objs.size,upd H1 s1.heap.objs.size (.tup xs),c.laid (t':=s1.toks) (λb u e=>AK _ e) (AX _) ?_,rfl,q _ hf⟩;exact⟨z,us,r,⟨_,Bo _ rfl,rfl,_,rfl⟩⟩
theorem CP(h:PA X es t):PE X (.List es pos) (tW t):=by
 intro pZ s σ H Q I d;refine wpAny_List_spliced (Ei (h pos pZ s σ H _ I d) λus s1 a=>?_);obtain⟨xs,H1,c,r,z,q⟩:=a;refine⟨by rw[<-r.length];exact z,?_⟩;have hf:H1 s1.heap.objs.size=none:=c.hok.fresh (AX _);refine⟨.ref s1.heap.objs.size,upd H1 s1.heap.objs.size (.lst xs),c.laid (t':=s1.toks) (λb u e=>AK _ e) (AX _) ?_,rfl,q _ hf⟩;exact⟨z,us,0,r,Bo _ rfl⟩
end
abbrev Sp:=List V->Hp->VK->XK->Prop
structure dO where
 cm:Bool
 sm:Bool
 cx:List Env->Hp->AG->XK->AB->AG->Prop
structure dN(P:Bq)(w:BU)(K:AF)(mg:Bc->Option AB)(base:Ct)(A:CH)(outer:List Env)(s:AG)(H:Hp):Prop where
 frames:A.frames=some outer
 mod:Mod K mg base
 bs:∀b o,base.get? b=some o->s.heap.get? b=some o/\H b=none
 bsz:base.objs.size<=s.heap.objs.size
 funs:s.heap.FunFrames base outer
 frf:∀b∈kl outer,H b=none
 hok:Md P w H s.heap
 bare:Yc s.gens
def CE(outer:List Env)(P:Bq)(w:BU)(H:Hp)(s:AG)(Q:VK)(u:AB)(s':AG):Prop:=∃v H',s'.os=s.os/\Yc s'.gens/\Un (kl outer) [] H H' s.heap s'.heap/\Md P w H' s'.heap/\Dd v u/\Q v H'
def CR(CX:dO)(outer:List Env)(P:Bq)(w:BU)(H:Hp)(s:AG)(Q:VK)(E:XK)(r:Result)(s':AG):Prop:=match r with
 |.ok (.ret u)=>CE outer P w H s Q u s'
 |.ok _=>False
 |.error e=>CX.cx outer H s E e s'
structure He(P:Bq)(w:BU)(K:AF)(mg:Bc->Option AB)(base:Ct)(CX:dO)(k:Nat)(f:AE)(fd:Ey)(ps:List Bc)(sp:Sp):Prop where
 len:∀vs H Q E,sp vs H Q E->vs.length=ps.length
 run:∀(A:CH) (outer:List Env) (s:AG) (H:Hp) (args:Args) (us:List AB) (vs:List V) (Q:VK) (E:XK),FD k A->(CX.cm=true->A.handled=none)->(CX.sm=true->Hd A H)->dN P w K mg base A outer s H->BindsTo s fd args (ps.zip us)->Cv vs us->sp vs H Q E->KJ (model P w) A (.call (.ref f) args) (CR CX outer P w H s Q E) s
theorem He.mono{P:Bq}{w:BU}{K:AF}{mg:Bc->Option AB}{base:Ct}{CX:dO}{j k:Nat}{f:AE}{fd:Ey}{ps:List Bc}{sp:Sp}(F:He P w K mg base CX j f fd ps sp)(h:j<=k):
  He P w K mg base CX k f fd ps sp:=⟨F.len,λA outer s H args us vs Q E a=>F.run A outer s H args us vs Q E (a.mono h)⟩
theorem He.imp{P:Bq}{w:BU}{K:AF}{mg:Bc->Option AB}{base:Ct}{CX:dO}{k:Nat}{f:AE}{fd:Ey}{ps:List Bc}{sp a:Sp}(F:He P w K mg base CX k f fd ps sp)(h:∀vs H Q E,a vs H Q E->sp vs H Q E):He P w K mg base CX k f fd ps a:=⟨λvs H Q E q=>F.len vs H Q E (h _ _ _ _ q),λA outer s H args us vs Q E d hc b e hb c hs=>F.run A outer s H args us vs Q E d hc b e hb c (h _ _ _ _ hs)⟩
theorem dN.make{P:Bq}{w:BU}{K:AF}{mg:Bc->Option AB}{base:Ct}{A:CH}{outer:List Env}{s:AG}{H:Hp}(e:dN P w K mg base A outer s H)(C:AE)(us:List AB)(a:List (Bc×AB)):
  dN P w K mg base (A.under (.builtin "type.__call__" ⟨.ref C::us,a⟩)) outer s H:=⟨by first|exact e.frames|(simpa [Around.under,Code.envs,Code.isFrame,pushEnvs]using e.frames),e.mod,e.bs,e.bsz,e.funs,e.frf,e.hok,e.bare⟩
section
variable{X:Cx}{pZ:List (AE×Obj)}{σ:St}{H:Hp}{s s':AG}
theorem Cr.env0(I:Cr X pZ σ H s):dN X.prog X.w X.K X.mg X.base X.A X.stack s H:=⟨I.ok.frames,I.ok.mod,I.bs,AJ I.ok.bsz I.sz,I.stack,I.stkFree,I.hok,I.bare⟩
theorem Cr.after{Q:VK}{u:AB}(I:Cr X pZ σ H s)(h:CE X.stack X.prog X.w H s Q u s'):EP X pZ σ Q u s':=by
 obtain⟨v,H',os,bare,un,hok,r,q⟩:=h;obtain⟨c,g,d,t,a⟩:=s';obtain rfl:a=s.os:=os;exact⟨v,H',I.call (h':=c) (g':=g) (d':=d) (t':=t) (ch:=[]) un hok bare (λb z=>wo z (by simp)),r,q⟩
end
def ox(sp:Sp)(dvs:List V)(E:XK)(t:TA):TE:=λσ H Q=>t σ H λvs H1=>sp (vs++dvs) H1 Q E
def ou(C:AE)(m:Bc)(sp:Sp)(dvs:List V)(E:XK)(ta:TE)(t:TA):TE:=λσ H Q=>ta σ H λx H1=>∃a dx fs,x= .ref a/\H1 a=some (.ins C dx fs)/\fs.lookup m=none/\t σ H1 λvs H2=>sp (x:: (vs++dvs)) H2 Q E
def ov(C:AE)(sp:Sp)(dvs:List V)(E:XK)(t:TA):TE:=λσ H Q=>t σ H λvs H1=>∀x dx,H1 x=none->H1 dx=none->dx≠x->sp (.ref x:: (vs++dvs)) (upd (upd H1 dx (.own x)) x (.ins C dx [])) (λv H2=>v= .non/\Q (.ref x) H2) E
def Er(K:AF)(fd:Ey)(ps:List Bc)(ds:List AB):Prop:=∀(s:AG) (us:List AB),K.In s.heap->(us++ds).length=ps.length->BindsTo s fd ⟨us,[]⟩ (ps.zip (us++ds))
theorem Er.all{K:AF}{fd:Ey}{ps:List Bc}(h:∀us:List AB,us.length=ps.length->bindArgs fd ⟨us,[]⟩=IX (ps.zip us)):Er K fd ps []:=λs us _ a=>by
 rw[CA]at a ⊢;exact .of_eq (h us a)
def Kz(CX:dO)(X:Cx)(E:XK):Prop:=(CX.cm=true->X.calm=true)/\CX.sm=false/\∀(pZ:List (AE×Obj)) (σ:St) (H:Hp) (s:AG) (e:AB) (s':AG),Cr X pZ σ H s->CX.cx X.stack H s E e s'->X.xe e s'
section
variable{X:Cx}{CX:dO}{k:Nat}{f C:AE}{fd:Ey}{ps:List Bc}{sp:Sp}{dvs:List V}{ds:List AB}{E:XK}{x m:Bc}{p pos apos:FX}{e o:Expr}{es:List Expr}{ta:TE}{t:TA}
theorem Ub{pZ:List (AE×Obj)}{σ:St}{H:Hp}{s:AG}{Q:VK}{us:List AB}{vs:List V}(F:He X.prog X.w X.K X.mg X.base CX k f fd ps sp)(c:FD k X.A)(hb:Er X.K fd ps ds)(hd:Cv dvs ds)(hx:Kz CX X E)(I:Cr X pZ σ H s)(r:Cv vs us)(h:sp (vs++dvs) H Q E):BN (model X.prog X.w) X.A (call (.ref f) us) (EP X pZ σ Q) X.xe s:=by
 have b:Cv (vs++dvs) (us++ds):=r.append hd;have d: (us++ds).length=ps.length:=by rw[<-b.length];exact F.len _ _ _ _ h
 refine RD (MC (F.run X.A X.stack s H ⟨us,[]⟩ (us++ds) (vs++dvs) Q E c (λz=>I.ok.hd (hx.1 z)) (λz=>by rw[hx.2.1]at z;cases z) I.env0 (hb s us I.kIn d) b h) λr s' a=>?_);cases r with
 |error e=>exact hx.2.2 pZ σ H s e s' I a
 |ok fl=>
  cases fl with
  |ret u=>exact I.after a
  |next=>exact Fg a
  |brk=>exact Fg a
  |cont=>exact Fg a
theorem my(F:He X.prog X.w X.K X.mg X.base CX k f fd ps sp)(g:FD k X.A)(hg:Gl X x)(hm:X.mg x=some (.ref f))(i:Hg X.K (.ref f)=true)(hb:Er X.K fd ps ds)(hd:Cv dvs ds)(hx:Kz CX X E)(ha:PA X (e::es) t)(c: (x==("__debug__" :Bc))=false:=by decide)(j:BW (e::es) X.env=(false,Ea e X.env)::BW es X.env:=by rfl)(b: (Fq pos (BW es X.env)).any (·.1)=false:=by rfl):
  PE X (.Call (.Name x p) (e::es) [] pos) (ox sp dvs E t):=by
 intro pZ s σ H Q I h;refine CQ (Qj I hg hm ?_ c);refine Lq (h₀:=X.base) I.ok.mod.kin i (Ei (ha pos pZ s σ H _ I h) λus s1 a=>?_) j b;obtain⟨vs,H1,d,r,q⟩:=a;refine⟨d.kIn,?_⟩;exact Ub F g hb hd hx d r q
theorem Te{pl:Sem Bool}(D:PE X o ta)(c:NV X.K C)(hm:hX X.K C m f)(F:He X.prog X.w X.K X.mg X.base CX k f fd ps sp)(B:FD k X.A)(hb:Er X.K fd ps ds)(hd:Cv dvs ds)(hx:Kz CX X E)(ha:PA X (e::es) t)(g:BW (e::es) X.env=(false,Ea e X.env)::BW es X.env:=by rfl)(i: (Fq pos (BW es X.env)).any (·.1)=false:=by rfl)(z:Ea (.Call (.Attribute o m apos) (e::es) [] pos) X.env=(do
   let j <-Ea o X.env
   standAt apos.atName
   let (f,first) <-holding [j] (Vq j m pl)
   callWith pos f first (Fq pos (BW (e::es) X.env)) (NB pos (Ib [] X.env))):=by rfl):
  PE X (.Call (.Attribute o m apos) (e::es) [] pos) (ou C m sp dvs E ta t):=by
 intro pZ s σ H Q I h;refine IZ (pl:=pl) (Ei (D pZ s σ H _ I h) λu s1 d=>?_) z;obtain⟨x,H1,p,v,a,dx,fs,ex,G,l,q⟩:=d;subst ex;obtain rfl:u=BD a:=v;refine LY p G c hm l ?_;refine Lq (first:=[.ref a]) (h₀:=X.base) I.ok.mod.kin hm.kp (Ei (ha pos pZ s1 σ H1 _ p q) λus s2 b=>?_) g i
 obtain⟨vs,H2,n,r,y⟩:=b;refine⟨n.kIn,?_⟩;exact Ub (us:=.ref a::us) (vs:=.ref a::vs) F B hb hd hx n (.cons rfl r) y
theorem ah{pl:Sem Bool}(n:PE X o ta)(c:NV X.K C)(hm:hX X.K C m f)(F:He X.prog X.w X.K X.mg X.base CX k f fd ps sp)(j:FD k X.A)(hb:Er X.K fd ps ds)(hd:Cv dvs ds)(hx:Kz CX X E)(i:Ea (.Call (.Attribute o m apos) [] [] pos) X.env=(do
   let e <-Ea o X.env
   standAt apos.atName
   let (f,first) <-holding [e] (Vq e m pl)
   callWith pos f first (Fq pos (BW [] X.env)) (NB pos (Ib [] X.env))):=by rfl):
  PE X (.Call (.Attribute o m apos) [] [] pos) (ou C m sp dvs E ta Yl):=by
 intro pZ s σ H Q I h;refine IZ (pl:=pl) (Ei (n pZ s σ H _ I h) λu s1 b=>?_) i;obtain⟨x,H1,d,g,a,dx,fs,ex,p,l,q⟩:=b;subst ex;obtain rfl:u=BD a:=g;refine LY d p c hm l ?_;exact Ke (first:=[.ref a]) d.kIn hm.kp (Ub (us:=[.ref a]) (vs:=[.ref a]) F j hb hd hx d (.cons rfl .nil) q)
structure Mk(K:AF)(C f:AE):Prop where
 makes:OQ K C=true
 init:CF K (.ref C) "__init__"=some (some (.ref f))
 fn:Vd K (.ref f)=true
 kp:Hg K (.ref C)=true
theorem ZV{pZ:List (AE×Obj)}{σ:St}{H:Hp}{s:AG}{Q:VK}{us:List AB}{vs:List V}(M:Mk X.K C f)(F:He X.prog X.w X.K X.mg X.base CX k f fd ps sp)(j:FD (k+1) X.A)(hb:Er X.K fd ps ds)(hd:Cv dvs ds)(hx:Kz CX X E)(I:Cr X pZ σ H s)(r:Cv vs us)(h:∀x dx,H x=none->H dx=none->dx≠x->sp (.ref x:: (vs++dvs)) (upd (upd H dx (.own x)) x (.ins C dx [])) (λv H2=>v= .non/\Q (.ref x) H2) E):
  BN (model X.prog X.w) X.A (call (.ref C) us) (EP X pZ σ Q) X.xe s:=by
 have d:=h (s.heap.objs.size+1) s.heap.objs.size (I.hok.fresh (Da _)) (I.hok.fresh (AX _)) (BE (Hw _));have b:=Cr.made (C:=C) I;have c:Cv (V.ref (s.heap.objs.size+1):: (vs++dvs)) (BD (s.heap.objs.size+1):: (us++ds)):=.cons rfl (r.append hd);have l: (BD (s.heap.objs.size+1)::us++ds).length=ps.length:=by
  have e:=c.length;rw[F.len _ _ _ _ d]at e;exact e.symm
 refine RD (jP (f:=f) I.kIn M.makes M.init (beq_iff_eq.mp M.fn) (MC (F.run _ X.stack _ _ ⟨BD (s.heap.objs.size+1)::us,[]⟩ (BD (s.heap.objs.size+1):: (us++ds)) _ _ E (j.make C us []) (λz=>I.ok.hd (hx.1 z)) (λz=>by rw[hx.2.1]at z;cases z) (b.env0.make C us []) (hb _ (BD (s.heap.objs.size+1)::us) b.kIn l) c d) λr s' a=>?_));cases r with
 |error e=>exact hx.2.2 pZ σ _ _ e s' b a
 |ok fl=>
  cases fl with
  |ret u=>
   obtain⟨v,H',n,g,m,i⟩:=b.after a;subst m;exact⟨g,⟨V.ref (s.heap.objs.size+1),H',n,rfl,i⟩⟩
  |next=>exact Fg a
  |brk=>exact Fg a
  |cont=>exact Fg a
theorem DF(M:Mk X.K C f)(F:He X.prog X.w X.K X.mg X.base CX k f fd ps sp)(g:FD (k+1) X.A)(hg:Gl X x)(hm:X.mg x=some (.ref C))(hb:Er X.K fd ps ds)(hd:Cv dvs ds)(hx:Kz CX X E)(ha:PA X (e::es) t)(c: (x==("__debug__" :Bc))=false:=by decide)(i:BW (e::es) X.env=(false,Ea e X.env)::BW es X.env:=by rfl)(b: (Fq pos (BW es X.env)).any (·.1)=false:=by rfl):
  PE X (.Call (.Name x p) (e::es) [] pos) (ov C sp dvs E t):=by
 intro pZ s σ H Q I h;refine CQ (Qj I hg hm ?_ c);refine Lq (h₀:=X.base) I.ok.mod.kin M.kp (Ei (ha pos pZ s σ H _ I h) λus s1 a=>?_) i b;obtain⟨vs,H1,d,r,q⟩:=a;refine⟨d.kIn,?_⟩;exact ZV M F g hb hd hx d r q
theorem ai(M:Mk X.K C f)(F:He X.prog X.w X.K X.mg X.base CX k f fd ps sp)(b:FD (k+1) X.A)(hg:Gl X x)(hm:X.mg x=some (.ref C))(hb:Er X.K fd ps ds)(hd:Cv dvs ds)(hx:Kz CX X E)(a: (x==("__debug__" :Bc))=false:=by decide):PE X (.Call (.Name x p) [] [] pos) (ov C sp dvs E Yl):=by
 intro pZ s σ H Q I h;refine CQ (Qj I hg hm ?_ a);exact Ke I.kIn M.kp (ZV (us:=[]) M F b hb hd hx I .nil h)
end
def PK(X:Cx)(kws:List Vs)(t:TA):Prop:=∀(pos:FX) (pZ:List (AE×Obj)) (s:AG) (σ:St) (H:Hp) (Q:List V->Hp->Prop),Cr X pZ σ H s->t σ H Q->BN (model X.prog X.w) X.A (evalAll ((NB pos (Ib kws X.env)).map (·.2))) (AP X pZ σ Q) X.xe s
section
variable{X:Cx}{CX:dO}{k:Nat}{f C:AE}{fd:Ey}{ps ks:List Bc}{sp:Sp}{E:XK}{x m:Bc}{p pos apos kpos:FX}{e o:Expr}{es:List Expr}{kws:List Vs}{te ta:TE}{t tk:TA}{nm:Option Bc}
theorem jf:PK X [] Yl:=λ_ _ _ _ H Q I h=>wpAny_evalAll_nil ⟨[],H,I,.nil,h⟩
theorem eN(ha:PE X e te)(i:PK X kws t):PK X (⟨nm,e,kpos⟩::kws) (WW te t):=by
 intro pos pZ s σ H Q I h;show BN _ _ (evalAll ((do let v <-Ea e X.env;standAt pos;IX v):: (NB pos (Ib kws X.env)).map (·.2))) _ _ s;refine wpAny_evalAll_cons (AR (Ei (ha pZ s σ H _ I h) λu s1 b=>?_));obtain⟨x,H1,k,d,g⟩:=b;refine AR (wpAny_standAt (Bx ?_));exact Ei (i pos pZ s1 σ H1 _ k g) λus s2 a=>(by obtain⟨xs,H2,j,c,f⟩:=a;exact⟨x::xs,H2,j,.cons d c,f⟩)
structure vn(K:AF)(fd:Ey)(ps ks:List Bc)(g:List AB->List AB->List AB)(gV:List V->List V->List V):Prop where
 to:∀(s:AG) (us ws:List AB),K.In s.heap->(g us ws).length=ps.length->BindsTo s fd ⟨us,ks.zip ws⟩ (ps.zip (g us ws))
 rel:∀{vs:List V} {us:List AB} {zs:List V} {ws:List AB},Cv vs us->Cv zs ws->Cv (gV vs zs) (g us ws)
variable{g:List AB->List AB->List AB}{gV:List V->List V->List V}
end
structure Bk(N P:List Bc)(sc:Scope):Prop where
 kind:sc.kind= .function
 co:sc.isCoroutine=false
 gen:sc.isGenerator=false
 nd:N.Nodup
 pre:N.take P.length=P
 par:∀x∈P,sc.names.lookup x=some .local\/sc.names.lookup x=some .cell
 nofree:∀y∈sc.names,y.2≠ .free
theorem XG{kindOf:Bc->Option NameKind}{x:Bc}:∀{binds:List (Bc×AB)} {m:Bc->Option AB},(∀v,(x,v) ∉binds)->bindL kindOf binds m x=m x
 |[],_,_=>rfl
 |(n,v)::r,m,h=>by
  unfold bindL;rw[XG λw hw=>h w (BG _ hw)];split
  ·have:x≠n:=by rintro rfl;exact h v BQ
   simp[this]
  ·rfl
theorem XI{kindOf:Bc->Option NameKind}{x:Bc}:∀{binds:List (Bc×AB)} {m:Bc->Option AB},(∀v,(x,v) ∉binds)->bindC kindOf binds m x=m x
 |[],_,_=>rfl
 |(n,v)::r,m,h=>by
  unfold bindC;rw[XI λw hw=>h w (BG _ hw)];split
  ·rfl
  ·have:x≠n:=by rintro rfl;exact h v BQ
   simp[this]
theorem XH{kindOf:Bc->Option NameKind}{x:Bc}{v:AB}:∀{P:List Bc} {vs:List AB} {i:Nat} {m:Bc->Option AB},P.Nodup->P[i]?=some x->vs[i]?=some v->kindOf x=some .local->bindL kindOf (P.zip vs) m x=some v
 |[],_,_,_,_,h,_,_=>by simp at h
 |_::_,[],_,_,_,_,h,_=>by simp at h
 |p::P,w::vs,0,m,nd,h1,h2,a=>by
  simp at h1 h2;subst h1;subst h2;show bindL kindOf ((p,w)::P.zip vs) m p=_;unfold bindL;rw[XG λv b=>(OS.mp nd).1 (List.of_mem_zip b).1,wm a];simp
 |p::P,w::vs,i+1,m,nd,h1,h2,a=>by
  show bindL kindOf ((p,w)::P.zip vs) m x=_;unfold bindL;exact XH (i:=i) (OS.mp nd).2 (by simpa using h1) (by simpa using h2) a
theorem XJ{kindOf:Bc->Option NameKind}{x:Bc}{v:AB}:∀{P:List Bc} {vs:List AB} {i:Nat} {m:Bc->Option AB},P.Nodup->P[i]?=some x->vs[i]?=some v->kindOf x≠some .local->bindC kindOf (P.zip vs) m x=some v
 |[],_,_,_,_,h,_,_=>by simp at h
 |_::_,[],_,_,_,_,h,_=>by simp at h
 |p::P,w::vs,0,m,nd,h1,h2,a=>by
  simp at h1 h2;subst h1;subst h2;show bindC kindOf ((p,w)::P.zip vs) m p=_;unfold bindC;rw[XI λv b=>(OS.mp nd).1 (List.of_mem_zip b).1,wk a];simp
 |p::P,w::vs,i+1,m,nd,h1,h2,a=>by
  show bindC kindOf ((p,w)::P.zip vs) m x=_;unfold bindC;exact XJ (i:=i) (OS.mp nd).2 (by simpa using h1) (by simpa using h2) a
def PJ(N:List Bc)(vs:List V):St:=vs.map some++IN (N.length - vs.length) none
noncomputable def dB(CX:dO)(P:Bq)(w:BU)(K:AF)(mg:Bc->Option AB)(base:Ct)(N:List Bc)(qual:Bc)(scope:Scope)(f:AE)(cd:AB)(A:CH)(outer:List Env)(s:AG)(H:Hp)(E:XK):Cx where
 prog:=P
 w:=w
 K:=K
 mg:=mg
 base:=base
 A:=A.deeper (envOfC qual scope s.heap.objs.size f cd)
 N:=N
 s_:=s
 H_:=H
 env:=envOfC qual scope s.heap.objs.size f cd
 outer:=outer
 stack:=envOfC qual scope s.heap.objs.size f cd::outer
 ex:=[]
 calm:=CX.cm
 suit:=CX.sm
 fn:=λ_=>true
 pn:=[]
 xe:=λe s'=>BN (model P w) (A.deeper (envOfC qual scope s.heap.objs.size f cd)) (leaving (envOfC qual scope s.heap.objs.size f cd) e) (λ_ a=>CX.cx outer H s E e a) (λb a=>CX.cx outer H s E b a) s'
theorem br{sc:Scope}{n:Nat}{x:Bc}(h:sc.names.lookup x=some .cell):∃c,(cellsFrom n sc.names []).lookup x=some c:=by
 have q:=PySem.W.cellsFrom_some sc.names n [] (.inl h);exact Option.isSome_iff_exists.mp q
theorem gS{CX:dO}{P:Bq}{w:BU}{K:AF}{mg:Bc->Option AB}{base:Ct}{N ps:List Bc}{qual:Bc}{scope:Scope}{f:AE}{cd:AB}{A:CH}{outer:List Env}{s s1:AG}{H:Hp}{E:XK}{us:List AB}{vs:List V}(S:Bk N ps scope)(hd:CX.cm=true->A.handled=none)(m:CX.sm=true->Hd A H)(d:dN P w K mg base A outer s H)(D:vs.length=ps.length)(r:Cv vs us)(x:InCallC s s.heap.objs.size (bindL (envOfC qual scope s.heap.objs.size f cd).kindOf (ps.zip us) λ_=>none) (cellsFrom (s.heap.objs.size+1) scope.names []) (bindC (envOfC qual scope s.heap.objs.size f cd).kindOf (ps.zip us) λ_=>none) s1):
  Cr (dB CX P w K mg base N qual scope f cd A outer s H E) [] (PJ N vs) H s1:=by
 have C:ps.length<=N.length:=by have:=wn QQ S.pre;rw[BY]at this;lia
 obtain⟨h1,tk,rfl,t⟩:=x.done;have g:∀b:AE,b∉ (dB CX P w K mg base N qual scope f cd A outer s H E).ex:=λb z=>wo (show b∈ ([]:List AE)from z) (by simp);refine⟨⟨d.mod,S.kind,rfl,rfl,AX _,λy z c h1 h2=>?_,λy j=>?_,λy c _ h=>?_,hd,Around.frames_deeper d.frames,.inr ⟨rfl,rfl⟩,λb z=>wo z (g b),d.bs,d.bsz,λb _ _=>g b,λb z=>wo z (g b),d.funs,d.frf,m⟩,rfl,d.bare,Un.kept t,⟨_,x.toInCall.ns,λi y v h1 h2 h3=>?_⟩,λy c h=>⟨_,x.cell y c h⟩,d.hok.fresh (AX _),λy c h=>?_,λp hp=>wo (show p∈ ([]:List (AE×Obj))from hp) (by simp),d.hok.kept t,?_⟩
 ·exact name_of_addr x.apart (FW h1) (FW h2)
 ·have j:scope.names.lookup y=some .cell\/scope.names.lookup y=some .free:=j;rcases j with j|j
  ·exact br j
  ·exact wo rfl (S.nofree _ (FW j))
 ·exact Gs (x.above y c (FW h))
 ·have hi:i<vs.length:=by
   unfold PJ at h2;by_cases hi:i<vs.length
   ·exact hi
   ·rw[Ds (by simpa using hi)]at h2;rw[List.getElem?_replicate]at h2;split at h2 <;> cases h2
  have ha:vs[i]?=some v:=by
   unfold PJ at h2;rw[El (by simpa using hi),AT]at h2;cases e:vs[i]? with
   |none=>rw[e]at h2;cases h2
   |some a=>rw[e]at h2;cases h2;rfl
  obtain⟨u,o,B⟩:=r.get ha;have hp:ps[i]?=some y:=by
   rw[<-S.pre,FJ (by lia)];exact h1
  have l:ps.Nodup:=by rw[<-S.pre];exact S.nd.sublist (Vh _ _)
  refine⟨u,B,?_⟩;rcases S.par y (AY hp)with k|k
  ·exact .inl ⟨k,XH l hp o k⟩
  ·obtain⟨c,e⟩:=br (n:=s.heap.objs.size+1) k;refine .inr ⟨.inl k,c,e,?_⟩;have q:=x.cell y c e;rw[XJ l hp o (by show scope.names.lookup y≠_;rw[k];decide)]at q;exact q
 ·exact d.hok.fresh (Gs (x.above y c (FW h)))
 ·unfold PJ;show _=N.length;rw[AZ,Ay,Jb]
  lia
theorem aX{CX:dO}{P:Bq}{w:BU}{K:AF}{mg:Bc->Option AB}{base:Ct}{k:Nat}{f:AE}{name qual:Bc}{params:KH}{body:List JI}{scope:Scope}{C kV doc pm cdv ct oc:AB}{an od:Option AE}
  {osl:Array (Option AB)}{N ps:List Bc}{sp:Sp}(lk:K.lookup f=some ⟨oc,od,.func (KC name qual params body scope C kV doc pm an cdv ct),osl⟩)(z:PySem.W.codeIn K cdv qual=true)(S:Bk N ps scope)
  (len:∀vs H Q E,sp vs H Q E->vs.length=ps.length)
  (g:∀(A:CH) (outer:List Env) (s:AG) (H:Hp) (vs:List V) (Q:VK) (E:XK),FD k (A.deeper (envOfC qual scope s.heap.objs.size f cdv))->sp vs H Q E->∃t,XQ (dB CX P w K mg base N qual scope f cdv A outer s H E) body t/\t {nx:=λ_ H'=>Q .non H',rt:=Q} (PJ N vs) H):
  He P w K mg base CX (k+1) f (KC name qual params body scope C kV doc pm an cdv ct) ps sp:=by
 refine⟨len,λA outer s H args us vs Q E B p m i hb r h=>?_⟩;have M:=len _ _ _ _ h;have D:K.In s.heap:=i.mod.kin.keeps λb o e=>(i.bs b o e).1;have l:s.heap.NoLimit:=i.mod.nolimit.keeps λb o e=>(i.bs b o e).1;have c:∀y∈ps.zip us,scope.names.lookup y.1=some .local\/(scope.names.lookup y.1=some .cell/\((cellsFrom (s.heap.objs.size+1) scope.names []).lookup y.1).isSome=true):=λd F=>by
  obtain⟨n,v⟩:=d;rcases S.par n (List.of_mem_zip F).1 with q|q
  ·exact .inl q
  ·exact .inr ⟨q,PySem.W.cellsFrom_some _ _ _ (.inl q)⟩
 refine codeAny_call_function B.depth (D _ _ lk) rfl S.co S.gen rfl (PySem.W.codeRec_of D z) (hb _ _ _ _ ?_);refine wpAny_newFunctionEnv_cells S.kind c λenv O s1 x=>?_;subst O;refine⟨l.keeps x.toInCall.keep,codeAny_func ?_⟩;obtain⟨t,G,L⟩:=g A outer s H vs Q E (B.deeper _) h;have I:Cr (dB CX P w K mg base N qual scope f cdv A outer s H E) [] (PJ N vs) H s1:=gS S p m i M r x;refine Ia (G [] s1 (PJ N vs) H _ I L) (λfl s' hs=>?_) λe s' hs=>hs;have fin:∀{a:St} {H':Hp} {v:V} {u:AB},Cr (dB CX P w K mg base N qual scope f cdv A outer s H E) [] a H' s'->Dd v u->Q v H'->CE outer P w H s Q u s':=λ{a H' v u} J j q=>⟨v,H',J.os,J.bare,J.base,J.hok,j,q⟩;cases fl with
 |ret u=>
  obtain⟨v,a,H',J,j,q⟩:=hs;exact fin J j q
 |next=>
  obtain⟨a,H',J,q⟩:=hs;exact fin (v:=V.non) (u:=DX) J rfl q
 |brk=>
  obtain⟨_,_,_,q⟩:=hs;exact Fg q
 |cont=>
  obtain⟨_,_,_,q⟩:=hs;exact Fg q
section
variable{X:Cx}{x:Bc}{p pos:FX}{e:Expr}{es:List Expr}{t:TA}{id T:String}{r:List V->Hp->VK->Prop}
def vu(r:List V->Hp->VK->Prop)(t:TA):TE:=λσ H Q=>t σ H λvs H1=>r vs H1 Q
theorem Bl(hc:FE X (.builtin id) r)(hg:Gl X x)(hm:X.mg x=none)(g:Co x=some (.builtin id))(ha:PA X (e::es) t)(hn:x≠ "__name__":=by decide)(c: (x==("__debug__" :Bc))=false:=by decide)(i:BW (e::es) X.env=(false,Ea e X.env)::BW es X.env:=by rfl)(b: (Fq pos (BW es X.env)).any (·.1)=false:=by rfl):PE X (.Call (.Name x p) (e::es) [] pos) (vu r t):=by
 intro pZ s σ H Q I h;refine CQ (Ku I hg hm g ?_ hn c);exact WN (Ei (ha pos pZ s σ H _ I h) λus s1 a=>(by obtain⟨vs,H1,j,d,f⟩:=a;exact hc pZ s1 σ H1 vs us Q j d f)) i b
theorem Ee(hc:FE X (.type T) r)(hg:Gl X x)(hm:X.mg x=none)(g:Co x=some (.type T))(ha:PA X (e::es) t)(hn:x≠ "__name__":=by decide)(c: (x==("__debug__" :Bc))=false:=by decide)(i:BW (e::es) X.env=(false,Ea e X.env)::BW es X.env:=by rfl)(b: (Fq pos (BW es X.env)).any (·.1)=false:=by rfl):PE X (.Call (.Name x p) (e::es) [] pos) (vu r t):=by
 intro pZ s σ H Q I h;refine CQ (Ku I hg hm g ?_ hn c);exact EL (Ei (ha pos pZ s σ H _ I h) λus s1 a=>(by obtain⟨vs,H1,j,d,f⟩:=a;exact hc pZ s1 σ H1 vs us Q j d f)) i b
end
end L2
namespace HT
open PySem PyProof.Rows
def sk:List Int->List Int->Bool
 |[],[]=>false
 |[],_::_=>true
 |_::_,[]=>false
 |x::xs,y::ys=>if x=y then sk xs ys else decide (x<y)
section
open PySem.SeqAt
open PySem.AutoSeq1 (wpAny_loadPart')
open PySem.MeetsSeq PySem.MeetsSeq2 PySem.MeetsSeq3
end
section
variable{prog:Bq}{w:BU}{A:CH}{E:AB->AG->Prop}{s:AG}
def sIx(n d:Nat):Option Int->Nat
 |none=>d
 |some v=>if v<0 then (v+ (n:Int)).toNat else min v.toNat n
theorem sIx_nat(n d k:Nat):sIx n d (some (k:Int))=min k n:=by
 show(if (k:Int) <0 then ((k:Int) + (n:Int)).toNat else min (k:Int).toNat n)=min k n
 rw[wk (by lia),Int.toNat_natCast]
theorem pI(n d:Nat)(hd:d<=n)(o:Option Int):sIx n d o<=n:=by
 cases o with
 |none=>exact hd
 |some v=>
  show(if v<0 then (v+ (n:Int)).toNat else min v.toNat n)<=n
  by_cases a:v<0
  ·rw[wm a];lia
  ·rw[wk a];exact Nat.min_le_right _ _
theorem fL(v:Int)(n d:Nat): (if v<0 then max (v+ (n:Int)) 0 else min v (n:Int))=((sIx n d (some v):Nat):Int):=by
 show(if v<0 then max (v+ (n:Int)) 0 else min v (n:Int))=(((if v<0 then (v+ (n:Int)).toNat else min v.toNat n):Nat):Int)
 by_cases a:v<0
 ·simp only[wm a];lia
 ·simp only[wk a];lia
theorem dG(lo hi:Option Int)(n:Nat):Ol lo hi 1 (n:Int)=(((sIx n 0 lo:Nat):Int),((sIx n n hi:Nat):Int)):=by
 have h1:¬ ((1:Int) <0):=by lia
 unfold Ol;simp only[h1,if_false];refine Prod.ext ?_ ?_
 ·cases lo with
  |none=>rfl
  |some v=>exact fL v n 0
 ·cases hi with
  |none=>rfl
  |some v=>exact fL v n n
theorem cN(i j:Nat):Ij (i:Int) (j:Int) 1=j - i:=by
 unfold Ij;have h1: (1:Int) >0:=by lia
 simp only[h1,if_true,Int.ediv_one];split <;> lia
theorem TH{v:AB}{o:Option Int}{Q:Option Int->AG->Prop}(p:IsPart v o)(h:Q o s):BN (model prog w) A (Builtin.Slice.slicePartIndex v) Q E s:=by
 cases p with
 |none=>exact slicePart_none h
 |int i t=>exact slicePart_int h
theorem Rh{sl:AE}{d c:AB}{lo hi:Option Int}{n:Nat}{Q:Int×Int×Nat->AG->Prop}(hs:s.heap.IsSliceOf sl d c .none)(pl:IsPart d lo)(e:IsPart c hi)(h:Q (((sIx n 0 lo:Nat):Int),1,sIx n n hi - sIx n 0 lo) s):BN (model prog w) A (Builtin.Slice.sliceApplied (.ref sl) (IX (n:Int))) Q E s:=by
 obtain⟨os,a,f,b⟩:=id hs;unfold Builtin.Slice.sliceApplied Builtin.Slice.sliceFields;refine AR (AR (OP a b (x:=d) rfl (AR (OP a b (x:=c) rfl (AR (OP a b (x:=.none) rfl (Bx ?_)))))));refine AR (slicePart_none ?_);show BN _ _ (if ((1:Int)==0)=true then _ else _) _ _ s
 rw[wk Aa];refine AR (TH pl (AR (TH e (AR (Bx ?_)))));show BN _ _ (match Ol lo hi 1 (n:Int)with|(lo,hi)=>IX (lo,(1:Int),Ij lo hi 1)) _ _ s;rw[dG lo hi n];show BN _ _ (IX (((sIx n 0 lo:Nat):Int),(1:Int),Ij ((sIx n 0 lo:Nat):Int) ((sIx n n hi:Nat):Int) 1)) _ _ s;rw[cN];exact Bx h
theorem jg(xs:Array AB)(i k:Nat): ((Bm k).filterMap λ(m:Nat)=>xs[((i:Int) + (m:Int) *1).toNat]?).toArray=((xs.toList.drop i).take k).toArray:=by
 have e: (λ(m:Nat)=>xs[((i:Int) + (m:Int) *1).toNat]?)= λm=>xs[i+m]?:=by
  funext m;have: ((i:Int) + (m:Int) *1).toNat=i+m:=by lia
  rw[this]
 rw[e];have:=pick_run xs i k;rw[List.filterMap_map]at this;have a: ((λx=>xs[x]?) ∘ λx=>i+x)= λm=>xs[i+m]?:=rfl;rw[a]at this;rw[this]
theorem getItem_tuple_cut{t sl:AE}{items:Array AB}{i g:AB}{lo hi:Option Int}{Q:AB->AG->Prop}(b:IsTup s.heap t items)(hs:s.heap.IsSliceOf sl i g .none)(pl:IsPart i lo)(j:IsPart g hi)(hw:¬ (sIx items.size 0 lo=0/\sIx items.size items.size hi=items.size))(h:Q (.ref s.heap.objs.size) {s with heap:=s.heap.push {cls:=.type "tuple",data:=.seq ((items.toList.drop (sIx items.size 0 lo)).take (sIx items.size items.size hi - sIx items.size 0 lo)).toArray}})(hsz:items.size<=sizeLine):BN (model prog w) A (Vr (.ref t) (.ref sl)) Q E s:=by
 have a:sizeOk (.seq ((items.toList.drop (sIx items.size 0 lo)).take (sIx items.size items.size hi - sIx items.size 0 lo)).toArray):=by
  show((items.toList.drop (sIx items.size 0 lo)).take (sIx items.size items.size hi - sIx items.size 0 lo)).toArray.size<=sizeLine;rw[Bs,BY,DR,EJ]
  lia
 have o:sIx items.size items.size hi<=items.size:=pI _ _ (AX _) hi;obtain⟨os,c,e,k⟩:=id hs;have f:s.TypeIs (.ref sl) "slice":=⟨os,c,e⟩;unfold Vr
 try with_reducible refine IJ ?_
 first|refine AR (Bx ?_)|skip
 refine AR (wpAny_sequenceKey b.typeIs Aa ?_);refine AR (wpAny_callSpecial?_slot (name:=BJ "__getitem__") b.typeIs PyProof.Rows.slot_tuple_getitem (wpAny_call_entry PyProof.Rows.slot_tuple_getitem b.typeIs entry_tuple_getitem ?_ (args_tuple_getitem _ _)));show BN _ _ (Builtin.Tuple.tupleItemsOf (.ref t) >>= _) _ _ s;refine AR (tupleItemsOf_ b ?_);refine AR (wpAny_typeOf f ?_);rw[wm Aa];refine AR (Rh hs pl j ?_);have d:¬ ((((sIx items.size 0 lo:Nat):Int)==0&& (1:Int)==1&& (sIx items.size items.size hi - sIx items.size 0 lo)==items.size)=true):=by
  intro q;rw[AI,AI]at q;have n: ((sIx items.size 0 lo:Nat):Int)=0:=eq_of_beq q.1.1;have l:sIx items.size items.size hi - sIx items.size 0 lo=items.size:=eq_of_beq q.2;exact hw ⟨by lia,by lia⟩
 show BN _ _ (if (((sIx items.size 0 lo:Nat):Int)==0&& (1:Int)==1&& (sIx items.size items.size hi - sIx items.size 0 lo)==items.size)=true then _ else _) _ _ s
 rw[wk d,jg]
 first
  |exact AR (m:=IP _) (Gf (Bx ⟨_,rfl,Bx h⟩) a)
  |exact AR (m:=IP _) (Gf (AR (Bx (Bx ⟨_,rfl,Bx h⟩))) a)
  |exact AR (AR (m:=IP _) (Gf (Bx (Bx ⟨_,rfl,Bx h⟩)) a))
  |exact AR (AR (m:=IP _) (Gf (Bx ⟨_,rfl,Bx h⟩) a))
end
end HT
namespace L2
open PySem PySem.Spec PyProof.Rows
abbrev TO:=St->Hp->(Option Int->Hp->Prop)->Prop
def PO(X:Cx)(e:Option Expr)(t:TO):Prop:=∀(pZ:List (AE×Obj)) (s:AG) (σ:St) (H:Hp) (Q:Option Int->Hp->Prop),Cr X pZ σ H s->t σ H Q->BN (model X.prog X.w) X.A (evalPart e X.env) (λu s'=>∃o H',Cr X pZ σ H' s'/\IsPart u o/\Q o H') X.xe s
def lG:TO:=λ_ H Q=>Q none H
def ri(t:TE):TO:=λσ H Q=>t σ H λx H1=>∃i,x= .int i/\Q (some i) H1
theorem Pd{ns:List Int}:∀{us:List AB},Cv (ns.map V.int) us->Yb us ns:=by
 induction ns with
 |nil=>intro us r;rw[Dl]at r;cases r;exact .nil
 |cons n ns c=>
  intro us r;rw[Bf]at r;cases r with
  |cons b a=>
   obtain⟨t,e⟩:=b;subst e;exact .cons n t (c a)
section
variable{X:Cx}{e:Expr}{te:TE}{lo hi:Option Expr}{tl th:TO}{pos p2:FX}
theorem Iz:PO X none lG:=by
 intro pZ s σ H Q I h;rw[evalPart_none];exact Bx ⟨none,H,I,.none,h⟩
theorem Iy(h:PE X e te):PO X (some e) (ri te):=by
 intro pZ s σ H Q I hw;rw[evalPart_some];refine Ei (h pZ s σ H _ I hw) λu s1 a=>?_;obtain⟨x,H1,d,b,c⟩:=a;obtain⟨i,rfl,q⟩:=c;obtain⟨t,rfl⟩:=b;exact⟨some i,H1,d,.int i t,q⟩
def tL(X:Cx)(r:V->Option Int->Option Int->Hp->VK->Prop):Prop:=∀(pZ:List (AE×Obj)) (s:AG) (σ:St) (H:Hp) (x:V) (v b a:AB) (lo hi:Option Int) (sl:AE) (Q:VK),Cr X pZ σ H s->Dd x v->s.heap.IsSliceOf sl b a .none->IsPart b lo->IsPart a hi->r x lo hi H Q->∃T id,typeLookup (.type T) "__getitem__"=IX (some (.builtin id))/\s.TypeIs v T/\BN (model X.prog X.w) X.A (Vr v (.ref sl)) (EP X pZ σ Q) X.xe s
def vH(r:V->Option Int->Option Int->Hp->VK->Prop)(te:TE)(tl th:TO):TE:=λσ H Q=>te σ H λx H1=>tl σ H1 λl H2=>th σ H2 λu a=>r x l u a Q
theorem Hb{r:V->Option Int->Option Int->Hp->VK->Prop}(z:tL X r)(C:PE X e te)(B:PO X lo tl)(t:PO X hi th):PE X (.Subscript e (.Slice lo hi none p2) pos) (vH r te tl th):=by
 intro pZ s σ H Q I h;refine Subscript_ (Ei (C pZ s σ H _ I h) λv s1 f=>?_);obtain⟨x,H1,J,k,o⟩:=f;refine wpAny_Slice (Ei (B pZ s1 σ H1 _ J o) λi s2 d=>?_);obtain⟨l,H2,G,pl,n⟩:=d;refine Ei (t pZ s2 σ H2 _ G n) λg a c=>?_;obtain⟨u,j,F,p,m⟩:=c;rw[evalPart_none];refine Bx ?_;have E:Cr X pZ σ j {a with heap:=a.heap.push {cls:=.type "slice",data:=.fields #[i,g,.none]}}:=F.kept (t':=a.toks) λb ob q=>AK _ q;obtain⟨T,id,D,y,hg⟩:=z pZ {a with heap:=a.heap.push {cls:=.type "slice",data:=.fields #[i,g,.none]}} σ j x v i g l u a.heap.objs.size Q E k (Heap.IsSliceOf.new ..) pl p m;show BN (model X.prog X.w) X.A (subscriptTail e (.Slice lo hi none p2) v (.ref a.heap.objs.size)) (EP X pZ σ Q) X.xe {a with heap:=a.heap.push {cls:=.type "slice",data:=.fields #[i,g,.none]}};exact tail_any (ops:=[.ref a.heap.objs.size,v]) y D hg (by with_unfolding_all rfl)
def UO(xs:List V)(lo hi:Option Int):List V:=(xs.drop (HT.sIx xs.length 0 lo)).take (HT.sIx xs.length xs.length hi - HT.sIx xs.length 0 lo)
theorem Sq(xs:List V)(lo hi:Option Int): (UO xs lo hi).length<=xs.length:=by
 unfold UO;rw[BY,DR]
 lia
def ud(K:AF):V->Option Int->Option Int->Hp->VK->Prop:=λx lo hi H Q=>∃a xs,x= .ref a/\DW K H a xs/\¬ (HT.sIx xs.length 0 lo=0/\HT.sIx xs.length xs.length hi=xs.length)/\∀p,H p=none->Q (.ref p) (upd H p (.tup (UO xs lo hi)))
theorem pF:tL X (ud X.K):=by
 intro pZ s σ H x v j i lo hi sl Q I f hs pl g h;obtain⟨a,xs,rfl,hx,hw,q⟩:=h;cases f;obtain⟨d,r,e,hz⟩:=I.tuple hx;have c:d.toArray.size=xs.length:=by rw[Bs];exact r.length.symm
 refine⟨"tuple",_,PyProof.Rows.slot_tuple_getitem.lookup,e.typeIs,?_⟩;refine HT.getItem_tuple_cut e hs pl g (by rw[c];exact hw) ?_ (by rw[c];exact hz);rw[c];refine⟨.ref s.heap.objs.size,_,I.laid (t':=s.toks) (o:=.tup (UO xs lo hi)) (λb ob q=>AK _ q) (AX _) ?_,rfl,q _ (I.hok.fresh (AX _))⟩;exact⟨AJ (Sq xs lo hi) hz,_,(r.drop (HT.sIx xs.length 0 lo)).take (HT.sIx xs.length xs.length hi - HT.sIx xs.length 0 lo),IsTup.new _ _⟩
end
def oO(n:Nat)(i:Int):Option Nat:=if 0<=i then (if i<n then some i.toNat else none)else if -(n:Int)<=i then some (i+n).toNat else none
def XM{a:Type}(xs:List a)(i:Int):Option a:=(oO xs.length i).bind λj=>xs[j]?
theorem mW{n:Nat}{i:Int}{j:Nat}(h:oO n i=some j):seqIndex? i n=some j/\j<n/\ -(n:Int)<=i/\i<n:=by
 unfold oO at h;by_cases h0:0<=i
 ·rw[wm h0]at h;by_cases h1:i<n
  ·rw[wm h1]at h;have e:i.toNat=j:=Ba h;exact⟨by rw[seqIndex_of h0 h1,e],by lia,by lia,h1⟩
  ·rw[wk h1]at h;cases h
 ·rw[wk h0]at h;by_cases h1: -(n:Int)<=i
  ·rw[wm h1]at h;have e: (i+n).toNat=j:=Ba h;exact⟨by rw[seqIndex_neg (by lia) h1,e],by lia,h1,by lia⟩
  ·rw[wk h1]at h;cases h
theorem Zk{a:Type}{xs:List a}{i:Int}{v:a}(h:XM xs i=some v):∃j,seqIndex? i xs.length=some j/\xs[j]?=some v/\j<xs.length/\ -(xs.length:Int)<=i/\i<xs.length:=by
 unfold XM at h;cases e:oO xs.length i with
 |none=>rw[e]at h;cases h
 |some j=>
  rw[e]at h;obtain⟨h1,h2,h3,b⟩:=mW e;exact⟨j,h1,h,h2,h3,b⟩
theorem HY{a:Type}{xs:List a}{j:Nat}{v:a}(h:xs[j]?=some v):XM xs (j:Int)=some v:=by
 have b:j<xs.length:=(AO.mp h).1;have e:oO xs.length (j:Int)=some j:=by
  unfold oO;rw[wm (by lia),wm (by lia)];simp
 unfold XM;rw[e];exact h
def nT(b:Expr):Prop:=∀o i,subscripted b false o i=operate [o,i] (Vr o i)
def tj(X:Cx)(r:R2):Prop:=∀(value slice:Expr) (pZ:List (AE×Obj)) (s:AG) (σ:St) (H:Hp) (x y:V) (v u:AB) (Q:VK),Cr X pZ σ H s->Dd x v->Dd y u->r x y H Q->subscripted slice false v u=operate [v,u] (Vr v u)->BN (model X.prog X.w) X.A (subscriptTail value slice v u) (EP X pZ σ Q) X.xe s
def tf(X:Cx)(id:String)(r:V->List V->Hp->VK->Prop):Prop:=∀(pZ:List (AE×Obj)) (s:AG) (σ:St) (H:Hp) (x:V) (xs:List V) (v:AB) (us:List AB) (Q:VK),Cr X pZ σ H s->Dd x v->Cv xs us->r x xs H Q->BN (model X.prog X.w) X.A (call (.builtin id) (v::us)) (EP X pZ σ Q) X.xe s
section
variable{X:Cx}{a b:Expr}{ta tb:TE}{pos:FX}
theorem Cp{r:R2}(e:tj X r)(ha:PE X a ta)(hb:PE X b tb)(hs:nT b):PE X (.Subscript a b pos) (tw r ta tb):=by
 intro pZ s σ H Q I h;exact Subscript_ (qJ ha hb I h λv u s2 x y H2 f d c q=>e a b pZ s2 σ H2 x y v u Q f d c q (hs _ _))
def rN(K:AF):R2:=λx y H Q=>∃p xs i v,x= .ref p/\y= .int i/\Cj K H p xs/\XM xs i=some v/\Q v H
def uh(K:AF):R2:=λx y H Q=>∃p xs i v,x= .ref p/\y= .int i/\DW K H p xs/\XM xs i=some v/\Q v H
def uj:R2:=λx y H Q=>∃z i c,x= .str z/\y= .int i/\z.length<=sizeLine/\XM z.cps.toList i=some c/\Q (.str ⟨#[c]⟩) H
theorem CM:tj X (rN X.K):=by
 intro value slice pZ s σ H x y v u Q I f e h hs;obtain⟨p,xs,i,z,rfl,rfl,g,l,q⟩:=h;cases f;obtain⟨t,rfl⟩:=e;obtain⟨b,r,pl,hz⟩:=I.list g;obtain⟨j,h1,h2,h3,n,m⟩:=Zk l;obtain⟨w,d,a⟩:=r.get h2;have k:=r.length;have hn:=Uz;have fin:EP X pZ σ Q w s:=⟨z,H,I,a,q⟩;by_cases h0:0<=i
 ·have c:i.toNat=j:=by
   rw[seqIndex_of h0 m]at h1;exact Ba h1
  exact item_listR pl.isList h0 (by lia) (by rw[c];simpa using d) fin hs
 ·have c: (i+ (b.toArray.size:Int)).toNat=j:=by
   rw[seqIndex_neg (by lia) n]at h1;rw[Bs,<-k];exact Ba h1
  exact subscriptTail_builtinR (x:=w) pl.isList.typeIs slot_list_getitem.lookup (wpAny_getItem_list_neg (Q:=λr s'=>r=w/\EP X pZ σ Q r s') pl.isList (by lia) (by rw[Bs] <;> lia) (by lia) (by rw[c];simpa using d) ⟨rfl,fin⟩) hs
theorem CW:tj X (uh X.K):=by
 intro value slice pZ s σ H x y v u Q I c b h hs;obtain⟨p,xs,i,z,rfl,rfl,e,g,q⟩:=h;cases c;obtain⟨t,rfl⟩:=b;obtain⟨d,r,pl,hz⟩:=I.tuple e;obtain⟨j,h1,h2,h3,m,l⟩:=Zk g;obtain⟨w,k,a⟩:=r.get h2;have f:=r.length;have hn:=Uz;have fin:EP X pZ σ Q w s:=⟨z,H,I,a,q⟩;exact subscriptTail_builtinR (x:=w) pl.typeIs slot_tuple_getitem.lookup (getItem_tuple (j:=j) (Q:=λr s'=>r=w/\EP X pZ σ Q r s') pl (by lia) (by lia) (by rw[Bs,<-f];exact h1) (by simpa using k) ⟨rfl,fin⟩) hs
theorem jW:tj X uj:=by
 intro value slice pZ s σ H x y v u Q I b a h hs;obtain⟨z,i,c,rfl,rfl,hz,e,q⟩:=h;obtain⟨t,rfl⟩:=b;obtain⟨t',rfl⟩:=a;obtain⟨j,h1,h2,h3,g,f⟩:=Zk e;have d:z.cps.toList.length=z.length:=by simp[Str.length]
 rw[d]at h1 g f;have hn:=Uz;exact tail_any (Nx s z t) slot_str_getitem.lookup (getItem_str (c:=c) (by
  have l:decide (i< -(2 ^ 63:Int))=false:=wh (by lia);have k:decide (i>=2 ^ 63)=false:=wh (by lia);rw[l,k,Bool.or_false]) (by rw[h1];simpa using h2) ⟨.str ⟨#[c]⟩,H,I.tok _,⟨_,rfl⟩,q⟩) hs
theorem Yt(lo hi:Option Int)(n:Nat): (Lp lo hi none n).1=((HT.sIx n 0 lo:Nat):Int)/\(Lp lo hi none n).2.1=((HT.sIx n n hi:Nat):Int)/\(Lp lo hi none n).2.2=1:=by
 refine⟨?_,?_,rfl⟩
 ·cases lo with
  |none=>simp[Lp,HT.sIx]
  |some i=>
   simp only[Lp,HT.sIx,Option.getD_none,show(1:Int) >0 by decide,if_true];by_cases h:i<0
   ·simp only[h,if_true] <;> lia
   ·simp only[h,if_false] <;> lia
 ·cases hi with
  |none=>simp[Lp,HT.sIx]
  |some i=>
   simp only[Lp,HT.sIx,Option.getD_none,show(1:Int) >0 by decide,if_true];by_cases h:i<0
   ·simp only[h,if_true] <;> lia
   ·simp only[h,if_false] <;> lia
theorem VF(a:List AB)(lo hi:Option Int):slicePick a.toArray lo hi none=((a.drop (HT.sIx a.length 0 lo)).take (HT.sIx a.length a.length hi - HT.sIx a.length 0 lo)).toArray:=by
 obtain⟨h1,h2,h3⟩:=Yt lo hi a.toArray.size;unfold slicePick;rw[h1,h2,h3];simp only[sliceRange_one,pick_run,Bs] <;> rfl
def uf(K:AF):V->Option Int->Option Int->Hp->VK->Prop:=λx lo hi H Q=>∃a xs,x= .ref a/\Cj K H a xs/\∀p,H p=none->Q (.ref p) (upd H p (.lst (UO xs lo hi)))
theorem Yu:tL X (uf X.K):=by
 intro pZ s σ H x v j i lo hi sl Q I e hs pl f h;obtain⟨a,xs,rfl,hx,q⟩:=h;cases e;obtain⟨g,r,d,hz⟩:=I.list hx;have c:=r.length;refine⟨"list",_,slot_list_getitem.lookup,d.isList.typeIs,?_⟩;refine wpAny_getItem_list_slice d.isList hs pl f .none (by simp) ?_ (by rw[Bs] <;> lia);rw[VF,<-c];refine⟨.ref s.heap.objs.size,_,I.laid (t':=s.toks) (o:=.lst (UO xs lo hi)) (λb ob q=>AK _ q) (AX _) ?_,rfl,q _ (I.hok.fresh (AX _))⟩;exact⟨AJ (Sq xs lo hi) hz,_,0,(r.drop (HT.sIx xs.length 0 lo)).take (HT.sIx xs.length xs.length hi - HT.sIx xs.length 0 lo),Bo _ rfl⟩
def Nr:V->Bool
 |.non=>true
 |.bl _=>true
 |.int _=>true
 |.str _=>true
 |_=>false
def nH:V->V->Bool
 |.non,.non=>true
 |.bl a,.bl b=>a==b
 |.bl a,.int b=>(if a then 1 else 0)==b
 |.int a,.bl b=>a==(if b then 1 else 0)
 |.int a,.int b=>a==b
 |.str a,.str b=>a==b
 |_,_=>false
theorem qD{A:CH}{s:AG}{y x:V}{u v:AB}(d:Dd y u)(c:Dd x v)(e:Nr y=true)(fx:Nr x=true):SeqAt.EqAt A s u v (nH y x):=by
 cases y with
 |non=>
  cases d;cases x with
  |non=>cases c;exact SeqAt.EqAt.same _
  |bl b=>cases c;exact SeqAt.EqAt.none_bool b
  |int b=>obtain⟨t,rfl⟩:=c;exact SeqAt.EqAt.none_int b t
  |str b=>obtain⟨t,rfl⟩:=c;exact SeqAt.EqAt.none_str b t
  |_=>exact wo (show false=true from fx) Bj
 |bl a=>
  cases d;cases x with
  |non=>cases c;exact SeqAt.EqAt.bool_none a
  |bl b=>cases c;exact SeqAt.EqAt.bool_bool a b
  |int b=>obtain⟨t,rfl⟩:=c;exact SeqAt.EqAt.bool_int a b t
  |str b=>obtain⟨t,rfl⟩:=c;exact SeqAt.EqAt.bool_str a b t
  |_=>exact wo (show false=true from fx) Bj
 |int a=>
  obtain⟨t',rfl⟩:=d;cases x with
  |non=>cases c;exact SeqAt.EqAt.int_none a t'
  |bl b=>cases c;exact SeqAt.EqAt.int_bool a t' b
  |int b=>obtain⟨t,rfl⟩:=c;exact SeqAt.EqAt.int_int a t' b t
  |str b=>obtain⟨t,rfl⟩:=c;exact SeqAt.EqAt.int_str a t' b t
  |_=>exact wo (show false=true from fx) Bj
 |str a=>
  obtain⟨t',rfl⟩:=d;cases x with
  |non=>cases c;exact SeqAt.EqAt.str_none a t'
  |bl b=>cases c;exact SeqAt.EqAt.str_bool a t' b
  |int b=>obtain⟨t,rfl⟩:=c;exact SeqAt.EqAt.str_int a t' b t
  |str b=>obtain⟨t,rfl⟩:=c;exact SeqAt.EqAt.str_str a t' b t
  |_=>exact wo (show false=true from fx) Bj
 |_=>exact wo (show false=true from e) Bj
def dA(x:V)(u:AB):Bool:=match u with
 |.none=>nH .non x
 |.bool b=>nH (.bl b) x
 |.int i _=>nH (.int i) x
 |.str z _=>nH (.str z) x
 |_=>false
theorem kA{x y:V}{u:AB}(r:Dd y u)(f:Nr y=true):dA x u=nH y x:=by
 cases y with
 |non=>cases r;rfl
 |bl b=>cases r;rfl
 |int i=>obtain⟨t,rfl⟩:=r;rfl
 |str z=>obtain⟨t,rfl⟩:=r;rfl
 |_=>exact wo (show false=true from f) Bj
theorem QD{x:V}:∀{xs:List V} {us:List AB},Cv xs us->xs.all Nr=true->us.any (dA x)=xs.any λy=>nH y x
 |_,_,.nil,_=>rfl
 |y::xs,u::us,.cons r t,f=>by
  rw[GK,AI]at f;rw[Jr,Jr,kA r f.1,QD t f.2]
theorem Nk{A:CH}{s:AG}{x:V}{v:AB}(b:Dd x v)(fx:Nr x=true):∀{xs:List V} {us:List AB},Cv xs us->xs.all Nr=true->∀u∈us,SeqAt.EqAt A s u v (dA x u)
 |_,_,.nil,_=>λu a=>by cases a
 |y::xs,u::us,.cons r t,f=>λc a=>by
  rw[GK,AI]at f;rcases AU.mp a with rfl|a
  ·rw[kA r f.1];exact qD r b f.1 fx
  ·exact Nk b fx t f.2 c a
def Vn(x:V)(xs:List V):Bool:=xs.any λy=>nH y x
def uk(K:AF)(neg:Bool):R2:=λx y H Q=>∃p xs,y= .ref p/\(Cj K H p xs\/DW K H p xs)/\Nr x=true/\xs.all Nr=true/\Q (.bl (if neg then !Vn x xs else Vn x xs)) H
theorem Lg:MI X (DL .In) (uk X.K false):=by
 intro pZ s σ H x y v u Q I c d h;obtain⟨p,xs,rfl,b,fx,fs,q⟩:=h;cases d;rcases b with b|b
 ·obtain⟨a,r,pl,hz⟩:=I.list b;refine SeqAt.in_listAt (dA x) pl.isList (λw hw=>Nk c fx r fs w (by simpa using hw)) ⟨.bl _,H,I,rfl,?_⟩;rw[show a.toArray.any (dA x)=a.any (dA x)by simp,QD r fs];exact q
 ·obtain⟨a,r,pl,hz⟩:=I.tuple b;refine SeqAt.in_tupleAt (dA x) pl (λw hw=>Nk c fx r fs w (by simpa using hw)) ⟨.bl _,H,I,rfl,?_⟩;rw[show a.toArray.any (dA x)=a.any (dA x)by simp,QD r fs];exact q
theorem Qa:MI X (DL .NotIn) (uk X.K true):=by
 intro pZ s σ H x y v u Q I c d h;obtain⟨p,xs,rfl,b,fx,fs,q⟩:=h;cases d;rcases b with b|b
 ·obtain⟨a,r,pl,hz⟩:=I.list b;refine SeqAt.notIn_listAt (dA x) pl.isList (λw hw=>Nk c fx r fs w (by simpa using hw)) ⟨.bl _,H,I,rfl,?_⟩;rw[show a.toArray.any (dA x)=a.any (dA x)by simp,QD r fs];exact q
 ·obtain⟨a,r,pl,hz⟩:=I.tuple b;refine SeqAt.notIn_tupleAt (dA x) pl (λw hw=>Nk c fx r fs w (by simpa using hw)) ⟨.bl _,H,I,rfl,?_⟩;rw[show a.toArray.any (dA x)=a.any (dA x)by simp,QD r fs];exact q
theorem Cs:FE X (.builtin "len") (λxs H Q=>∃p ys,xs=[.ref p]/\(Cj X.K H p ys\/DW X.K H p ys)/\Q (.int ys.length) H):=by
 intro pZ s σ H xs us Q I r h;obtain⟨p,ys,rfl,b,q⟩:=h;obtain⟨u,rfl,e⟩:=Ig r;cases e;have hn:=Uz;rcases b with b|b
 ·obtain⟨d,c,pl,hz⟩:=I.list b;have a:=c.length;exact Calls.call_len_list pl.isList (by simp only[Bs] <;> lia) ⟨.int ys.length,H,I.tok _,⟨s.toks+1,by rw[Bs,a]⟩,q⟩
 ·obtain⟨d,c,pl,hz⟩:=I.tuple b;have a:=c.length;exact len_tuple pl (by simp only[Bs] <;> lia) ⟨.int ys.length,H,I.tok _,⟨s.toks+1,by rw[Bs,a]⟩,q⟩
theorem Jj:FE X (.builtin "len") (λxs H Q=>∃z,xs=[.str z]/\z.length<=sizeLine/\Q (.int z.length) H):=by
 intro pZ s σ H xs us Q I r h;obtain⟨z,rfl,hz,q⟩:=h;obtain⟨u,rfl,t,rfl⟩:=Ig r;have hn:=Uz;exact len_str (by lia) ⟨.int z.length,H,I.tok _,⟨_,rfl⟩,q⟩
theorem FE.or{f:AB}{r b:List V->Hp->VK->Prop}(h:FE X f r)(h':FE X f b):FE X f (λxs H Q=>r xs H Q\/b xs H Q):=by
 intro pZ s σ H xs us Q I a q;rcases q with q|q
 ·exact h pZ s σ H xs us Q I a q
 ·exact h' pZ s σ H xs us Q I a q
theorem HX:FE X (.type "list") (λxs H Q=>∃p ys,xs=[.ref p]/\(Cj X.K H p ys\/DW X.K H p ys)/\∀l,H l=none->Q (.ref l) (upd H l (.lst ys))):=by
 intro pZ s σ H xs us Q I r h;obtain⟨p,ys,rfl,f,q⟩:=h;obtain⟨u,rfl,i⟩:=Ig r;cases i;have fin:∀(a:List AB),Cv ys a->ys.length<=sizeLine->∀(h':Ct) (d:Nat),(∀b o',s.heap.get? b=some o'->h'.get? b=some o')->h'.get? s.heap.objs.size=some {cls:=.type "list",dict:=none,data:=.seq a.toArray d,slots:=#[]}->EP X pZ σ Q (.ref s.heap.objs.size) {s with heap:=h'}:=λa c hz h' d kp e=>
  ⟨.ref s.heap.objs.size,_,I.laid (t':=s.toks) kp (AX _) (show Dw X.prog X.w _ h' _ (.lst ys)from⟨hz,a,d,c,e⟩),rfl,q _ (I.hok.fresh (AX _))⟩
 rcases f with f|f
 ·obtain⟨a,c,pl,hz⟩:=I.list f;have g:=c.length;obtain⟨o,ho,hc,n,hd⟩:=pl.isList;exact call_list_seq p (.inl rfl) ho hc hd (λh' d kp e=>fin a c hz h' d kp e) (by simp only[Bs] <;> lia)
 ·obtain⟨a,c,pl,hz⟩:=I.tuple f;have g:=c.length;obtain⟨o,ho,hc,n,hd⟩:=pl;exact call_list_seq p (.inr rfl) ho hc hd (λh' d kp e=>fin a c hz h' d kp e) (by simp only[Bs] <;> lia)
theorem OJ:FE X (.type "tuple") (λxs H Q=>∃p ys,xs=[.ref p]/\((Cj X.K H p ys/\∀l,H l=none->Q (.ref l) (upd H l (.tup ys)))\/(DW X.K H p ys/\Q (.ref p) H))):=by
 intro pZ s σ H xs us Q I r h;obtain⟨p,ys,rfl,h⟩:=h;obtain⟨u,rfl,i⟩:=Ig r;cases i;rcases h with⟨d,q⟩|⟨d,q⟩
 ·obtain⟨a,c,pl,hz⟩:=I.list d;have f:=c.length;refine call_tuple_list pl.isList (λh' kp=>?_) (by simp only[Bs] <;> lia);have g:Cr X pZ σ H {s with heap:=h'}:=I.kept (t':=s.toks) kp;have j:Cr X pZ σ (upd H h'.objs.size (.tup ys)) {s with heap:=h'.push {cls:=.type "tuple",data:=.seq a.toArray}}:=g.laid (t':=s.toks) (λb o e=>AK _ e) (AX _) (show Dw X.prog X.w _ _ _ (.tup ys)from⟨hz,a,c,IsTup.new _ _⟩);exact⟨.ref h'.objs.size,_,j,rfl,q _ (g.hok.fresh (AX _))⟩
 ·obtain⟨a,c,pl,hz⟩:=I.tuple d;exact call_tuple_same pl ⟨.ref p,H,I,rfl,q⟩
def tQ(K:AF)(T:String)(x:V)(H:Hp):Prop:=match x with
 |.str _=>T="str"
 |.int _=>T="int"
 |.ref p=>(T="list" /\∃xs,Cj K H p xs)\/(T="tuple" /\∃o,K.lookup p=some o/\o.cls= .type "tuple" /\o.dict=none)\/(T="dict" /\((∃kvs,H p=some (.dK kvs))\/∃kvs,H p=some (.dT kvs)))\/(T="set" /\∃S n,H p=some (.set S n))
 |_=>False
theorem ij{pZ:List (AE×Obj)}{σ:St}{H:Hp}{s:AG}{T:String}{x:V}{v:AB}(I:Cr X pZ σ H s)(r:Dd x v)(ty:tQ X.K T x H):
  s.TypeIs v T/\∀a,v= .ref a->∃ob,s.heap.get? a=some ob/\ob.dict=none:=by
 cases x with
 |str z=>
  obtain⟨t,rfl⟩:=r;cases (show T="str" from ty);exact⟨Nx s z t,λ_ e=>nomatch e⟩
 |int i=>
  obtain⟨t,rfl⟩:=r;cases (show T="int" from ty);exact⟨typeIs_int s i t,λ_ e=>nomatch e⟩
 |ref p=>
  cases r;rcases ty with⟨rfl,xs,g⟩|⟨rfl,o,b,hc,hd⟩|⟨rfl,b⟩|⟨rfl,S,n,b⟩
  ·obtain⟨f,_,pl,_⟩:=I.list g;refine⟨pl.isList.typeIs,λa e=>?_⟩;cases e;obtain⟨o,n,e,c,hd,_⟩:=pl;exact⟨o,e,hd⟩
  ·refine⟨⟨o,I.kIn p o b,hc⟩,λa e=>?_⟩;cases e;exact⟨o,I.kIn _ o b,hd⟩
  ·have z:∃o,s.heap.get? p=some o/\o.ExactDict:=by
    rcases b with⟨kvs,b⟩|⟨kvs,b⟩
    ·obtain⟨_,_,_,_,o,_,_,e,ex,_⟩:=I.hok p _ b;exact⟨o,e,ex⟩
    ·obtain⟨_,_,_,_,o,_,_,e,ex,_⟩:=I.hok p _ b;exact⟨o,e,ex⟩
   obtain⟨o,e,ex⟩:=z;refine⟨⟨o,e,ex.1⟩,λa d=>?_⟩;cases d;exact⟨o,e,ex.2.1⟩
  ·obtain⟨o,_,_,_,e,ex,_⟩:=I.hok p _ b;refine⟨⟨o,e,ex.1⟩,λa d=>?_⟩;cases d;exact⟨o,e,ex.2.1⟩
 |_=>exact Fg ty
def ua(K:AF)(T:String)(r:V->List V->Hp->VK->Prop)(to:TE):TE:=λσ H Q=>to σ H λx H1=>tQ K T x H1/\r x [] H1 Q
def vK(K:AF)(T:String)(r:V->List V->Hp->VK->Prop)(to:TE)(t:TA):TE:=λσ H Q=>to σ H λx H1=>tQ K T x H1/\t σ H1 λxs H2=>r x xs H2 Q
variable{o e:Expr}{es:List Expr}{to:TE}{t:TA}{name:Bc}{apos cpos:FX}{T id:String}{r:V->List V->Hp->VK->Prop}
theorem ju(i:PlainAttrs T)(slot:Slot T name id)(d:typeOf (.builtin id)=IX (.type "method_descriptor"))(hm:tf X id r)(ho:PE X o to)(c:Hn o name X.env (Ea o X.env)=Ea o X.env:=by rfl)(a: (apos.endLine==cpos.line)=true:=by rfl):PE X (.Call (.Attribute o name apos) [] [] cpos) (ua X.K T r to):=by
 intro pZ s σ H Q I h;refine wpAny_Call_method0_late c a (Ei (ho pZ s σ H _ I h) λv s1 b=>?_);obtain⟨x,H1,f,e,ty,g⟩:=b;obtain⟨h1,h2⟩:=ij f e ty;exact⟨T,id,i,slot,d,h1,h2,JO rfl (PySem.evalArgs_none (hm pZ s1 σ H1 x [] v [] Q f e .nil g))⟩
theorem Gr(q:PlainAttrs T)(slot:Slot T name id)(i:typeOf (.builtin id)=IX (.type "method_descriptor"))(hm:tf X id r)(ho:PE X o to)(ha:PA X (e::es) t)(f:Hn o name X.env (Ea o X.env)=Ea o X.env:=by rfl)(g: ((Fq cpos (BW (e::es) X.env)).all (λx=>!x.1) && (NB cpos (Ib [] X.env)).all (λx=>x.1.isSome)
   &&decide ((e::es).length+ ([]:List Vs).length+ (if ([]:List Vs).isEmpty then 0 else 1) <30))=true:=by rfl)
  (b: (apos.endLine==cpos.line)=true:=by rfl)(hs:BW (e::es) X.env=(false,Ea e X.env)::BW es X.env:=by rfl)(a: (Fq cpos (BW es X.env)).any (·.1)=false:=by rfl):
  PE X (.Call (.Attribute o name apos) (e::es) [] cpos) (vK X.K T r to t):=by
 intro pZ s σ H Q I h;refine wpAny_Call_method_late f g b rfl (Ei (ho pZ s σ H _ I h) λv s1 d=>?_);obtain⟨x,H1,l,j,ty,p⟩:=d;obtain⟨h1,h2⟩:=ij l j ty;refine⟨T,id,q,slot,i,h1,h2,?_⟩;have k:=ha cpos pZ s1 σ H1 _ l p;rw[hs]at k ⊢;refine JO (by show(false|| (Fq cpos (BW es X.env)).any (·.1))=false;rw[a] <;> rfl) (Vl ?_);exact Ei k λus s2 c=>(by obtain⟨vs,H2,u,m,n⟩:=c;exact hm pZ s2 σ H2 x vs v us Q u j m n)
end
def vk(X:Cx)(id:String)(r:V->List V->Hp->VK->Prop):Prop:=∀(pZ:List (AE×Obj)) (s:AG) (σ:St) (H:Hp) (x:V) (xs:List V) (v:AB) (us:List AB) (Q:VK),Cr X pZ σ H s->Dd x v->Cv xs us->r x xs H Q->BN (model X.prog X.w) X.A (call (.builtin id) (v::us)) (EP X pZ σ Q) X.xe s
theorem Cv.one:∀{x:V} {us:List AB},Cv [x] us->∃u,us=[u]/\Dd x u:=λh=>by
 cases h with
 |cons r t=>cases t;exact⟨_,rfl,r⟩
theorem Cv.two:∀{x y:V} {us:List AB},Cv [x,y] us->∃u v,us=[u,v]/\Dd x u/\Dd y v:=λh=>by
 cases h with
 |cons r t=>
  cases t with
  |cons q t=>cases t;exact⟨_,_,rfl,r,q⟩
theorem Cv.zero:∀{us:List AB},Cv [] us->us=[]
 |_,.nil=>rfl
section
variable{X:Cx}{pZ:List (AE×Obj)}{σ:St}{H:Hp}{s:AG}{l b:AE}{xs ys zs:List V}
theorem Cr.lset{a its':List AB}{n:Nat}{f:Array AB->Array AB}{t':Nat}(I:Cr X pZ σ H s)(d:H l=some (.lst xs))(e:s.heap.get? l=some {cls:=.type "list",data:=.seq a.toArray n})(hf:f a.toArray=its'.toArray)(b:Cv ys its')(hz:ys.length<=sizeLine):
  Cr X pZ σ (upd H l (.lst ys)) {s with heap:=s.heap.update l (EQ f),toks:=t'}:=by
 have q:=PySem.IsL.update e f;rw[hf]at q;refine I.write (x:=l) (e:=l) (by rw[d];exact trivial) (.inl rfl) (λg u hb c=>(RM s.heap (EQ f) (CI hb)).trans c) ⟨_,q⟩ ?_;exact⟨hz,its',_,b,q⟩
theorem Cr.lnew{a:List AB}{t':Nat}(I:Cr X pZ σ H s)(b:Cv ys a)(hz:ys.length<=sizeLine):
  Cr X pZ σ (upd H s.heap.objs.size (.lst ys)) {s with heap:=s.heap.push {cls:=.type "list",data:=.seq a.toArray},toks:=t'}:=I.laid (λ_ _ q=>AK _ q) (AX _) ⟨hz,a,0,b,Bo _ rfl⟩
theorem Cr.fresh(I:Cr X pZ σ H s):H s.heap.objs.size=none:=I.hok.fresh (AX _)
theorem Cr.lstM(I:Cr X pZ σ H s)(b:H l=some (.lst xs)):xs.length<=sizeLine/\∃(a:List AB) (n:Nat),Cv xs a/\xs.length=a.length/\s.heap.get? l=some {cls:=.type "list",data:=.seq a.toArray n}:=by
 obtain⟨z,a,n,r,e⟩:=I.hok l _ b;exact⟨z,a,n,r,r.length,e⟩
theorem jJ{n:Nat}(h:n<=sizeLine):Pk n=false:=by
 unfold Pk;exact wh (by lia)
end
section
variable{X:Cx}
def mw:V->List V->Hp->VK->Prop:=λx vs H Q=>∃l xs y,x= .ref l/\vs=[y]/\H l=some (.lst xs)/\xs.length<sizeLine/\Q .non (upd H l (.lst (xs++[y])))
theorem EF:vk X "list.append" mw:=by
 intro pZ s σ H x vs v us Q I c d h;obtain⟨l,xs,y,rfl,rfl,b,hz,q⟩:=h;cases c;obtain⟨u,rfl,f⟩:=d.one;obtain⟨z,a,n,r,g,e⟩:=I.lstM b;refine RG F.slot_list_append ⟨_,e,rfl⟩ F.entry_list_append (F.args_list_append_2 _ _) (PySem.list_append l a.toArray n u (by rw[Bs];lia)) ⟨e,?_⟩;refine⟨.non,_,I.lset (its':=a++[u]) b e (by simp) (r.append (.cons f .nil)) ?_,rfl,q⟩;rw[AZ,Fm]
 lia
def mv:V->List V->Hp->VK->Prop:=λx vs H Q=>∃l b xs zs,x= .ref l/\vs=[.ref b]/\H l=some (.lst xs)/\H b=some (.lst zs)/\xs.length+zs.length<=sizeLine/\Q .non (upd H l (.lst (xs++zs)))
theorem Rt:vk X "list.extend" mv:=by
 intro pZ s σ H x vs v us Q I g i h;obtain⟨l,b,xs,zs,rfl,rfl,f,o,hz,q⟩:=h;cases g;obtain⟨u,rfl,j⟩:=i.one;cases j;obtain⟨z,c,n,r,w,e⟩:=I.lstM f;obtain⟨t,a,n2,k,m,p⟩:=I.lstM o;have hsz:c.toArray.size+a.toArray.size<=sizeLine:=by rw[Bs,Bs];lia
 have d:¬ (!c.toArray.isEmpty&&Pk (c.toArray.size+a.toArray.size))=true:=by
  rw[jJ hsz,Lr];exact Bj
 refine RG F.slot_list_extend ⟨_,e,rfl⟩ F.entry_list_extend (F.args_list_extend_2 _ _) (AutoSeq1.list_extend_list_list_0 l c.toArray n b a.toArray n2 d (by rw[Bs];lia) (by lia)) ⟨e,p,?_⟩;refine⟨.non,_,I.lset (its':=c++a) f e (by simp) (r.append k) ?_,rfl,q⟩;rw[AZ]
 lia
def pM:V->List V->Hp->VK->Prop:=λx vs H Q=>∃l xs,x= .ref l/\vs=[]/\H l=some (.lst xs)/\Q .non (upd H l (.lst []))
theorem aF:vk X "list.clear" pM:=by
 intro pZ s σ H x vs v us Q I d f h;obtain⟨l,xs,rfl,rfl,c,q⟩:=h;cases d;have b:=f.zero;subst b;obtain⟨z,a,n,r,g,e⟩:=I.lstM c;refine RG F.slot_list_clear ⟨_,e,rfl⟩ F.entry_list_clear (F.args_list_clear_1 _) (AutoSeq1.list_clear_list_0 l a.toArray n (by rw[Bs];lia)) ⟨e,?_⟩;exact⟨.non,_,I.lset (its':=[]) (ys:=[]) c e rfl .nil (Ci _),rfl,q⟩
def uo:R2:=λx y H Q=>∃l b xs zs,x= .ref l/\y= .ref b/\H l=some (.lst xs)/\H b=some (.lst zs)/\xs.length+zs.length<=sizeLine/\∀p,H p=none->Q (.ref p) (upd H p (.lst (xs++zs)))
theorem Nc:MI X (NA .Add) uo:=by
 intro pZ s σ H x y v u Q I f d h;obtain⟨l,b,xs,zs,rfl,rfl,j,k,hz,q⟩:=h;cases f;cases d;obtain⟨z,c,n,r,t,e⟩:=I.lstM j;obtain⟨p,a,n2,g,i,o⟩:=I.lstM k;refine PySem.P.add_list e o ?_ (by rw[Bs,Bs];lia);have m:c.toArray++a.toArray=(c++a).toArray:=by simp
 rw[m];exact⟨.ref _,_,I.lnew (t':=s.toks) (r.append g) (by rw[AZ];lia),rfl,q _ I.fresh⟩
end
section
variable{prog:Bq}{w:BU}{A:CH}{E:AB->AG->Prop}{s:AG}
end
section
variable{X:Cx}
end
end L2
namespace Att
open PySem PySem.W PySem.Calls PyProof.Rows
theorem SJ{P:Params}{h:Ct}:∀(ns:List Int) (vs:List AB),WellAll P h vs (ns.map XU)->Yb vs ns:=by
 intro ns;induction ns with
 |nil=>
  intro vs w;rw[Dl]at w;cases w;exact .nil
 |cons n ns c=>
  intro vs w;rw[Bf]at w;cases w with
  |cons a b=>
   cases a;exact .cons _ _ (c _ b)
theorem gq{l:OpenLaw}{n:Nat}(hn:l.most=some n){P:Params}{h:Ct}{args:List WData}{b:List AB}(Oc:l.row.toRowW.claim.pre args=true)(hwl:WellAll P h b args):
  ∃a vs ns,b=[BD a]/\args=[WData.list (ns.map XU)]/\h.get? a=some {cls:=.type "list",data:=.seq vs.toArray}/\Yb vs ns/\ns.length<=n:=by
 have i:WShape.hasAll [] args [.list .int]=true:=(pre_splitW Oc).1;have hc:l.pre.holds [] {args:=args}=true:=(pre_splitW Oc).2;obtain⟨d,r,rfl,h1,h2⟩:=hasAllW_cons i;obtain rfl:=hasAllW_nil h2;obtain⟨xs,rfl,h3⟩:=hasW_list h1;obtain⟨ns,rfl⟩:=items_int h3;have c:ns.length<=n:=by
  unfold OpenLaw.pre at hc;have g: (WTm.not (.lt (.lit (.int (n:Int))) (.len (.arg 0)))).holds [] {args:=[.list (ns.map .int)]}=true:=by
   have g:=(holds_andW hc).1;rw[hn]at g;exact g
  have f:=condW_of g (w_not (w_lt w_lit (w_len_list (w_arg rfl))));rw[Ay]at f;refine Nat.le_of_not_lt λq=>?_;have m: (n:Int) < ((ns.length:Nat):Int):=by lia
  first
   |(rw[wg m]at f;exact wo f Aa)
   |(simp at f;lia)
 cases hwl with
 |cons k j=>
  cases j;cases k with
  |list ho e=>exact⟨_,_,ns,rfl,rfl,ho,SJ ns _ e,c⟩
theorem gy(l:OpenLaw)(args:List WData):l.row.toRowW.claim.post args (.bool true) args=true:=postW_of (r:=l.row.toRowW) (X:=(true==true)) (show WShape.has [] (.bool true) .bool=true by first|rfl|decide|simp[WShape.has,WShape.arms,WShape.armsAll])
  (show(WTm.eq .res (.lit (.bool true))).value [] {args:=args,res:=some (.bool true),after:=args}=some (.bool (true==true))from w_eq_bool (w_res rfl) w_lit) rfl
theorem ZA{ns:List Int}{i:Int}(hi:i∈ns):SR (.int i)<=WData.weightAll (ns.map XU):=by
 induction ns with
 |nil=>cases hi
 |cons a r b=>
  rw[Bf,WData.weightAll];rcases AU.mp hi with rfl|h
  ·lia
  ·have:=b h
   lia
theorem bw{ns:List Int}(h:WData.layableAll [WData.list (ns.map XU)]=true):∀i∈ns,Fh i<=1048576:=by
 intro i hi;have h1: (WData.list (ns.map XU)).layable=true:=BM.mp h _ BQ;have h2:SR (.list (ns.map XU))<=2 ^ 20:=by
  have h3:=(JP.mp h1).2;exact wj h3
 rw[SR]at h2;have b:=ZA hi;have a:SR (.int i)=Fh i:=by rw[SR];rfl
 rw[a]at b;have e: (2:Nat) ^ 20=1048576:=by decide
 lia
theorem attach_call{l:OpenLaw}{n:Nat}{q:Bq}{loose:List Bc}{XP: (Bc->Option AB)->Ct->Prop}{YP:BU->Ct->Prop}{d:DefRec}(hn:l.most=some n)(m:d.params.defaults=[])(call:∀(w:BU) (s_ b:AG) (mg mb:Bc->Option AB) (j:AE) (o:Obj) (pm cd doc:AB) (a:AE) (vs:List AB) (ns:List Int),Ground q loose [] XP w s_ mg mb b.heap->YP w b.heap->b.heap.get? j=some o->o.data= .func (docDef d.name d.params d.body d.scope pm cd doc)->b.heap.CodeRec cd d.name->mg d.name=some (.ref j)->b.heap.get? a=some {cls:=.type "list",data:=.seq vs.toArray}->Yb vs ns->ns.length<=n->b.gens=#[]->(∀i∈ns,Fh i<=1048576)->KJ (model l.prog w) RF (.call (.ref j) ⟨[.ref a],[]⟩) (λr s'=>r= .ok (.ret (.bool true))/\OldK b.heap s'.heap/\s'.os=b.os/\Yc s'.gens) b):
  WalkO q loose XP YP l.row.toRowW d [] (λf vs=>PySem.call f vs):=by
 intro w s_ b mg mb G Y j o pm cd doc z kV ho hd p t k hg args s as Oc h u hwl x;obtain rfl:z= .none:=Dflts.none t m;obtain rfl:kV= .none:=Dflts.noKw t;obtain⟨a,vs,ns,rfl,rfl,e,c,g⟩:=gq hn Oc hwl;refine enter_call (MC (call w s_ b mg mb j o pm cd doc a vs ns G Y ho (fd_plain hd) p k e c g hg (bw h)) λr s' v=>?_);obtain⟨rfl,h2,h3,y⟩:=v;exact⟨.inl ⟨.bool true,.bool true,[],rfl,λ_=>rfl,.bool true,gy l _,λ_=>⟨Vk,λ_ hm=>(nomatch hm)⟩⟩,h2,h3,y⟩
section
variable{prog:Bq}{w:BU}{A:CH}{E:AB->AG->Prop}{s:AG}{K:FL}
def noObjs(h:Ct):Ct:={h with objs:=#[]}
theorem noObjs_get(h:Ct)(b:AE): (noObjs h).get? b=none:=by
 cases e: (noObjs h).get? b with
 |none=>rfl
 |some o=>exact wo (Bu e) (Nat.not_lt_zero _)
def ledger(h:Ct)(L d:AE):List (AE×Obj):=(Bm h.objs.size).filterMap λa=>if a=L\/a=d then none else (h.get? a).map λo=>(a,o)
theorem mem_ledger{h:Ct}{L d a:AE}{o:Obj}: (a,o)∈ledger h L d ↔ a≠L/\a≠d/\h.get? a=some o:=by
 unfold ledger;rw[SS];constructor
 ·rintro⟨b,_,e⟩;split at e
  ·cases e
  ·rename_i hb;obtain⟨o',ho,c⟩:=Cc.mp e;cases c;exact⟨λq=>hb (.inl q),λq=>hb (.inr q),ho⟩
 ·rintro⟨n1,n2,ho⟩;refine⟨a,CG.mpr (Bu ho),?_⟩;rw[wk (show ¬ (a=L\/a=d)from λq=>q.elim n1 n2),ho] <;> rfl
theorem fr_all{h:Ct}{L:AE}{m:Bc->Option AB}(n:h.Ns L m):Fr (noObjs h) L h m:=⟨n,λb o e=>(by rw[noObjs_get]at e;cases e),Ci _⟩
end
end Att
namespace L2
open PySem PySem.Spec PyProof.Rows
theorem WU:∀{vs:List AB} {ns:List Int},Yb vs ns->Cv (ns.map V.int) vs
 |_,_,.nil=>.nil
 |_,_,.cons n t h=>.cons ⟨t,rfl⟩ (WU h)
def Cf(s:JI)(j:Nat):JI:=match s with
 |.ClassDef _ _ _ body _ _ _ _ _ _ _=>body.getD j (.Pass ⟨0,0,0,0⟩)
 |_=>.Pass ⟨0,0,0,0⟩
def IA(s:JI):KH:=match s with
 |.FunctionDef _ a _ _ _ _ _ _ _ _=>a
 |_=>{posonlyargs:=[],args:=[],vararg:=none,kwonlyargs:=[],kw_defaults:=[],kwarg:=none,defaults:=[]}
def Hl(s:JI):List JI:=match s with
 |.FunctionDef _ _ b _ _ _ _ _ _ _=>b
 |_=>[]
def AS(s:JI):Scope:=match s with
 |.FunctionDef _ _ _ _ _ _ sc _ _ _=>sc
 |_=>{kind:=.function,names:=[],isGenerator:=false,isCoroutine:=false}
abbrev Zr:dO:=⟨true,false,λ_ _ _ _ _ _=>False⟩
abbrev E0:XK:=λ_ _ _=>False
theorem CL{X:Cx}(hc:X.calm=true:=by rfl):Kz Zr X E0:=⟨λ_=>hc,rfl,λ_ _ _ _ _ _ _ h=>h.elim⟩
structure bH(K:AF)(x qual:Bc)(st:JI)(f:AE)(fd:Ey):Prop where
 ex:∃(oc:AB) (od:Option AE) (kV doc pm:AB) (an:Option AE) (cdv ct:AB) (osl:Array (Option AB)),fd=KC x qual (IA st) (Hl st) (AS st) .none kV doc pm an cdv ct/\K.lookup f=some ⟨oc,od,.func fd,osl⟩/\PySem.W.codeIn K cdv qual=true
 kp:Hg K (.ref f)=true
section
variable{P:Bq}{w:BU}{K:AF}{mg:Bc->Option AB}{base:Ct}
theorem bH.okX{x qual:Bc}{st:JI}{f:AE}{fd:Ey}{N ps:List Bc}{k:Nat}{sp:Sp}{CX:dO}(F:bH K x qual st f fd)(S:Bk N ps (AS st))(len:∀vs H Q E,sp vs H Q E->vs.length=ps.length)(a:∀(cdv:AB) (A:CH) (outer:List Env) (s:AG) (H:Hp) (vs:List V) (Q:VK) (E:XK),FD k (A.deeper (envOfC qual (AS st) s.heap.objs.size f cdv))->sp vs H Q E->∃t,XQ (dB CX P w K mg base N qual (AS st) f cdv A outer s H E) (Hl st) t/\t {nx:=λ_ H'=>Q .non H',rt:=Q} (PJ N vs) H):He P w K mg base CX (k+1) f fd ps sp:=by
 obtain⟨oc,od,kV,doc,pm,an,cdv,ct,osl,rfl,lk,c⟩:=F.ex;exact aX lk c S len λA outer s H vs Q E d b=>a cdv A outer s H vs Q E d b
theorem bH.ok{x qual:Bc}{st:JI}{f:AE}{fd:Ey}{N ps:List Bc}{k:Nat}{sp:Sp}{CX:dO}(F:bH K x qual st f fd)(S:Bk N ps (AS st))(len:∀vs H Q E,sp vs H Q E->vs.length=ps.length)(a:∀(cdv:AB) (A:CH) (outer:List Env) (s:AG) (H:Hp) (vs:List V) (Q:VK) (E:XK),FD k (A.deeper (envOfC qual (AS st) s.heap.objs.size f cdv))->sp vs H Q E->∃t,XQ (dB CX P w K mg base N qual (AS st) f cdv A outer s H E).nox (Hl st) t/\t {nx:=λ_ H'=>Q .non H',rt:=Q} (PJ N vs) H):He P w K mg base CX (k+1) f fd ps sp:=by
 refine F.okX S len λcdv A outer s H vs Q E c b=>?_;obtain⟨t,h,q⟩:=a cdv A outer s H vs Q E c b;exact⟨t,h.nox,q⟩
theorem bH.binds{x qual:Bc}{st:JI}{f:AE}{fd:Ey}{ps:List Bc}(F:bH K x qual st f fd)(h:∀(kV doc pm:AB) (an:Option AE) (cdv ct:AB) (us:List AB),us.length=ps.length->bindArgs (KC x qual (IA st) (Hl st) (AS st) .none kV doc pm an cdv ct) ⟨us,[]⟩=IX (ps.zip us)):Er K fd ps []:=by
 obtain⟨oc,od,kV,doc,pm,an,cdv,ct,osl,rfl,lk,a⟩:=F.ex;exact .all (h kV doc pm an cdv ct)
theorem qy{x qual:Bc}{st:JI}{f:AE}{oc:AB}{od an:Option AE}{osl:Array (Option AB)}{kV doc pm cdv ct:AB}(l:K.lookup f=some ⟨oc,od,.func (KC x qual (IA st) (Hl st) (AS st) .none kV doc pm an cdv ct),osl⟩)(c:PySem.W.codeIn K cdv qual=true)(k:Hg K (.ref f)=true):bH K x qual st f (KC x qual (IA st) (Hl st) (AS st) .none kV doc pm an cdv ct):=⟨⟨oc,od,kV,doc,pm,an,cdv,ct,osl,rfl,l,c⟩,k⟩
end
theorem DC{n:Nat}(h:n<=1000):n<sizeLine:=BS h Aa
section
variable{X:Cx}
theorem pv(i:Nat){x:Bc}{pos:FX}(c:X.N[i]?=some x:=by rfl)(b:tK X.env.scope x:=by first|exact Bn rfl|exact Cw (Bn rfl)|exact Cw (Cw rfl))(hd: (x==("__debug__" :Bc))=false:=by decide)(a: (x==("__classdict__" :Bc))=false:=by decide):PE X (.Name x pos) (rg i):=pO c b hd a
end
theorem Ch{A B:Prop}(h:B):if false=true then A else B:=by
 rw[wk Bj];exact h
theorem CY{A B:Prop}(h:A):if true=true then A else B:=by
 rw[wm rfl];exact h
theorem FT{c A B:Prop} [Decidable c](h1:c->A)(h2:¬c->B):if c then A else B:=by
 by_cases h:c
 ·rw[wm h];exact h1 h
 ·rw[wk h];exact h2 h
theorem Gc{c A B:Prop} [Decidable c](hc:c)(h:B):if (!decide c)=true then A else B:=by
 rw[wg hc];exact Ch h
def Be(H H':Hp):Prop:=∀b o,H b=some o->H' b=some o
theorem Be.refl(H:Hp):Be H H:=λ_ _ h=>h
theorem Be.trans{H H1 H2:Hp}(a:Be H H1)(b:Be H1 H2):Be H H2:=λc o h=>b c o (a c o h)
theorem Be.free{H H':Hp}(e:Be H H'){l:AE}(h:H' l=Option.none):H l=Option.none:=by
 cases q:H l with
 |none=>rfl
 |some o=>
  rw[e l o q]at h;cases h
theorem Be.seq{K:AF}{H H':Hp}{a:AE}{xs:List V}(e:Be H H')(h:Cj K H a xs):Cj K H' a xs:=by
 rcases h with(h|⟨o,h⟩)|h
 ·exact .inl (.inl (e _ _ h))
 ·exact .inl (.inr ⟨o,e _ _ h⟩)
 ·exact .inr h
section
variable{X:Cx}
def lu(i j:Int):Prop:=0<=j/\(Fh i:Int) *j<=2 ^ 27
theorem eO:MI X (NA .Pow) (rI lu λi j=>.int (i ^ j.toNat)):=tz λ_ _ _ _ _ _ _ hc q=>pow_int hc.1 hc.2 q
end
mutual
inductive Me(K:AF)(H:Hp):V->PyData->Prop where
 |non:Me K H .non .none
 |bl (b:Bool):Me K H (.bl b) (.bool b)
 |int (i:Int):Me K H (.int i) (.int i)
 |str (x:Bc):Me K H (.str x) (.str x)
 |lst {a:AE} {xs:List V} {ds:List PyData} (h:Cj K H a xs) (r:Mt K H xs ds):Me K H (.ref a) (.list ds)
 |tup {a:AE} {xs:List V} {ds:List PyData} (h:DW K H a xs) (r:Mt K H xs ds):Me K H (.ref a) (.tuple ds)
inductive Mt(K:AF)(H:Hp):List V->List PyData->Prop where
 |nil:Mt K H [] []
 |cons {x:V} {d:PyData} {xs:List V} {ds:List PyData} (h:Me K H x d) (r:Mt K H xs ds):Mt K H (x::xs) (d::ds)
end
section
variable{X:Cx}{pZ:List (AE×Obj)}{σ:St}{H:Hp}{s:AG}
mutual
theorem Me.reads(I:Cr X pZ σ H s):∀{x:V} {d:PyData},Me X.K H x d->∀{u:AB},Dd x u->∃as,Reads s.heap u d as
 |_,_,.non,u,r=>by cases (show u=DX from r);exact⟨_,.none⟩
 |_,_,.bl b,u,r=>by cases (show u=EB b from r);exact⟨_,.bool b⟩
 |_,_,.int i,u,r=>by obtain⟨t,rfl⟩:=(show ∃t,u=EA i t from r);exact⟨_,.int i t⟩
 |_,_,.str x,u,r=>by obtain⟨t,rfl⟩:=(show ∃t,u=KB x t from r);exact⟨_,.str x t⟩
 |_,_,.lst (a:=a) h f,u,r=>by
  cases (show u=BD a from r);obtain⟨g,c,⟨o,n,e,hc,_,hd⟩,_⟩:=I.list h;obtain⟨as,ra⟩:=Mt.reads I f c;exact⟨_,.list e hc hd (by simpa using ra)⟩
 |_,_,.tup (a:=a) h f,u,r=>by
  cases (show u=BD a from r);obtain⟨g,c,⟨o,e,hc,n,hd⟩,_⟩:=I.tuple h;obtain⟨as,ra⟩:=Mt.reads I f c;exact⟨_,.tuple e hc hd (by simpa using ra)⟩
theorem Mt.reads(I:Cr X pZ σ H s):∀{xs:List V} {ds:List PyData},Mt X.K H xs ds->∀{us:List AB},Cv xs us->∃as,ReadsAll s.heap us ds as
 |_,_,.nil,us,r=>by cases r;exact⟨_,.nil⟩
 |_,_,.cons h a,us,r=>by
  cases r with
  |cons c b=>
   obtain⟨as,e⟩:=Me.reads I h c;obtain⟨bs,d⟩:=Mt.reads I a b;exact⟨_,.cons e d⟩
end
end
def um(K:AF):R2:=λx y H Q=>∃d d',Me K H x d/\Me K H y d'/\Gg d=true/\Gg d'=true/\Q (.bl (KE d d')) H
def ug(K:AF):R2:=λx y H Q=>∃d d',Me K H x d/\Me K H y d'/\Gg d=true/\Gg d'=true/\Q (.bl (!KE d d')) H
section
variable{X:Cx}
theorem Ug(c:X.A.units+64<Va):MI X (DL .Eq) (um X.K):=by
 intro pZ s σ H x y v u Q I b a h;obtain⟨d,d',h1,h2,h3,e,q⟩:=h;obtain⟨as,ra⟩:=h1.reads I b;obtain⟨bs,rb⟩:=h2.reads I a;exact eq_dataH ra rb h3 e c ⟨.bl _,H,I,rfl,q⟩
theorem Pa(c:X.A.units+64<Va):MI X (DL .NotEq) (ug X.K):=by
 intro pZ s σ H x y v u Q I b a h;obtain⟨d,d',h1,h2,h3,e,q⟩:=h;obtain⟨as,ra⟩:=h1.reads I b;obtain⟨bs,rb⟩:=h2.reads I a;exact ne_dataH ra rb h3 e c ⟨.bl _,H,I,rfl,q⟩
end
theorem LZ{K:AF}{H:Hp}:∀ns:List Int,Mt K H (ns.map V.int) (ns.map PyData.int)
 |[]=>.nil
 |n::r=>.cons (.int n) (LZ r)
section
variable{X:Cx}
theorem bu:FE X (.builtin "isinstance") (λxs H Q=>∃x c t cv b,xs=[x,c]/\Jl X.K H x t/\Dd c cv/\BR X.K t cv=some b/\Q (.bl b) H):=by
 intro pZ s σ H xs us Q I r h;obtain⟨x,c,t,cv,b,rfl,ty,rc,e,q⟩:=h;obtain⟨u,f,rfl,g,d⟩:=el r;have j:f=cv:=by
  cases c with
  |non=>exact(show f=_ from d).trans (show cv=_ from rc).symm
  |bl _=>exact(show f=_ from d).trans (show cv=_ from rc).symm
  |ref _=>exact(show f=_ from d).trans (show cv=_ from rc).symm
  |ty _=>exact(show f=_ from d).trans (show cv=_ from rc).symm
  |int i=>
   obtain⟨a,rfl⟩:=(show ∃a,cv=EA i a from rc);exact wo e (by unfold BR QM;cases ty <;> simp)
  |str i=>
   obtain⟨a,rfl⟩:=(show ∃a,cv=KB i a from rc);exact wo e (by unfold BR QM;cases ty <;> simp)
  |byt i=>
   obtain⟨a,rfl⟩:=(show ∃a,cv=Value.bytes i a from rc);exact wo e (by unfold BR QM;cases ty <;> simp)
  |flt i=>
   obtain⟨a,rfl⟩:=(show ∃a,cv=Vb i a from rc);exact wo e (by unfold BR QM;cases ty <;> simp)
 subst j;exact gR I g ty e λtk=>⟨.bl b,H,I.tok tk,rfl,q⟩
end
def SN(names:List (Bc×NameKind))(env:Env):List (Bc×AE):=(names.filter λp=>p.2== .free).reverse.map λp=>(p.1,(env.cells.lookup p.1).getD 0)
def Di(X:Cx)(N:List Bc)(scope:Scope)(C:AE)(a:AG)(b:Hp)(fp:List AE):Cx where
 prog:=X.prog
 w:=X.w
 K:=X.K
 mg:=X.mg
 base:=X.base
 A:=X.A
 N:=N
 s_:=a
 H_:=b
 env:=compEnvC scope (SN scope.names X.env) C X.env
 outer:=X.stack
 stack:=X.stack
 ex:=fp
 fn:=λ_=>false
 calm:=X.calm
 suit:=X.suit
 pn:=[]
 xe:=λ_ _=>False
theorem Uy{names:List (Bc×NameKind)}{f:Bc->NameKind->NameKind}{x:Bc}{k:NameKind}: (names.map λp=>(p.1,f p.1 p.2)).lookup x=some k->∃k0,names.lookup x=some k0/\k=f x k0:=by
 induction names with
 |nil=>intro h;simp at h
 |cons p r a=>
  obtain⟨n,k1⟩:=p;intro h;rw[Bf,Hx]at h;rw[Hx];cases hx:x==n with
  |true=>
   rw[hx]at h;have e:x=n:=beq_iff_eq.mp hx;subst e;exact⟨k1,rfl,(Ba h).symm⟩
  |false=>
   rw[hx]at h;exact a h
theorem Wg{scope:Scope}{env:Env}: (relabel scope env).names=scope.names.map λp=>(p.1,if (p.2== .free&&env.scope.kind== .function&&env.kindOf p.1==some .cell)=true then XX else p.2):=by
 unfold relabel;refine Dj λp _=>?_;obtain⟨n,k⟩:=p;show(if (k== .free&&env.scope.kind== .function&&env.kindOf n==some .cell)=true then (n,XX)else (n,k))=_
 split <;> rfl
theorem aL{d b:Type}{l:List (Bc×d)}{f:Bc->b}{x:Bc}{c:b}: (l.map λp=>(p.1,f p.1)).lookup x=some c->c=f x/\∃a,(x,a)∈l:=by
 induction l with
 |nil=>intro h;simp at h
 |cons p r g=>
  intro h;rw[Bf,Hx]at h;cases hx:x==p.1 with
  |true=>
   rw[hx]at h;have e:x=p.1:=beq_iff_eq.mp hx;refine⟨?_,p.2,?_⟩
   ·rw[e];exact(Ba h).symm
   ·rw[e];exact BQ
  |false=>
   rw[hx]at h;obtain⟨e,a,m⟩:=g h;exact⟨e,a,BG _ m⟩
theorem Ru{b c:Type}{l:List (Bc×b)}{f:Bc->c}{x:Bc}{a:b}(h: (x,a)∈l): (l.map λp=>(p.1,f p.1)).lookup x=some (f x):=by
 induction l with
 |nil=>cases h
 |cons p r d=>
  rw[Bf,Hx];cases hx:x==p.1 with
  |true=>
   have e:x=p.1:=beq_iff_eq.mp hx;rw[e]
  |false=>
   rcases AU.mp h with e|m
   ·rw[<-e]at hx;simp at hx
   ·exact d m
structure UX(X:Cx)(scope:Scope):Prop where
 kind:scope.kind= .function
 clos:closureFor scope X.env=IX (SN scope.names X.env)
 cell:∀y∈scope.names,y.2≠ .cell
 names:∀y∈scope.names,y.2= .local->scope.names.lookup y.1=some .local
 free:∀y∈scope.names,y.2= .free->(X.env.cells.lookup y.1).isSome=true
theorem HC{X:Cx}{scope:Scope}(ok:UX X scope){x:Bc}{c:AE}(h: (SN scope.names X.env).lookup x=some c):X.env.cells.lookup x=some c:=by
 unfold SN at h;obtain⟨e,a,m⟩:=aL (f:=λn=>(X.env.cells.lookup n).getD 0) h;have b:=Eh.mp (WO.mp m);have fr:=ok.free _ b.1 (by simpa using b.2);cases q:X.env.cells.lookup x with
 |none=>rw[q]at fr;cases fr
 |some d=>rw[e,q];rfl
theorem bq{X:Cx}{scope:Scope}{x:Bc}(h: (x,NameKind.free)∈scope.names): (SN scope.names X.env).lookup x=some ((X.env.cells.lookup x).getD 0):=by
 unfold SN;exact Ru (f:=λn=>(X.env.cells.lookup n).getD 0) (WO.mpr (Eh.mpr ⟨h,by simp⟩))
inductive RB(X:Cx)(scope:Scope):List Nat->List Bc->Prop where
 |nil:RB X scope [] []
 |cons {j:Nat} {x:Bc} {js:List Nat} {xs:List Bc} (h1:X.N[j]?=some x) (h2:X.env.kindOf x=some .cell\/X.env.kindOf x=some .free) (h3:scope.names.lookup x=some .free) (r:RB X scope js xs):RB X scope (j::js) (x::xs)
def lw(k:Nat)(js:List Nat)(σ:St):St:=IN k none++js.map λj=>(σ[j]?).getD none
theorem JD{b:Type}{l:List (Bc×b)}{x:Bc}{a:b}(h:l.lookup x=some a): (x,a)∈l:=FW h
theorem RB.len{X:Cx}{scope:Scope}:∀{js:List Nat} {xs:List Bc},RB X scope js xs->js.length=xs.length
 |_,_,.nil=>rfl
 |_,_,.cons _ _ _ r=>by simp[RB.len r]
theorem RB.at{X:Cx}{scope:Scope}:∀{js:List Nat} {xs:List Bc},RB X scope js xs->∀{i:Nat} {x:Bc},xs[i]?=some x->∃j,js[i]?=some j/\X.N[j]?=some x/\(X.env.kindOf x=some .cell\/X.env.kindOf x=some .free)/\scope.names.lookup x=some .free
 |_,_,.nil,i,x,h=>by simp at h
 |_,_,.cons h1 h2 h3 r,0,x,h=>by simp at h;subst h;exact⟨_,rfl,h1,h2,h3⟩
 |_,_,.cons h1 h2 h3 r,i+1,x,h=>by
  obtain⟨j,e,q⟩:=RB.at r (i:=i) (x:=x) (by simpa using h);exact⟨j,by simpa using e,q⟩
theorem dC{X:Cx}{pZ:List (AE×Obj)}{σ:St}{H2:Hp}{d:AG}{scope:Scope}{fp:List AE}{ts xs:List Bc}{js:List Nat}{g:Ct}{C:AE}{tk:Nat}(I:Cr X pZ σ H2 d)(ok:UX X scope)(fr:RB X scope js xs)(N:∀x∈ts,scope.names.lookup x=some .local)(A:∀b∈fp,RC X pZ H2 b)(J:∀b∈fp,b<d.heap.objs.size)(K:C=d.heap.objs.size+1)(H:g.Ns C (λ_=>none))(old:∀b o,d.heap.get? b=some o->g.get? b=some o)(R:g.get? d.heap.objs.size=some {cls:=.type "list",data:=.seq ([]:List AB).toArray 0}):
  Cr (Di X (ts++xs) scope C d H2 fp) [] (lw ts.length js σ) (upd H2 d.heap.objs.size (.lst [])) {d with heap:=g,toks:=tk}:=by
 have hf:=I.hok.fresh (a:=d.heap.objs.size) (AX _);have D:∀{x:Bc} {k:NameKind},(compEnvC scope (SN scope.names X.env) C X.env).kindOf x=some k->∃k0,scope.names.lookup x=some k0/\k=if (k0== .free&&X.env.scope.kind== .function&&X.env.kindOf x==some .cell)=true then XX else k0:=λ{x k} h=>by
  have h': (relabel scope X.env).names.lookup x=some k:=h;rw[Wg]at h';exact Uy (f:=λn k=>if (k== .free&&X.env.scope.kind== .function&&X.env.kindOf n==some .cell)=true then XX else k) h'
 have freeOf:∀{x:Bc},((compEnvC scope (SN scope.names X.env) C X.env).kindOf x=some .cell\/(compEnvC scope (SN scope.names X.env) C X.env).kindOf x=some .free)->scope.names.lookup x=some .free:=λ{x} h=>by
  rcases h with h|h
  ·obtain⟨k0,e,q⟩:=D h;by_cases c: (k0== .free&&X.env.scope.kind== .function&&X.env.kindOf x==some .cell)=true
   ·rw[AI,AI]at c;rw[e,beq_iff_eq.mp c.1.1]
   ·rw[wk c]at q;exact wo q.symm (ok.cell _ (JD e))
  ·obtain⟨k0,e,q⟩:=D h;by_cases c: (k0== .free&&X.env.scope.kind== .function&&X.env.kindOf x==some .cell)=true
   ·rw[wm c]at q;cases q
   ·rw[wk c]at q;rw[e,q]
 refine⟨⟨I.ok.mod,ok.kind,I.ok.glob,I.ok.blt,?_,λx y c h1 h2=>I.ok.inj x y c (HC ok h1) (HC ok h2),λx hx=>⟨_,bq (JD (freeOf hx))⟩,λx c h _=>ER (show false=true from h),I.ok.hd,I.ok.frames,.inl rfl,λb hb=>⟨?_,λx c h=>(A b hb).2.2.2.2.1 x c (HC ok h)⟩,I.bs,AJ I.ok.bsz I.sz,λb o e hb=>?_,λb hb hs=>?_,I.stack,I.stkFree,λz=>?_⟩,rfl,I.bare,Un.laid old (AX _) hf,⟨_,H,λi x v h1 h2 h3=>?_⟩,λx c h=>?_,?_,λx c h=>?_,λp hp=>wo (show p∈ ([]:List (AE×Obj))from hp) (by simp),?_,?_⟩
 ·show d.heap.objs.size<=C;rw[K];exact Da _
 ·show b≠C;rw[K];exact BE (ED (J b hb))
 ·have h1:=(A b hb).2.2.2.1;rcases h1 with z|z
  ·exact I.ok.noex b o e z
  ·exact wo (BP (Bu e) (AJ I.ok.bsz z)) (DZ _)
 ·rcases AU.mp (I.stkSub b hs)with z|z
  ·exact(A b hb).2.1 z
  ·exact(A b hb).2.2.1 z
 ·obtain⟨ex,cls,dx,a0,tb,S,Q⟩:=I.ok.hs z;exact⟨ex,cls,dx,a0,tb,S,I.base.frzs ex _ _ Q⟩
 ·
  have hi:ts.length<=i:=by
   refine Nat.le_of_not_lt λhi=>?_;unfold lw at h2;rw[El (by simpa using hi),List.getElem?_replicate,wm hi]at h2;cases h2
  have L:xs[i - ts.length]?=some x:=by
   have B: (ts++xs)[i]?=some x:=h1;rw[Ds hi]at B;exact B
  obtain⟨j,T,P,t,s⟩:=fr.at L;have G:σ[j]?=some (some v):=by
   unfold lw at h2;rw[Ds (by simpa using hi),Jb,AT,T]at h2;simp only[Option.map_some,My]at h2;cases q:σ[j]? with
   |none=>rw[q]at h2;cases h2
   |some z=>rw[q]at h2;exact wn some h2
  obtain⟨m,hn,O⟩:=I.loc;have F:tK X.env.scope x:=by
   rcases t with t|t
   ·exact .inr (.inl t)
   ·exact .inr (.inr t)
  obtain⟨u,r,l⟩:=O j x v P G F;refine⟨u,r,.inr ?_⟩;rcases l with⟨k,_⟩|⟨_,c,hc,z⟩
  ·rcases t with t|t <;> (rw[k]at t;cases t)
  ·refine⟨?_,c,?_,z.keeps old⟩
   ·rcases h3 with q|q|q
    ·obtain⟨k0,e,w⟩:=D (x:=x) (k:=.local) q;rw[s]at e;cases e;split at w <;> cases w
    ·exact .inl q
    ·exact .inr q
   ·have e:=bq (X:=X) (JD s);rw[hc]at e;exact e
 ·obtain⟨v,z⟩:=I.cell x c (HC ok h);exact⟨v,z.keeps old⟩
 ·show(upd H2 d.heap.objs.size (.lst [])) C=none;rw[K,Bb (IK (Hw _))];exact I.hok.fresh (Da _)
 ·obtain⟨v,z⟩:=I.cell x c (HC ok h);rw[Bb (BE z.lt)];exact I.freeC x c (HC ok h)
 ·exact I.hok.laid old (AX _) ⟨Ci _,[],0,.nil,R⟩
 ·unfold lw;show _=(ts++xs).length;rw[AZ,AZ,Jb,Ay,fr.len]
def sX(X:Cx)(ifs:List Expr)(t:TT):Prop:=∀(pZ:List (AE×Obj)) (s:AG) (σ:St) (H:Hp) (Q:Bool->Hp->Prop),Cr X pZ σ H s->t σ H Q->BN (model X.prog X.w) X.A (forIn ifs true λc r=>if r=true then do let ok <-isTrue c X.env (Ea c X.env);IX (OV ok)else IX (OV r)) (TP X pZ σ Q) X.xe s
def WV:TT:=λ_ H Q=>Q true H
theorem CT{X:Cx}:sX X [] WV:=λ_ _ _ H _ I h=>wpAny_tests_nil ⟨H,I,h⟩
theorem LP{X:Cx}{c:Expr}{t:TT}(hc:PT X c t):sX X [c] t:=λpZ s σ H Q I h=>wpAny_tests_one (hc pZ s σ H Q I h)
theorem Zd{prog:Bq}{w:BU}{A:CH}{R:Result->AG->Prop}{s:AG}{elt target iter:Expr}{ifs:List Expr}{scope:Scope}{pos:FX}{it k:AB}{env:Env}(J:Nat->AG->Prop)(l:∀n s,J n s->BN (model prog w) A (pyNext it) (λr b=>match r with
   |none=>R (.ok .next) b
   |some v=>BN (model prog w) A (Mg target it v) (λ_ g=>BN (model prog w) A (assign target env v) (λ_ f=>
     BN (model prog w) A (forIn ifs true λc r=>if r=true then do let ok <-isTrue c env (Ea c env);IX (OV ok)else IX (OV r)) (λok a=>
      if ok=true then BN (model prog w) A (Ea elt env) (λx e=>
       BN (model prog w) A (call (.builtin "list.append") [k,x]) (λ_ d=>∃m,m<n/\J m d) (λ_ _=>False) e) (λ_ _=>False) a
      else ∃m,m<n/\J m a) (λ_ _=>False) f) (λ_ _=>False) g) (λ_ _=>False) b) (λ_ _=>False) s)
  (n:Nat)(h:J n s):KJ (model prog w) A (.compLoop (.ListComp elt [⟨target,iter,ifs,0⟩] scope pos) 0 it k env) R s:=by
 refine codeAny_loop rfl J (λn s u=>?_) n h;show BN _ A ((compTurn (.ListComp elt [⟨target,iter,ifs,0⟩] scope pos) 0 it k env).onRaise (λx=>do noteFrame x env;theTreesLotGoes x)) _ _ s;refine wpAny_noted (wpAny_noRaise ?_);rw[compTurn_list];refine AR (wpAny_standAt (AR (Ei (l n s u) λr b j=>?_)));cases r with
 |none=>exact Bx j
 |some v=>
  refine AR (Ei j λ_ g t=>AR (Ei t λ_ f q=>AR (Ei q λok a i=>?_)));cases ok with
  |false=>exact Bx ⟨rfl,i⟩
  |true=>exact AR (AR (Ei i λx e p=>AR (Ei p λ_ d o=>Bx (Bx ⟨rfl,o⟩))))
def Sub(σ a:St):Prop:=∀(i:Nat) v,σ[i]?=some (some v)->a[i]?=some (some v)
theorem Sub.set{σ:St}{i:Nat}{x:Option V}(h:σ[i]?=some none):Sub σ (σ.set i x):=λj v e=>by
 by_cases a:i=j
 ·subst a;rw[h]at e;cases e
 ·rw[QR a];exact e
theorem Sub.trans{σ d c:St}(a:Sub σ d)(b:Sub d c):Sub σ c:=λi v e=>b i v (a i v e)
def QJ(J:It)(H1:Hp)(c:St)(g:TG)(tif:TT)(te:TE)(Q:VK):Prop:=∀D,H1 D=none->∃W:Nat->Nat->List V->Hp->Prop,(∃m,W 0 m [] (upd H1 D (.lst [])))/\∀i m ys H,W i m ys H->H D=some (.lst ys)/\((J.stop i H/\Q (.ref D) H)\/(J.go i H/\∀x H',J.yld i H x H'->g x c H' λa H2=>Sub c a/\tif a H2 λb f=>
  if b=true then te a f λy e=>e D=some (.lst ys)/\ys.length<sizeLine/\∃d,d<m/\W (i+1) d (ys++[y]) (upd e D (.lst (ys++[y])))else ∃d,d<m/\W (i+1) d ys f))
def ow(mk:St->St)(wi:TI)(g:TG)(tif:TT)(te:TE):TE:=λσ H Q=>wi σ H λJ H1=>QJ J H1 (mk σ) g tif te Q
section
variable{X:Cx}{scope:Scope}{ts xs:List Bc}{js:List Nat}{target iter elt:Expr}{ifs:List Expr}{wi:TI}{g:TG}{tif:TT}{te:TE}{pos:FX}
theorem oZ.mono{pZ:List (AE×Obj)}{σ:St}{tg:Expr}{R a:It->Hp->Prop}{v:AB}{s:AG}(h:oZ X pZ σ tg R v s)(k:∀J H1,R J H1->a J H1):oZ X pZ σ tg a v s:=by
 obtain⟨it,fp,tn,J,H',e,I,T,st,f,r⟩:=h;exact⟨it,fp,tn,J,H',e,I,T,st,f,k _ _ r⟩
theorem bn{pZ:List (AE×Obj)}{σ:St}{f:AG}{Q:VK}{a0:AB}{E:AB->AG->Prop}{RR:AB->AE->Result->AG->Prop}(ok:UX X scope)(fr:RB X scope js xs)(a9:∀x∈ts,scope.names.lookup x=some .local)(hg:∀C s_ H_ fp,PG (Di X (ts++xs) scope C s_ H_ fp) target g)(b2:∀C s_ H_ fp,sX (Di X (ts++xs) scope C s_ H_ fp) ifs tif)(he:∀C s_ H_ fp,PE (Di X (ts++xs) scope C s_ H_ fp) elt te)(h:oZ X pZ σ target (λJ H1=>(X.calm=true\/J.sok=true/\X.suit=true)/\QJ J H1 (lw ts.length js σ) g tif te Q) a0 f)(c1:∀D C s' H' t,Cr X pZ σ H' s'->s'.heap.Ns C t->RC X pZ H' C->Q (.ref D) H'->RR (.ref D) C (.ok .next) s'):
  BN (model X.prog X.w) X.A (newList []) (λa4 U=>BN (model X.prog X.w) X.A (newFunctionEnv scope X.env.globals (SN scope.names X.env) [] X.env.qual none .none (some X.env)) (λI S=>
   KJ (model X.prog X.w) X.A (.compStart (.ListComp elt [⟨target,iter,ifs,0⟩] scope pos) 0 a0 a4 {I with scope:=relabel scope X.env}) (RR a4 I.locals) S) E U) E f:=by
 obtain⟨it,fp,tn,J,H2,e,I2,T,Y,f2,hc,hw⟩:=h;subst e;have a1:∀b∈fp,b<f.heap.objs.size:=λb hb=>by
  obtain⟨o,e,_⟩:=T.obj _ _ Y b hb;exact Bu e
 refine Gf (UY ok.cell (by intro y hy;simp at hy) (λl k j=>?_) ok.kind)
 dsimp only at k j ⊢
 have hsz: (f.heap.push {cls:=.type "list",dict:=none,data:=.seq ([]:List AB).toArray}).objs.size=f.heap.objs.size+1:=JM _ _;generalize hC: (f.heap.push {cls:=.type "list",dict:=none,data:=.seq ([]:List AB).toArray}).objs.size=C at k j hsz ⊢;have v:∀b o,(f.heap.push {cls:=.type "list",dict:=none,data:=.seq ([]:List AB).toArray}).get? b=some o->l.get? b=some o:=λb o e=>by
  have hb:b≠C:=by
   rw[<-hC];exact BE (Bu e)
  exact(j.2 b hb).trans (AK _ e)
 have old:∀b o,f.heap.get? b=some o->l.get? b=some o:=λb o e=>v b o (AK _ e);have M:l.get? f.heap.objs.size=some {cls:=.type "list",data:=.seq ([]:List AB).toArray 0}:=v _ _ (Bo _ rfl);have c0:=I2.hok.fresh (a:=f.heap.objs.size) (AX _);obtain⟨W,⟨m0,w0⟩,R⟩:=hw f.heap.objs.size c0;have IC:=dC (tk:=f.toks+ ([]:List (Bc×AB)).length) I2 ok fr a9 f2 a1 hsz k old M;have m:tn 0 l:=T.keep _ _ _ Y λb hb o e=>old b o e;have s:∀{H':Hp},(∀b∈fp,H' b=none)->∀b∈fp,RC (Di X (ts++xs) scope C f H2 fp) [] H' b:=λ{H'} hn b hb=>
  ⟨hn b hb,(IC.ok.exf b hb).1,IC.ok.exfs b hb,.inl hb,λx c e=>(IC.ok.exf b hb).2 x c e,λp hp=>wo (show p∈ ([]:List (AE×Obj))from hp) (by simp)⟩
 have c5:∀b∈fp,(upd H2 f.heap.objs.size (.lst [])) b=none:=λb hb=>by
  rw[Bb (BE (a1 b hb))];exact(f2 b hb).1
 have H:KJ (model X.prog X.w) X.A (.compLoop (.ListComp elt [⟨target,iter,ifs,0⟩] scope pos) 0 (.ref it) (.ref f.heap.objs.size) (compEnvC scope (SN scope.names X.env) C X.env))
   (RR (.ref f.heap.objs.size) C) {f with heap:=l,toks:=f.toks+ ([]:List (Bc×AB)).length}:=by
  refine Zd (λn s'=>∃i H' ys,Cr (Di X (ts++xs) scope C f H2 fp) [] (lw ts.length js σ) H' s'/\tn i s'.heap/\(∀b∈fp,H' b=none)/\W i n ys H') ?_ m0 ⟨0,_,[],IC,m,c5,w0⟩;rintro n s3 ⟨i,P,ys,I3,V,a3,w3⟩;obtain⟨f9,alt⟩:=R i n ys P w3;rcases alt with⟨stop,qn⟩|⟨go,step⟩
  ·refine Ei (T.done (Di X (ts++xs) scope C f H2 fp) rfl rfl rfl hc i [] s3 _ P _ I3 (s a3) V stop) λr s4 b9=>?_;obtain⟨hr,O⟩:=b9;subst hr;have c3:P C=none:=O.free;have I5:Cr X pZ σ P s4:=I2.call' (ch:=fp) (s':=s4) O.os O.base O.hok O.bare λb hb=>⟨(f2 b hb).2.2.2.1,(f2 b hb).2.1,(f2 b hb).2.2.2.2.1,(f2 b hb).2.2.2.2.2⟩;obtain⟨t,b1,_⟩:=O.loc;exact c1 _ _ s4 P t I5 b1 (I2.fpOk (by rw[hsz];exact Da _) c3) qn
  ·refine Ei (T.item (Di X (ts++xs) scope C f H2 fp) rfl rfl rfl hc i [] s3 _ P _ I3 (s a3) V go) λr s4 b8=>?_;obtain⟨u,hr,h4⟩:=b8;subst hr;refine Ei h4 λ_ s5 b7=>?_;obtain⟨x,H5,I5,r5,y5,L,c4⟩:=b7;have c8:=I5.pinned (s c4) (T.obj _ _ L);have G:∀{q:St} {z:Hp} {B:AG},Cr (Di X (ts++xs) scope C f H2 fp) ([] ++Rp fp s5.heap) q z B->tn (i+1) B.heap/\∀b∈fp,z b=none:=λ{q z B} F=>by
    refine⟨T.keep _ _ _ L λb hb o e=>(F.pin (b,o) (Ca _ (Ca _ (LR hb e)))).1,λb hb=>?_⟩;obtain⟨o,e,d⟩:=T.obj _ _ L b hb;exact(F.pin (b,o) (Ca _ (Ca _ (LR hb e)))).2.1
   have back:∀{q:St} {z:Hp} {B:AG},Cr (Di X (ts++xs) scope C f H2 fp) ([] ++Rp fp s5.heap) q z B->Sub (lw ts.length js σ) q->Cr (Di X (ts++xs) scope C f H2 fp) [] (lw ts.length js σ) z B:=λ{q z B} F sb=>
    F.unpinned.weak (IC.len.trans F.len.symm) sb
   refine Ei (hg _ _ _ _ _ s5 _ H5 x u _ c8 r5 (step x H5 y5)) λ_ s6 b6=>?_;obtain⟨K,H6,I6,Z,q6⟩:=b6;refine Ei (b2 _ _ _ _ _ s6 K H6 _ I6 q6) λa8 B b5=>?_;obtain⟨z,F,q7⟩:=b5;cases a8 with
   |false=>
    obtain⟨t,hm,w7⟩:=(show ∃t,t<n/\W (i+1) t ys z from q7);obtain⟨t7,n7⟩:=G F;exact⟨t,hm,i+1,z,ys,back F Z,t7,n7,w7⟩
   |true=>
    refine Ei (he _ _ _ _ _ B K z _ F q7) λu8 s8 b4=>?_;obtain⟨y,H8,I8,r8,c2,a2,t,hm,w8⟩:=b4;refine Ei (EF (X:=Di X (ts++xs) scope C f H2 fp) _ s8 K H8 (.ref f.heap.objs.size) [y] (.ref f.heap.objs.size) [u8] (λ_ H9=>W (i+1) t (ys++[y]) H9) I8 rfl (.cons r8 .nil) ⟨_,ys,y,rfl,rfl,c2,a2,w8⟩) λu9 s9 b3=>?_;obtain⟨_,H9,I9,_,w9⟩:=b3;obtain⟨t9,n9⟩:=G I9;exact⟨t,hm,i+1,H9,ys++[y],back I9 Z,t9,n9,w9⟩
 exact codeAny_compStart_list H (T.self _ 0 _ _ _ m H)
theorem CJ(hc:X.calm=true)(ok:UX X scope)(fr:RB X scope js xs)(a:∀x∈ts,scope.names.lookup x=some .local)(hi:PI X target iter wi)(hg:∀C s_ H_ fp,PG (Di X (ts++xs) scope C s_ H_ fp) target g)(d:∀C s_ H_ fp,sX (Di X (ts++xs) scope C s_ H_ fp) ifs tif)(k:∀C s_ H_ fp,PE (Di X (ts++xs) scope C s_ H_ fp) elt te)(hs:∀x,foldedSetIterable iter X.env x=IX x:=by intro _;rfl):PE X (.ListComp elt [⟨target,iter,ifs,0⟩] scope pos) (ow (lw ts.length js) wi g tif te):=by
 intro pZ s σ H Q I h;rw[eval_ListComp];refine wpAny_comprehension_free (use:=none) rfl hs ok.clos ok.kind ok.names (Ei (hi pZ s σ H _ I h) λv s1 h1=>Ei h1 λj s2 h2=>?_);refine bn (Q:=Q) ok fr a hg d k (oZ.mono h2 λJ H1 z=>⟨.inl hc,z⟩) λD C s' H' i r hn f q=>?_;refine⟨i,hn,λh' c=>?_⟩;obtain⟨p,f1,f2,n,m,l⟩:=f;exact⟨.ref D,H',r.turned (t':=s'.toks) (λb o hb e=>(c.2 b hb).trans e) p f1 n m l,rfl,q⟩
theorem LN{y:Bc}{py c:FX}{i:Nat}(hc:X.calm=true)(ok:UX X scope)(fr:RB X scope js xs)(f:∀x∈ts,scope.names.lookup x=some .local)(hi:PI X target iter wi)(hg:∀C s_ H_ fp,PG (Di X (ts++xs) scope C s_ H_ fp) target g)(l:∀C s_ H_ fp,sX (Di X (ts++xs) scope C s_ H_ fp) ifs tif)(E:∀C s_ H_ fp,PE (Di X (ts++xs) scope C s_ H_ fp) elt te)(F:X.N.Nodup)(w:X.N[i]?=some y)(hx:ti X.env.scope y)(j:swapsWith (.ListComp elt [⟨target,iter,ifs,0⟩] scope pos) (some (.Name y py)) c.line X.env=IX true)(hs:∀x,foldedSetIterable iter X.env x=IX x:=by intro _;rfl)(hf:X.fn y=true\/X.env.scope.names.lookup y=some .local:=by first|exact .inl rfl|exact .inr rfl|assumption):
  PS X (.Assign [.Name y py] (.ListComp elt [⟨target,iter,ifs,0⟩] scope pos) c) (rC (ow (lw ts.length js) wi g tif te) (fu i)):=by
 intro pZ s σ H D I h;rw[exec_Assign_Name_used _ _ _ _ j];refine AR (wpAny_standAt (AR ?_));show BN _ X.A (do let _ <-comprehension (.ListComp elt [⟨target,iter,ifs,0⟩] scope pos) scope X.env _ (newList []) false (Ea iter X.env) (some (assign (.Name y py) X.env))) _ _ s;refine AR (Ei (wpAny_comprehension_free (use:=some (assign (.Name y py) X.env)) (Q:=λ_ s'=>SP X pZ D .next s') rfl hs ok.clos ok.kind ok.names (Ei (hi pZ s σ H _ I h) λv s1 h1=>Ei h1 λu s2 h2=>?_)) λ_ s' B=>Bx (Bx B));refine bn (Q:=λx H1=>fu i x σ H1 D.nx) ok fr f hg l E (oZ.mono h2 λJ H1 z=>⟨.inl hc,z⟩) λr C s' H' t O hn n q=>?_;show BN _ X.A (assign (.Name y py) X.env (.ref r)) _ _ _;obtain⟨L,f1,f2,K,p,G⟩:=n;refine wpAny_assign_Name (WX (v:=.ref r) O F w hx rfl (λs2 M m=>?_) hf);obtain⟨a,sb,ha⟩:=m;have d:C≠a:=by
  rcases ha with z|z
  ·rw[z];exact f1
  ·exact λe=>p y a z e.symm
 refine⟨t,hn.sameBut sb d,λh' k=>?_⟩;exact⟨_,H',M.turned (t':=s2.toks) (λb o hb e=>(k.2 b hb).trans e) L f1 K p G,q⟩
end
structure we(B:Ct)(l:List Env)(e:AE)(cls:AB)(dx:Option AE)(fl:AB)(h:Ct):Prop where
 st:B.StaysIn h
 ne:B.get? e=none
 fr:h.FunFrames B l
 ob:∃a0 T oT ts,h.get? e=some (qV cls dx a0 (.ref T))/\B.get? T=none/\T≠e/\h.get? T=some oT/\oT.data= .fields ts/\ts[3]?=some fl
section
variable{M:Model}{A:CH}{E:AB->AG->Prop}{s:AG}{B:Ct}{env:Env}{outer:List Env}{L e:AE}{cls fl a0 head:AB}{dx:Option AE}{Q:Unit->AG->Prop}
end
structure wb(fs:List AE)(H H':Hp)(h B:Ct):Prop where
 k1:∀b o,h.get? b=some o->H b=none->b∉fs->B.get? b=some o
 k2:∀b o,h.get? b=some o->b∉fs->∃o',B.get? b=some o'
 tk:∀b,H' b≠none->∃u,B.get? b=some u
section
variable{P:Bq}{w:BU}{H H':Hp}{h h' h2 B:Ct}{l l2:List Env}{e:AE}{cls fl fl2:AB}{dx:Option AE}
theorem Dw.some_of{a:AE}{o:HO}(x:Dw P w H h a o):∃u,h.get? a=some u:=by
 cases o with
 |lst xs=>obtain⟨_,_,_,_,e⟩:=x;exact⟨_,e⟩
 |tup xs=>obtain⟨_,_,_,o,e,_⟩:=x;exact⟨_,e⟩
 |dK kvs=>obtain⟨_,_,_,_,o,_,_,e,_⟩:=x;exact⟨_,e⟩
 |dT kvs=>obtain⟨_,_,_,_,o,_,_,e,_⟩:=x;exact⟨_,e⟩
 |set S n=>obtain⟨o,_,_,_,e,_⟩:=x;exact⟨_,e⟩
 |ins C dx fs=>obtain⟨_,_,_,e,_⟩:=x;exact⟨_,e⟩
 |own y=>exact x
 |xd fs=>obtain⟨_,⟨o,_,_,e,_⟩,_⟩:=x;exact⟨_,e⟩
 |rng lo hi=>obtain⟨_,_,_,e⟩:=x;exact⟨_,e⟩
 |frz ob u=>obtain⟨e,_⟩:=x;exact⟨_,e⟩
 |tbl ps=>exact⟨_,(show h.get? a=some _ from x)⟩
 |met f y=>exact⟨_,(show h.get? a=some _ from x)⟩
 |ext φ=>obtain⟨_,e,_⟩:=x;exact e
end
section
variable{cm:Bool}{P:Bq}{w:BU}{K:AF}{mg:Bc->Option AB}{base:Ct}{N:List Bc}{qual:Bc}{scope:Scope}{f:AE}{cd:AB}{A:CH}{outer:List Env}{s:AG}{H:Hp}{E:XK}
end
section
variable{X:Cx}{x n:Bc}{np hpos pos p1:FX}{c0:Expr}{b_:JI}{suite:List JI}{i:Nat}{ts:AE->TS}{tc:XK->TE}{c:AB}{v0:V}
end
section
variable{K:AF}
structure vY(K:AF)(C:AE):Prop where
 hd:Mx K C=true
 ga:CF K (.ref C) "__getattribute__"=some (some (.builtin "BaseException.__getattribute__"))
 gx:CF K (.ref C) "__getattr__"=some none
 ca:CF K (.ref C) "__class__"=some (some (.builtin "object.__class__"))
 gs:Mu K (.builtin "object.__class__") "__get__"=some (some (.builtin "getset_descriptor.__get__"))
 ts:PySem.W.takesIn K (.builtin "object.__class__")=some true
 mo:Su K C (.type "object")=some true
 mb:Su K C (.type "BaseException")=some true
variable{prog:Bq}{w:BU}{A:CH}{E:AB->AG->Prop}{s:AG}{e C:AE}{oe:Obj}{od:Option Obj}{name:Bc}
end
section
variable{X:Cx}{pZ:List (AE×Obj)}{σ:St}{H:Hp}{s:AG}
theorem Cr.big(I:Cr X pZ σ H s):Gp<s.heap.objs.size:=by
 have h:Cg<s.heap.objs.size:=(I.mod.glob.keeps I.bk).lt;exact IL Aa h
theorem bf{P:Bq}{w:BU}{H:Hp}(h:Ct)(hb:Gp<h.objs.size):Dw P w H (h.push {cls:=.type "dict",data:=.dict #[]}) h.objs.size (.dK []):=⟨Ci _,beq_eq_false_iff_ne.mpr (CI (BE hb)),[],.nil,Heap.DictOf.new h⟩
def pz:TE:=λ_ H Q=>∀p,H p=none->Q (.ref p) (upd H p (.dK []))
theorem aj{pos:FX}:PE X (.Dict [] [] pos) pz:=λpZ s σ H Q I h=>
 wpAny_Dict_empty ⟨.ref s.heap.objs.size,_,I.laid (a:=s.heap.objs.size) (o:=.dK []) (t':=s.toks) (λ_ _ q=>AK _ q) (AX _) (bf s.heap I.big),rfl,h _ (I.hok.fresh (AX _))⟩
end
section
variable{X:Cx}
end
def Ly(H:Hp)(e:AE):Hp:=λb=>if b=e then none else H b
theorem KW{H:Hp}{e:AE}:Ly H e e=none:=wm rfl
theorem HK{H:Hp}{e b:AE}(h:b≠e):Ly H e b=H b:=wk h
abbrev vB:List AB:=[.type "ValueError",.type "Exception",.type "BaseException",.type "object"]
structure wd(K:AF)(C fe fI:AE):Prop where
 cls:∃nm q N bs sn sub ab col dd k0 k1 k2 k3 k5,K.lookup C=some (excClassObj nm q C N bs (.ref fe::vB) true sn sub ab col dd k0 k1 k2 k3 k5 "ValueError.__new__")/\PySem.W.nsOkIn K N=true/\PySem.W.nsIn K N "__init__"=some (some (.ref fI))
 xfe:PySem.W.excIn K fe vB "ValueError.__new__"=true
 feM:Su K fe (.type "ValueError")=some true
 fn:Vd K (.ref fI)=true
 kp:Hg K (.ref C)=true
 sa:CF K (.ref C) "__setattr__"=some (some (.builtin "object.__setattr__"))
section
variable{prog:Bq}{w:BU}{A:CH}{E:AB->AG->Prop}{h:Ct}{g:Array GenState}{d:Drawn}{t:Nat}{os:Eu}
variable{nm q:Bc}{C N:AE}{bs bm tI:List AB}{hdct:Bool}{sn:List Bc}{sub:List AB}{ab:Bool}{col:Option Bool}{dd:Option AE}{k0 k1 k2 k3 k5:Option AB}{B newId initId:String}
end
section
variable{M:Model}{A:CH}{E:AB->AG->Prop}{env:Env}
variable{nm q:Bc}{C N:AE}{bs bm:List AB}{hdct:Bool}{sn:List Bc}{sub:List AB}{ab:Bool}{col:Option Bool}{dd:Option AE}{k0 k1 k2 k3 k5:Option AB}{newId:String}
end
section
variable{cm:Bool}{P:Bq}{w:BU}{K:AF}{mg:Bc->Option AB}{base:Ct}{N:List Bc}{qual:Bc}{scope:Scope}{f:AE}{cd:AB}{A:CH}{outer:List Env}{s:AG}{H:Hp}{E:XK}
end
section
variable{X:Cx}
structure vC(K:AF)(fe:AE):Prop where
 ga:Mu K (.ref fe) "__getattribute__"=some (some (.builtin "type.__getattribute__"))
 rd:PySem.W.readsIn K fe (.type "type")=true
 fi:PySem.W.findCls K (.ref fe) (.type "type") "__init__"=some (.val (.builtin "ValueError.__init__"))
end
section
variable{X:Cx}{o value:Expr}{f:Bc}{pos pos':FX}{ta tv:TE}
end
section
variable{X:Cx}{o value:Expr}{f:Bc}{pos pos':FX}{ta tv:TE}
end
theorem af{X:Cx}{x:Bc}{i:Int}{t:Tok}{pos:FX}(hm:X.mg x=some (.int i t))(hg:Gl X x:=by rfl)(hd: (x==("__debug__" :Bc))=false:=by decide):PE X (.Name x pos) (tC (.int i)):=YI hg hm ⟨t,rfl⟩ hd
theorem Dk{c A B:Prop} [Decidable c](hc:¬c)(h:B):if decide c=true then A else B:=by
 rw[wk (by simpa using hc)];exact h
theorem QV{X:Cx}{x:Bc}{T:String}{pos:FX}(hm:X.mg x=none)(a:Co x=some (.type T))(hg:Gl X x:=by rfl)(hn:x≠ "__name__":=by decide)(hd: (x==("__debug__" :Bc))=false:=by decide):PE X (.Name x pos) (tC (.ty T)):=mz hg hm a rfl hn hd
theorem oN{H:Hp}{a p:AE}{o u:HO}(h:H a=some o)(hp:H p=none): (upd H p u) a=some o:=by
 rw[Bb (Bt h hp)];exact h
theorem By{H:Hp}{p:AE}{u:HO}(hp:H p=none):Be H (upd H p u):=λ_ _ e=>oN e hp
theorem CZ{X:Cx}{scope:Scope}(h: (scope.names.all λp=>!(p.2== .free) || (X.env.cells.lookup p.1).isSome)=true):∀y∈scope.names,y.2= .free->(X.env.cells.lookup y.1).isSome=true:=λy a e=>by
 have:=BM.mp h y a;rw[e]at this;simpa using this
theorem HR{c A B:Prop} [Decidable c](hc:c)(h:A):if decide c=true then A else B:=by
 rw[wm (wg hc)];exact h
theorem YK{X:Cx}{x:Bc}{a:AE}{pos:FX}(hm:X.mg x=some (.ref a))(hg:Gl X x:=by rfl)(hd: (x==("__debug__" :Bc))=false:=by decide):PE X (.Name x pos) (tC (.ref a)):=YI hg hm rfl hd
theorem BC{X:Cx}(K:AF)(a:X.K=K):FE X (.builtin "isinstance") (λxs H Q=>∃x c t cv b,xs=[x,c]/\Jl K H x t/\Dd c cv/\BR K t cv=some b/\Q (.bl b) H):=by
 subst a;exact bu
theorem shaped_ints(ns:List Int):Gg (.list (ns.map PyData.int))=true:=PySem.W.shaped_ints ns
theorem Be.put{H H':Hp}{p:AE}{o:HO}(s:Be H H')(h:H p=none):Be H (upd H' p o):=λb u e=>by
 rw[Bb (Bt e h)];exact s b u e
theorem Be.seqT{K:AF}{H H':Hp}{a:AE}{xs:List V}(e:Be H H')(h:DW K H a xs):DW K H' a xs:=by
 rcases h with(h|⟨o,h⟩)|h
 ·exact .inl (.inl (e _ _ h))
 ·exact .inl (.inr ⟨o,e _ _ h⟩)
 ·exact .inr h
def rB(t u:TS):TS:=λD σ H=>∃M:St->Hp->Prop,t {D with nx:=M} σ H/\∀a H',M a H'->u D a H'
theorem Cq{t u:TS}{D:WL}{σ:St}{H:Hp}(M:St->Hp->Prop)(h1:t {D with nx:=M} σ H)(h2:∀a H',M a H'->u D a H'):rB t u D σ H:=⟨M,h1,h2⟩
theorem Bh{X:Cx}{st:JI}{rest:List JI}{t u:TS}(h1:PS X st t)(h2:XQ X rest u):XQ X (st::rest) (rB t u):=by
 intro pZ s σ H D I ⟨M,h,k⟩;refine wpAny_execs_cons (Ia (h1 pZ s σ H {D with nx:=M} I h) (λf s1 q=>?_) λ_ _ x=>x);cases f with
 |next=>
  obtain⟨a,H1,c,b⟩:=q;exact h2 pZ s1 a H1 D c (k a H1 b)
 |ret v=>exact q
 |brk=>exact q
 |cont=>exact q
def rr(t:TE):TE:=λσ H Q=>∃M:VK,t σ H M/\∀v H',M v H'->Q v H'
theorem jt{X:Cx}{e:Expr}{t:TE}(h:PE X e t):PE X e (rr t):=by
 intro pZ s σ H Q I ⟨M,q,k⟩;exact Ia (h pZ s σ H M I q) (λv s1 a=>(by obtain⟨x,H1,b,r,m⟩:=a;exact⟨x,H1,b,r,k x H1 m⟩)) λ_ _ x=>x
theorem ot{us:List AB}(h:us.length=1):∃a,us=[a]:=by
 obtain _|⟨a,us⟩:=us
 ·simp at h
 obtain _|⟨u,us⟩:=us
 ·exact⟨_,rfl⟩
 ·simp at h
theorem oq{us:List AB}(h:us.length=2):∃b a,us=[b,a]:=by
 obtain _|⟨b,us⟩:=us
 ·simp at h
 obtain _|⟨a,us⟩:=us
 ·simp at h
 obtain _|⟨u,us⟩:=us
 ·exact⟨_,_,rfl⟩
 ·simp at h
theorem oo{us:List AB}(h:us.length=3):∃c b a,us=[c,b,a]:=by
 obtain _|⟨c,us⟩:=us
 ·simp at h
 obtain _|⟨b,us⟩:=us
 ·simp at h
 obtain _|⟨a,us⟩:=us
 ·simp at h
 obtain _|⟨u,us⟩:=us
 ·exact⟨_,_,_,rfl⟩
 ·simp at h
theorem om{us:List AB}(h:us.length=4):∃d c b a,us=[d,c,b,a]:=by
 obtain _|⟨d,us⟩:=us
 ·simp at h
 obtain _|⟨c,us⟩:=us
 ·simp at h
 obtain _|⟨b,us⟩:=us
 ·simp at h
 obtain _|⟨a,us⟩:=us
 ·simp at h
 obtain _|⟨u,us⟩:=us
 ·exact⟨_,_,_,_,rfl⟩
 ·simp at h
theorem qX{us:List AB}(h:us.length=5):∃e d c b a,us=[e,d,c,b,a]:=by
 obtain _|⟨e,us⟩:=us
 ·simp at h
 obtain _|⟨d,us⟩:=us
 ·simp at h
 obtain _|⟨c,us⟩:=us
 ·simp at h
 obtain _|⟨b,us⟩:=us
 ·simp at h
 obtain _|⟨a,us⟩:=us
 ·simp at h
 obtain _|⟨u,us⟩:=us
 ·exact⟨_,_,_,_,_,rfl⟩
 ·simp at h
theorem oj{us:List AB}(h:us.length=6):∃f e d c b a,us=[f,e,d,c,b,a]:=by
 obtain _|⟨f,us⟩:=us
 ·simp at h
 obtain _|⟨e,us⟩:=us
 ·simp at h
 obtain _|⟨d,us⟩:=us
 ·simp at h
 obtain _|⟨c,us⟩:=us
 ·simp at h
 obtain _|⟨b,us⟩:=us
 ·simp at h
 obtain _|⟨a,us⟩:=us
 ·simp at h
 obtain _|⟨u,us⟩:=us
 ·exact⟨_,_,_,_,_,_,rfl⟩
 ·simp at h
theorem Ev{N P:List Bc}{sc:Scope}(h1:sc.kind= .function:=by rfl)(h2:sc.isCoroutine=false:=by rfl)(h3:sc.isGenerator=false:=by rfl)(d:N.Nodup:=by decide+kernel)(c:N.take P.length=P:=by rfl)(b:∀x∈P,sc.names.lookup x=some .local\/sc.names.lookup x=some .cell:=by decide+kernel)(a:∀y∈sc.names,y.2≠ .free:=by decide+kernel):Bk N P sc:=⟨h1,h2,h3,d,c,b,a⟩
theorem zl(n:Nat)(h:Nat.ble n sizeLine=true:=by rfl):n<=sizeLine:=Nat.le_of_ble_eq_true h
end L2
namespace HL
open PySem PySem.W
theorem nw(h:Ct)(a:AE)(o:Obj):∀l:List Nat,((l.filterMap λa=>(h.get? a).map λo=>(a,o)):FL).lookup a=some o->h.get? a=some o:=by
 intro l;induction l with
 |nil=>intro e;cases e
 |cons b l c=>
  intro e;cases q:h.get? b with
  |none=>rw[FY,q]at e;exact c e
  |some x=>
   rw[FY,q]at e
   dsimp only[Option.map]at e
   rw[Hx]at e;cases z: (a==b)with
   |true=>rw[z]at e;cases e;rw[beq_iff_eq.mp z];exact q
   |false=>rw[z]at e;exact c e
def KI{a:Type}:List a->Nat->Option a
 |[],_=>none
 |x::_,0=>some x
 |_::l,n+1=>KI l n
theorem YN{a:Type}{l m:List a}(h:l=m)(i:Nat):KI l i=KI m i:=by rw[h]
theorem UV{a:Type}{x:a}{f:a->Bool}:∀{l:List a} (i:Nat),l.all f=true->KI l i=some x->f x=true
 |y::l,0,h,e=>by cases e;rw[GK,AI]at h;exact h.1
 |y::l,i+1,h,e=>by rw[GK,AI]at h;exact UV i h.2 e
abbrev FV:=Bc×Bc×KH×FuncBody×Scope×AE×List (Bc×AE)×AB×AE×Bool
def Fe(K:FL)(f:AE):Ey:=match K.lookup f with
 |some o=>(match o.data with|.func fd=>fd|_=>default)
 |_=>default
def fv(K:FL)(f:AE):Option FV:=match K.lookup f with
 |some o=>(match o.data with
  |.func fd=>some (fd.name,fd.qualname,fd.params,fd.body,fd.scope,fd.globals,fd.closure,fd.defaults,fd.builtins,codeIn K fd.code fd.qualname)
  |_=>none)
 |_=>none
def fx(x qual:Bc)(st:JI)(a:AB):Option FV:=some (x,qual,L2.IA st,.stmts (L2.Hl st),L2.AS st,Cg,[],a,Nz,true)
theorem kj{K:FL}{f:AE}{x qual:Bc}{st:JI}(h:fv K f=fx x qual st .none)(k:FI K (.ref f)=true):L2.bH K x qual st f (Fe K f):=by
 unfold fv fx at h;cases q:K.lookup f with
 |none=>rw[q]at h;cases h
 |some o=>
  obtain⟨oc,od,i,sl⟩:=o;rw[q]at h;cases i with
  |func fd=>
   obtain⟨n,l,v,u,t,s,r,p,j,g,d,c,b,a,m⟩:=fd;simp only[My,GJ]at h;obtain⟨rfl,rfl,rfl,rfl,rfl,rfl,rfl,rfl,rfl,e⟩:=h;have z:Fe K f=fnOf n l (L2.IA st) (L2.Hl st) (L2.AS st) .none j g d c b a:=by unfold Fe;rw[q]
   rw[z];exact L2.qy q e k
  |_=>cases h
theorem HU{K:FL}{f:AE}{x qual:Bc}{st:JI}{a:AB}(h:fv K f=fx x qual st a):∃(oc:AB) (od:Option AE) (sl:Array (Option AB)) (kV doc pm:AB) (an:Option AE) (cdv ct:AB),Fe K f=fnOf x qual (L2.IA st) (L2.Hl st) (L2.AS st) a kV doc pm an cdv ct/\K.lookup f=some ⟨oc,od,.func (fnOf x qual (L2.IA st) (L2.Hl st) (L2.AS st) a kV doc pm an cdv ct),sl⟩/\codeIn K cdv qual=true:=by
 unfold fv fx at h;cases q:K.lookup f with
 |none=>rw[q]at h;cases h
 |some o=>
  obtain⟨oc,od,j,sl⟩:=o;rw[q]at h;cases j with
  |func fd=>
   obtain⟨v,u,t,s,r,p,n,m,k,i,g,d,c,b,l⟩:=fd;simp only[My,GJ]at h;obtain⟨rfl,rfl,rfl,rfl,rfl,rfl,rfl,rfl,rfl,e⟩:=h;exact⟨oc,od,sl,k,i,g,d,c,b,by unfold Fe;rw[q],rfl,e⟩
  |_=>cases h
def Jw(K:FL)(a:AE):Option (List AB):=match K.lookup a with
 |some o=>(match o.data with|.seq vs _=>some vs.toList|_=>none)
 |_=>none
theorem cE{K:FL}{a:AE}{l:List AB}(h:Jw K a=some l):∃o n,K.lookup a=some o/\o.data= .seq l.toArray n:=by
 unfold Jw at h;cases q:K.lookup a with
 |none=>rw[q]at h;cases h
 |some o=>
  rw[q]at h;obtain⟨oc,od,b,sl⟩:=o;cases b with
  |seq vs n=>obtain rfl:vs.toList=l:=Ba h;exact⟨_,n,rfl,rfl⟩
  |_=>cases h
def iv:Option (Option AB)->Option Int
 |some (some (.int i _))=>some i
 |_=>none
theorem jY{o:Option (Option AB)}{i:Int}(h:iv o=some i):∃t,o=some (some (.int i t)):=by
 unfold iv at h;split at h
 ·cases h;exact⟨_,rfl⟩
 ·cases h
theorem eG{K:FL}{a:AE}{i:Int}(h:iv ((Jw K a).map List.head?)=some i)(n: (Jw K a).map (λl=>(l.length:Int))=some 1):∃o t n,K.lookup a=some o/\o.data= .seq #[.int i t] n:=by
 cases q:Jw K a with
 |none=>rw[q]at n;cases n
 |some l=>
  rw[q]at h n
  match l,q,h,n with
  |[v],q,h,_=>
   obtain⟨t,e⟩:=jY h;obtain⟨o,n,h1,h2⟩:=cE q;have b:v= .int i t:=by simpa using e
   exact⟨o,t,n,h1,by rw[h2,b]⟩
  |[],_,h,_=>cases h
  |_::_::_,_,_,n=>simp at n;lia
end HL
namespace HL
open PySem PySem.W L2
abbrev XV:=AB×List AB×Bool×Bool×Nat×Option (Option AB)×Bool×Option (Option AB)
end HL
namespace HL
open PySem PySem.W PyProof.Rows L2
def Ii(l:List Nat)(h:Ct):FL:=l.filterMap λa=>(h.get? a).map λo=>(a,o)
theorem km(l:List Nat)(h:Ct): (Ii l h).In h:=λa o e=>nw h a o l e
def lz:List AB->Int
 |[.bool false,.none]=>10
 |[.none]=>11
 |_=>0
theorem sO{l:List AB}(h:lz l=10):l=[.bool false,.none]:=by
 unfold lz at h;split at h
 ·rfl
 ·cases h
 ·cases h
theorem sN{l:List AB}(h:lz l=11):l=[.none]:=by
 unfold lz at h;split at h
 ·cases h
 ·rfl
 ·cases h
theorem iS{K:FL}{a:AE}(h: (Jw K a).map lz=some 10):∃o n,K.lookup a=some o/\o.data= .seq #[.bool false,.none] n:=by
 obtain⟨l,e,c⟩:=Cc.mp h;obtain rfl:=sO c;exact cE e
theorem oy{K:FL}{a:AE}(h: (Jw K a).map lz=some 11):∃o n,K.lookup a=some o/\o.data= .seq #[.none] n:=by
 obtain⟨l,e,c⟩:=Cc.mp h;obtain rfl:=sN c;exact cE e
def sv:Option (Option AB)->Option Bc
 |some (some (.str x _))=>some x
 |_=>none
theorem pD{o:Option (Option AB)}{x:Bc}(h:sv o=some x):∃t,o=some (some (.str x t)):=by
 unfold sv at h;split at h
 ·cases h;exact⟨_,rfl⟩
 ·cases h
def uZ(K:FL)(f:AE):Option Int:=match (Fe K f).code with
 |.ref c=>some (c:Int)
 |_=>none
theorem qA{K:FL}{f c:AE}(h:uZ K f=some ((c:Nat):Int)): (Fe K f).code= .ref c:=by
 unfold uZ at h;split at h
 ·rename_i a e;rw[e,Int.ofNat.inj (Ba h)]
 ·cases h
def qr:AB->Bool|.int _ _=>true|_=>false
def sC:AB->Bool|.bool _=>true|_=>false
def sy:AB->Bool|.str _ _=>true|_=>false
def qq:AB->String->Bool|.type n,m=>n==m|_,_=>false
def sA:Option AB->AE->Bool|some (.ref a),b=>a==b|_,_=>false
noncomputable def tF(K:FL)(c T:AE):Bool:=match K.lookup c with
 |some o=>(match o.data with
  |.fields vs=>qq o.cls "code" &&sA vs[11]? T&&sy (vs.getD 18 .none) &&qr (vs.getD 7 .none) &&sC (vs.getD 9 .none) &&qr (vs.getD 10 .none) && !(c==T)
  |_=>false)
 |none=>false
theorem eZ{v:AB}(h:qr v=true):∃i t,v= .int i t:=by cases v <;> first|exact⟨_,_,rfl⟩|cases h
theorem na{v:AB}(h:sC v=true):∃b,v= .bool b:=by cases v <;> first|exact⟨_,rfl⟩|cases h
theorem mY{v:AB}(h:sy v=true):∃x t,v= .str x t:=by cases v <;> first|exact⟨_,_,rfl⟩|cases h
theorem eY{v:AB}{n:String}(h:qq v n=true):v= .type n:=by
 cases v with
 |type m=>rw[show m=n from beq_iff_eq.mp h]
 |_=>cases h
theorem mZ{v:Option AB}{a:AE}(h:sA v a=true):v=some (.ref a):=by
 cases v with
 |none=>cases h
 |some v=>cases v with
  |ref b=>rw[show b=a from beq_iff_eq.mp h]
  |_=>cases h
theorem oR{K:FL}{h:Ct}{c T:AE}(X:K.In h)(e:tF K c T=true):CodeHd h c T:=by
 unfold tF at e;cases q:K.lookup c with
 |none=>rw[q]at e;cases e
 |some o=>
  rw[q]at e;obtain⟨oc,od,w,sl⟩:=o;cases w with
  |fields vs=>
   simp only[AI]at e;obtain⟨⟨⟨⟨⟨⟨v,u⟩,t⟩,s⟩,r⟩,p⟩,a⟩:=e;obtain⟨g,k,h3⟩:=mY t;obtain⟨f,j,n⟩:=eZ s;obtain⟨d,m⟩:=na r;obtain⟨b,i,l⟩:=eZ p;have h2:=mZ u;refine⟨_,vs,g,k,f,j,d,b,i,X _ _ q,eY v,rfl,h2,?_,h3,n,m,l,λz=>?_⟩
   ·rw[Array.getD_eq_getD_getElem?,h2];rfl
   ·rw[z]at a;simp at a
  |_=>cases e
def lF(h:Ct)(T:AE):Bool:=match h.get? T with
 |some ⟨.none,none,.fields vs,sl⟩=>vs.toList.isEmpty&&sl.toList.isEmpty
 |_=>false
theorem pr{h:Ct}{T:AE}(e:lF h T=true):h.get? T=some (tabObj #[]):=by
 unfold lF at e;split at e
 ·rename_i vs sl q;rw[AI]at e;obtain⟨vs⟩:=vs;obtain⟨sl⟩:=sl;obtain rfl:vs=[]:=List.isEmpty_iff.mp e.1;obtain rfl:sl=[]:=List.isEmpty_iff.mp e.2;exact q
 ·cases e
def tI(K:FL)(bm:AE):Bool:=match K.lookup bm with
 |some o=>(match o.data with
  |.plain=>qq o.cls "module" && (match o.dict with|some d=>d==Nz|none=>false)
  |_=>false)
 |none=>false
theorem sP{K:FL}{h:Ct}{mg:Bc->Option AB}{bm T:AE}(X:K.In h)(e:tI K bm=true)(g:mg "__builtins__"=some (.ref bm))(h1:bm≠Nz)(h2:bm≠Cg)(h3:bm≠T):h.BuiltinsAt mg T:=by
 unfold tI at e;cases q:K.lookup bm with
 |none=>rw[q]at e;cases e
 |some o=>
  rw[q]at e;obtain⟨oc,od,c,sl⟩:=o;cases c with
  |plain=>
   simp only[AI]at e;obtain⟨b,a⟩:=e;refine⟨bm,_,g,h1,h2,h3,X _ _ q,eY b,?_,rfl⟩;cases od with
   |none=>cases a
   |some d=>exact wn some (beq_iff_eq.mp a)
  |_=>cases e
theorem dt(h:Ct){a:AE}:∀l:List Nat,a∉l->(Ii l h).lookup a=none:=by
 intro l;induction l with
 |nil=>intro _;rfl
 |cons b l c=>
  intro n;have n1:a≠b:=λz=>n (by rw[z];exact BQ);have n2:a∉l:=λz=>n (BG _ z);have c:=c n2;unfold Ii at c ⊢;rw[FY];cases q:h.get? b with
  |none=>exact c
  |some o=>
   dsimp only[Option.map]
   rw[Hx,beq_false_of_ne n1];exact c
end HL
namespace L2
open PySem PySem.Spec PyProof.Rows
section
variable{X:Cx}
theorem OF:tf X "str.startswith" (λx xs H Q=>∃z y,x= .str z/\xs=[.str y]/\Q (.bl (Txt.startswith z y)) H):=by
 intro pZ s σ H x xs v us Q I a b h;obtain⟨z,y,rfl,rfl,q⟩:=h;obtain⟨t,rfl⟩:=a;obtain⟨u,rfl,⟨t',rfl⟩⟩:=Cv.one b;exact call_gives F.slot_str_startswith (Nx _ _ _) F.entry_str_startswith (F.args_str_startswith_2 _ _) (gives_str_startswith z y t t') (show EP X pZ σ Q (.bool (Txt.startswith z y)) s from⟨.bl _,H,I,rfl,q⟩)
theorem bV{ys:List Bc}:∀{us:List AB},Cv (ys.map V.str) us->StrsAre us ys:=by
 induction ys with
 |nil=>intro us r;rw[Dl]at r;cases r;exact .nil
 |cons n ns c=>
  intro us r;rw[Bf]at r;cases r with
  |cons b a=>
   obtain⟨t,e⟩:=b;subst e;exact .cons n t (c a)
theorem NP:tf X "str.join" (λx xs H Q=>∃z p ys,x= .str z/\xs=[.ref p]/\Cj X.K H p (ys.map V.str)/\(ys.map (·.length)).sum+ys.length*z.length<=16777216/\Q (.str (Eb z ys)) H):=by
 intro pZ s σ H x xs v us Q I a d h;obtain⟨z,p,ys,rfl,rfl,hp,hz,q⟩:=h;obtain⟨t,rfl⟩:=a;obtain⟨u,rfl,c⟩:=Cv.one d;cases (show u= .ref p from c);obtain⟨e,b,pl,_⟩:=I.list hp;exact join_list pl.isList (bV b) hz λt' k=>(show EP X pZ σ Q (.str (Eb z ys) t') {s with toks:=k}from⟨.str _,H,I.tok _,⟨_,rfl⟩,q⟩)
def ue:V->Option Int->Option Int->Hp->VK->Prop:=λx lo hi H Q=>∃z,x= .str z/\z.length<=sizeLine/\Q (.str (Dx z lo hi)) H
theorem Xr{v:AB}{o:Option Int}(p:IsPart v o):∃l:Option (Int×Tok),v=partValue l/\l.map (·.1)=o:=by
 cases p with
 |none=>exact⟨none,rfl,rfl⟩
 |int i t=>exact⟨some (i,t),rfl,rfl⟩
theorem Ri:tL X ue:=by
 intro pZ s σ H x v d c lo hi sl Q I a hs pl b h;obtain⟨z,rfl,hz,q⟩:=h;obtain⟨t,rfl⟩:=a;obtain⟨l,rfl,rfl⟩:=Xr pl;obtain⟨u,rfl,rfl⟩:=Xr b;refine⟨"str",_,F.slot_str_getitem.lookup,Nx _ _ _,?_⟩;refine wpAny_getItem_str_slice (l:=l) (u:=u) (st:=none) ?_ rfl (post_val_or_str ⟨AJ (RH z _ _) hz,λt' k=>?_⟩)
 ·exact hs
 ·exact⟨.str _,H,I.tok _,⟨_,rfl⟩,q⟩
def tN(x:Bc):It:=⟨λi _=>i<x.length,λi H v H'=>H'=H/\∃c,x.cps[i]?=some c/\v= .str ⟨#[c]⟩,λi _=>x.length<=i,false⟩
def Mn(x:Bc):String:=if x.cps.all (·<128)then "str_ascii_iterator" else "str_iterator"
theorem ZC{P:Bq}{w:BU}{K:AF}{tg:Expr}(x:Bc)(t:Tok)(it:AE):dH P w K tg (tN x) [it] it (λi h=>h.IsStrIter it (Mn x) x t i) where
 mem:=by simp
 obj:=λi h st b hb=>by
  have e:b=it:=by simpa using hb
  subst e;obtain⟨o,e,c,d⟩:=st;exact⟨o,e,λv z=>by rw[d]at z;cases z⟩
 keep:=λi h h' st k=>by
  obtain⟨o,e,c,d⟩:=st;exact⟨o,k it (by simp) o e,c,d⟩
 item:=by
  intro X m hw n hc i pZ s σ H E I hf st hg;subst m hw n;have hi:i<x.cps.size:=hg;have hx:x.cps[i]?=some x.cps[i]:=Array.getElem?_eq_getElem hi;obtain⟨l,f1,f2,j,g,f⟩:=hf it (by simp);have fin:∀h',h'.IsStrIter it (Mn x) x t (i+1)->RN it s.heap h'->∃u,some (KB ⟨#[x.cps[i]]⟩ s.toks)=some u/\BN (model X.prog X.w) X.A (Mg tg (.ref it) u) (λ_ s2=>∃y H',Cr X pZ σ H' s2/\Dd y u/\(tN x).yld i H y H'/\s2.heap.IsStrIter it (Mn x) x t (i+1)/\∀b∈ [it],H' b=none) E {s with heap:=h',toks:=s.toks+1}:=λh' a sb=>by
   have q:Cr X pZ σ H {s with heap:=h',toks:=s.toks+1}:=I.turned (t':=s.toks+1) (λb o hb e=>(sb.2 b hb).trans e) l f1 j g f;obtain⟨o,e,c,d⟩:=id a;refine⟨_,rfl,fj (s:={s with heap:=h',toks:=s.toks+1}) e c d ?_ ⟨.str ⟨#[x.cps[i]]⟩,H,q,⟨_,rfl⟩,⟨rfl,_,hx,rfl⟩,a,λb hb=>(hf b hb).1⟩⟩;unfold Mn;split <;> decide
  by_cases ha:x.cps.all (·<128)=true
  ·have e:Mn x="str_ascii_iterator":=wm ha;rw[e]at st fin ⊢;exact wpAny_pyNext_ascii_item st hx fin
  ·have e:Mn x="str_iterator":=wk ha;rw[e]at st fin ⊢;exact wpAny_pyNext_wide_item st hx fin
 done:=by
  intro X m hw n hc i pZ s σ H E I hf st hg;subst m hw n;have hx:x.cps[i]?=none:=Om hg;obtain⟨l,f1,f2,j,g,f⟩:=hf it (by simp);have hc:=hc.resolve_right λz=>ER (show false=true from z.1);by_cases ha:x.cps.all (·<128)=true
  ·have e:Mn x="str_ascii_iterator":=wm ha;rw[e]at st;exact wpAny_pyNext_ascii_end (I.ok.hd hc) st hx λh' p=>⟨rfl,I.turned (t':=s.toks) (λb o hb e=>p b o hb e) l f1 j g f⟩
  ·have e:Mn x="str_iterator":=wk ha;rw[e]at st;exact wpAny_pyNext_wide_end (I.ok.hd hc) st hx λh' p=>⟨rfl,I.turned (t':=s.toks) (λb o hb e=>p b o hb e) l f1 j g f⟩
 self:=λ_ _ _ _ _ st h=>by
  by_cases ha:x.cps.all (·<128)=true
  ·have e:Mn x="str_ascii_iterator":=wm ha;rw[e]at st;exact wpAny_pyIter_striter_ascii st h
  ·have e:Mn x="str_iterator":=wk ha;rw[e]at st;exact wpAny_pyIter_striter_wide st h
def uT(tl:TE):TI:=λσ H R=>tl σ H λx H1=>∃z,x= .str z/\R (tN z) H1
theorem ji{tg l:Expr}{tl:TE}(i:PE X l tl):PI X tg l (uT tl):=by
 intro pZ s σ H R I h;refine Ei (i pZ s σ H _ I h) λv s1 a=>?_;obtain⟨x,H1,c,f,g⟩:=a;obtain⟨z,e,q⟩:=g;subst e;obtain⟨t,rfl⟩:=f;have fp:∀b∈ [s1.heap.objs.size],RC X pZ H1 b:=λb hb=>by
  have e:b=s1.heap.objs.size:=by simpa using hb
  subst e;exact c.fpOk (AX _) (c.hok.fresh (AX _))
 by_cases ha:z.cps.all (·<128)=true
 ·refine wpAny_pyIter_ascii ha ?_;exact⟨s1.heap.objs.size,[s1.heap.objs.size],_,_,H1,rfl,c.kept (t':=s1.toks) λb o e=>AK _ e,ZC z t _,⟨_,Bo _ rfl,by unfold Mn;rw[wm ha],rfl⟩,fp,q⟩
 ·have d:z.cps.all (·<128)=false:=by simpa using ha
  refine wpAny_pyIter_wide d ?_;exact⟨s1.heap.objs.size,[s1.heap.objs.size],_,_,H1,rfl,c.kept (t':=s1.toks) λb o e=>AK _ e,ZC z t _,⟨_,Bo _ rfl,by unfold Mn;rw[wk ha],rfl⟩,fp,q⟩
theorem WI:FE X (.type "int") (λxs H Q=>∃z n,xs=[.str z]/\PySem.intText? z=some n/\z.length<=640/\Q (.int n) H):=by
 intro pZ s σ H xs us Q I r h;obtain⟨z,n,rfl,hn,a,q⟩:=h;obtain⟨u,rfl,⟨t,rfl⟩⟩:=Ig r;exact PySem.W.KIN.call_text hn a ⟨.int n,H,I.tok _,⟨_,rfl⟩,q⟩
end
section
variable{X:Cx}
theorem lC{bs:List Bool}:∀{us:List AB},Cv (bs.map V.bl) us->us=bs.map EB:=by
 induction bs with
 |nil=>intro us r;rw[Dl]at r;cases r;rfl
 |cons b bs d=>
  intro us r;rw[Bf]at r;cases r with
  |cons c a=>
   cases (show _=EB b from c);rw[d a,Bf]
theorem hU(bs:List Bool): (Bm bs.length).all (λi=>bs.getD i true)=bs.all id:=by
 rw[GI,BM,BM];constructor
 ·intro h b hb;obtain⟨i,hi,e⟩:=JK.mp hb;have:=h i (CG.mpr hi);rw[AL,Az hi,Option.getD_some,e]at this;exact this
 ·intro h i hi;rw[CG]at hi;rw[AL,Az hi,Option.getD_some];exact h _ (NG hi)
theorem Ff(hc:X.calm=true):FE X (.builtin "all") (λxs H Q=>∃(p:AE) (bs:List Bool),xs=[.ref p]/\H p=some (.lst (bs.map V.bl))/\Q (.bl (bs.all id)) H):=by
 intro pZ s σ H xs us Q I r h;obtain⟨p,bs,rfl,hp,q⟩:=h;obtain⟨u,rfl,f⟩:=Cv.one r;cases (show u= .ref p from f);obtain⟨g,d,pl,_⟩:=I.list (Cj.of hp);have e:=lC d;subst e;have hne:p≠s.heap.objs.size:=BE (I.hok.lt hp);refine call_all_walk (OO pl.isList ?_);refine⟨s.heap.objs.size,_,_,_,_,_,λi=>bs.getD i true,rfl,Walks.list (A:=X.A.in1) (I.ok.hd hc) s.heap.objs.size p hne _,⟨⟨_,Bo _ rfl,rfl,rfl⟩,pl.isList.push _⟩,λi v s2 m n j k=>?_,λh' tk l=>?_⟩
 ·have a: (bs.map EB)[i]?=some v:=by simpa using j
  rw[AT]at a;cases hb:bs[i]? with
  |none=>rw[hb]at a;cases a
  |some b=>
   rw[hb]at a;cases a;have c:m (bs.getD i true) s2:=k;rw[show bs.getD i true=b by rw[AL,hb];rfl]at c;exact Ge c
 ·refine⟨.bl (bs.all id),H,I.kept (t':=tk) λb o e=>l b o (λz=>?_) (AK _ e),?_,q⟩
  ·have:b=s.heap.objs.size:=by simpa using z
   exact DZ _ (this ▸ Bu e)
  ·show EB _=EB _;rw[<-hU];simp
theorem fV(l:List (Bc×Tok)):Cv ((l.map (·.1)).map V.str) (strValues l):=by
 induction l with
 |nil=>exact .nil
 |cons p l a=>exact .cons ⟨_,rfl⟩ a
theorem jO:tf X "str.split" (λx xs H Q=>∃z y,x= .str z/\xs=[.str y]/\(y.length==0)=false/\z.length<=sizeLine/\(Txt.split z y).length<=sizeLine/\(Pj z (EM z y 0 z.length (z.length+1)) y.length).length<=sizeLine/\∀p,H p=none->Q (.ref p) (upd H p (.lst ((Txt.split z y).map V.str)))):=by
 intro pZ s σ H x xs v us Q I d f h;obtain⟨z,y,rfl,rfl,c,hz,a,b,q⟩:=h;obtain⟨t,rfl⟩:=d;obtain⟨u,rfl,⟨t',rfl⟩⟩:=Cv.one f;have fin:∀(l:List (Bc×Tok)) (tk:Nat),l.map (·.1)=Txt.split z y->EP X pZ σ Q (.ref s.heap.objs.size) {s with heap:=s.heap.push {cls:=.type "list",data:=.seq (strValues l).toArray},toks:=tk}:=λl tk e=>
  ⟨.ref s.heap.objs.size,_,I.lnew (ys:=(l.map (·.1)).map V.str) (fV l) (by rw[e,Ay];exact a),rfl,by rw[e];exact q _ I.fresh⟩
 cases h1: (decide (z.length<y.length) ||decide (Builtin.Str.strKind z<Builtin.Str.strKind y))
 ·cases hf: (EM z y 0 z.length (z.length+1)).isEmpty
  ·refine RG F.slot_str_split (Nx _ _ _) F.entry_str_split (F.args_str_split_2 _ _) (meets_str_split_sep z y t t' h1 c hf hz b) ?_;show wants (EP X pZ σ Q) X.xe _ {s with toks:=_,heap:=s.heap.push {cls:=.type "list",data:=.seq (strsFrom s.toks (Pj z (EM z y 0 z.length (z.length+1)) y.length)).toArray}};rw[strsFrom_eq];exact fin (numbered s.toks _) _ ((numbered_texts _ _).trans ((wk (ne_true_of_eq_false h1)).trans (wk (ne_true_of_eq_false hf))).symm)
  ·exact RG F.slot_str_split (Nx _ _ _) F.entry_str_split (F.args_str_split_2 _ _) (meets_str_split_not_found z y t t' h1 c hf) (fin [(z,t)] s.toks ((wk (ne_true_of_eq_false h1)).trans (wm hf)).symm)
 ·exact RG F.slot_str_split (Nx _ _ _) F.entry_str_split (F.args_str_split_2 _ _) (meets_str_split_cannot_occur z y t t' h1) (fin [(z,t)] s.toks (wm h1).symm)
namespace R8
end R8
end
end L2
namespace L2
open PySem PySem.Spec PyProof.Rows
section
variable{X:Cx}{pZ:List (AE×Obj)}{σ:St}{H:Hp}{s:AG}{h':Ct}
theorem Cr.turnedL{t':Nat}{fp:List AE}(I:Cr X pZ σ H s)(k:∀b o,b∉fp->s.heap.get? b=some o->h'.get? b=some o)(hf:∀b∈fp,RC X pZ H b):Cr X pZ σ H {s with heap:=h',toks:=t'}:=by
 have a:∀b u,H b=some u->b∉fp:=λb u e z=>by rw[(hf b z).1]at e;cases e
 refine I.step (g':=s.gens) (d':=s.drawn) (ch:=fp) (λb hb=>?_) (λb o _ _ hc e _=>k b o hc e) (λb o _ _ hc e _=>⟨o.slots,k b o hc e⟩) (λ_ _ _ _ n=>n) (λb o hc e=>⟨o,k b o hc e⟩) (λ_ _ e=>e) (λ_ _ _ e=>e) (λb ps e=>⟨#[],by rw[e];simp⟩) (λm hm=>?_) (λb u e=>?_) I.bare
 ·obtain⟨i,f1,f2,g,f,d⟩:=hf b hb;exact⟨g,f1,f,d⟩
 ·obtain⟨o,es,h,ho,r⟩:=hm;exact⟨o,es,h,k _ o (λz=>(hf _ z).2.1 rfl) ho,r⟩
 ·refine(I.hok b u e).stay (λc v hc q=>k c v ?_ q) (λ_ q=>q) λ_ _ q=>q;rcases hc with z|z
  ·rw[z];exact a b u e
  ·exact a c _ z
theorem apart{c a b:Nat}(ha:a<c)(hb:b<c):ZipApart (c+4) (c+2) (c+3) c (c+1) a b:=by
 constructor <;> (intro e;have d: @Eq Nat _ _:=e;lia)
theorem sR{a n:Nat}(h:a+4<n):∀c∈ [a,a+1,a+2,a+3,a+4],c<n:=λc hc=>by
 simp only[AU,BL,or_false]at hc
 lia
theorem above{a:Nat}:∀c∈ [a,a+1,a+2,a+3,a+4],a<=c:=λc hc=>by
 simp only[AU,BL,or_false]at hc
 lia
def qU(a b:AE):It:=⟨λi H=>∃xs ys x y,H a=some (.lst xs)/\H b=some (.lst ys)/\xs[i]?=some x/\ys[i]?=some y,λi H v H'=>∃T xs ys x y,v= .ref T/\H T=none/\H'=upd H T (.tup [x,y])/\H a=some (.lst xs)/\H b=some (.lst ys)/\xs[i]?=some x/\ys[i]?=some y,λi H=>∃xs ys,H a=some (.lst xs)/\H b=some (.lst ys)/\(xs.length<=i\/ys.length<=i),false⟩
theorem ik{P:Bq}{w:BU}{K:AF}{G:List Expr}{x1}{pos:FX}(a b f i2 TI TO z:Nat)(h1:i2=f+1)(h2:TI=f+2)(h3:TO=f+3)(S:z=f+4)(ha:a<f)(hb:b<f):
  dH P w K (.Tuple G x1 pos) (qU a b) [f,i2,TI,TO,z] z (λi h=>IsZip h z TI TO .none/\IsPair h TI (.ref f) (.ref i2)/\(∃u v,IsPair h TO u v)/\h.IsListIter f a i/\h.IsListIter i2 b i) where
 mem:=by simp
 obj:=λi h st c hc=>by
  obtain⟨s1,s2,⟨u,v,m⟩,s4,l⟩:=st;simp only[AU,BL,or_false]at hc;rcases hc with rfl|rfl|rfl|rfl|rfl
  ·obtain⟨o,e,c,d⟩:=s4;exact⟨o,e,λv z=>by rw[d]at z;cases z⟩
  ·obtain⟨o,e,c,d⟩:=l;exact⟨o,e,λv z=>by rw[d]at z;cases z⟩
  ·exact⟨_,s2,λv z=>by cases z⟩
  ·exact⟨_,m,λv z=>by cases z⟩
  ·exact⟨_,s1,λv z=>by cases z⟩
 keep:=λi h h' st k=>by
  obtain⟨s1,s2,⟨u,v,m⟩,s4,l⟩:=st;exact⟨k z (by simp) _ s1,k TI (by simp) _ s2,⟨u,v,k TO (by simp) _ m⟩,s4.at λo e=>k f (by simp) o e,l.at λo e=>k i2 (by simp) o e⟩
 item:=by
  intro X Q hw R hc i pZ s σ H E I hf st hg;subst Q hw R;obtain⟨s1,s2,⟨u,v,m⟩,s4,l⟩:=st;obtain⟨xs,ys,x,y,j,g,hx,V⟩:=hg;obtain⟨A,J,p,_⟩:=I.list (Cj.of j);obtain⟨t,n,L,_⟩:=I.list (Cj.of g);obtain⟨r,N,rx⟩:=J.get hx;obtain⟨q,M,ry⟩:=n.get V;have D:ZipApart z TI TO f i2 a b:=by subst h1 h2 h3 S;exact apart ha hb
  refine wpAny_pyNext_zip_item D s1 s2 m s4 l p.isList L.isList (x:=r) (y:=q) (by simpa using N) (by simpa using M) λh' z1 z2 Z Y U z6 T=>?_;refine⟨_,rfl,wpAny_letOwnedTupleGo_zip z1 λg2 y1 sb=>?_⟩;have B:z<s.heap.objs.size:=Bu s1;have O:∀c∈ [f,i2,TI,TO,z],c<s.heap.objs.size:=by subst h1 h2 h3 S;exact sR B
  have nz:s.heap.objs.size≠z:=IK B;have kT:g2.get? s.heap.objs.size=some {cls:=.type "tuple",data:=.seq #[r,q]}:=(sb.2 _ nz).trans U;have I1:Cr X pZ σ (upd H s.heap.objs.size (.tup [x,y])) {s with heap:=s.heap.push {cls:=.type "tuple",data:=.seq #[r,q]},toks:=s.toks}:=I.laid (t':=s.toks) (λb u e=>AK _ e) (AX _) ⟨by rw[DJ];simp,[r,q],.cons rx (.cons ry .nil),⟨_,Bo _ rfl,rfl,_,rfl⟩⟩;have C:∀c∈ [f,i2,TI,TO,z],RC X pZ (upd H s.heap.objs.size (.tup [x,y])) c:=λc hc=>by
   obtain⟨f0,f1⟩:=hf c hc;exact⟨by rw[Bb (BE (O c hc))];exact f0,f1⟩
  have I2:Cr X pZ σ (upd H s.heap.objs.size (.tup [x,y])) {s with heap:=g2,toks:=s.toks}:=Cr.turnedL (s:={s with heap:=s.heap.push {cls:=.type "tuple",data:=.seq #[r,q]},toks:=s.toks}) (t':=s.toks) I1 (λc o hc e=>?_) C
  ·refine⟨.ref s.heap.objs.size,_,I2,rfl,⟨s.heap.objs.size,xs,ys,x,y,rfl,I.fresh,rfl,j,g,hx,V⟩,⟨y1,?_,⟨r,q,?_⟩,?_,?_⟩,λc hc=>(C c hc).1⟩
   ·exact(sb.2 _ D.TIz).trans (T _ _ D.TIz D.TITO D.TIi1 D.TIi2 s2)
   ·exact(sb.2 _ D.TOz).trans z2
   ·exact Z.at λo e=>(sb.2 _ D.i1z).trans e
   ·exact Y.at λo e=>(sb.2 _ D.i2z).trans e
  ·simp only[AU,BL,or_false,not_or]at hc;rw[sb.2 _ hc.2.2.2.2];by_cases F:c=s.heap.objs.size
   ·subst F;rw[Bo _ rfl]at e;rw[U];exact e
   ·exact T _ _ hc.2.2.2.2 hc.2.2.2.1 hc.1 hc.2.1 ((HD _ _ _ F).symm.trans e)
 done:=by
  intro X Q hw R hc i pZ s σ H E I hf st hg;subst Q hw R;obtain⟨s1,s2,⟨u,v,m⟩,s4,l⟩:=st;obtain⟨xs,ys,j,g,hx⟩:=hg;obtain⟨A,J,p,_⟩:=I.list (Cj.of j);obtain⟨t,n,L,_⟩:=I.list (Cj.of g);have D:ZipApart z TI TO f i2 a b:=by subst h1 h2 h3 S;exact apart ha hb
  have hc:=hc.resolve_right λz=>ER (show false=true from z.1);have l1:=J.length;have l2:=n.length;refine wpAny_pyNext_zip_end (I.ok.hd hc) D s1 s2 m s4 l p.isList L.isList (hx.imp (λh=>Om (by show A.length<=i;lia)) (λh=>Om (by show t.length<=i;lia))) λh' k=>⟨rfl,Cr.turnedL (t':=s.toks) I (λc o hc e=>?_) hf⟩;simp only[AU,BL,or_false,not_or]at hc;exact k c o hc.2.2.2.2 hc.2.2.2.1 hc.1 hc.2.1 e
 self:=λ_ _ _ _ _ st h=>wpAny_pyIter_zip st.1 h
def uS(ta:TA):TI:=λσ H R=>ta σ H λvs H1=>∃(a b:AE) (xs ys:List V),vs=[.ref a,.ref b]/\H1 a=some (.lst xs)/\H1 b=some (.lst ys)/\R (qU a b) H1
theorem jh{j:List Expr}{y}{tpos:FX}{l k:Expr}{ta:TA}{p pos:FX}(hg:Gl X "zip")(hm:X.mg "zip"=none)(ha:PA X [l,k] ta)(hs:BW [l,k] X.env=(false,Ea l X.env)::BW [k] X.env:=by rfl)(m: (Fq pos (BW [k] X.env)).any (·.1)=false:=by rfl):PI X (.Tuple j y tpos) (.Call (.Name "zip" p) [l,k] [] pos) (uS ta):=by
 intro pZ s σ H R I h;refine CQ (Ku I hg hm (u:=.type "zip") Aa ?_ Aa Aa);refine EL (Ei (ha pos pZ s σ H _ I h) λus s1 g=>?_) hs m;obtain⟨vs,H1,d,B,C⟩:=g;obtain⟨a,b,xs,ys,rfl,f,e,q⟩:=C;obtain⟨u,v,rfl,A,z⟩:=Cv.two B;cases (show u= .ref a from A);cases (show v= .ref b from z);obtain⟨F,_,p,_⟩:=d.list (Cj.of f);obtain⟨E,_,D,_⟩:=d.list (Cj.of e);refine call_zip_2 p.isList D.isList λh' n x w t r J o=>?_;have G:Cr X pZ σ H1 {s1 with heap:=h',toks:=s1.toks}:=d.kept (t':=s1.toks) o;refine wpAny_pyIter_zip n ?_;refine⟨s1.heap.objs.size+4,_,_,qU a b,H1,rfl,G,ik a b s1.heap.objs.size _ _ _ _ rfl rfl rfl rfl (d.hok.lt f) (d.hok.lt e),⟨n,x,⟨_,_,w⟩,t,r⟩,λc hc=>?_,q⟩;have i:s1.heap.objs.size<=c:=above c hc;exact d.fpOk i (d.hok.fresh i)
end
section
variable{X:Cx}
theorem lB{a:List String}:∀{us:List AB},Cv (a.map V.ty) us->us=a.map IU:=by
 induction a with
 |nil=>intro us r;rw[Dl]at r;cases r;rfl
 |cons b bs e=>
  intro us r;rw[Bf]at r;cases r with
  |cons d c=>
   cases (show _=IU b from d);rw[e c,Bf]
theorem UE{pZ:List (AE×Obj)}{σ:St}{H:Hp}{s:AG}{A:CH}{Q:AB->AG->Prop}{E:AB->AG->Prop}{b:Bool}{x:V}{u t:AB}{p:AE}{k:List V}{g:List AB}(m:∀us,Cv k us->us=g)(I:Cr X pZ σ H s)(d:Dd x u)(ty:Jl X.K H x t)(hp:H p=some (.tup k))(e:DE X.K t g=some b)(h:∀tk,Q (.bool b) {s with toks:=tk}):BN (model X.prog X.w) A (call (.builtin "isinstance") [u,.ref p]) Q E s:=by
 obtain⟨_,j,l,o,ho,hc,n,hd⟩:=(show Dw X.prog X.w H s.heap p (.tup k)from I.hok p _ hp);have v:=m _ l;subst v;have c:s.heap.get? p=some ⟨.type "tuple",o.dict,.seq j.toArray n,o.slots⟩:=by
  rw[ho,<-hc,<-hd]
 cases ty with
 |non=>cases (show u=DX from d);exact DH PySem.W.kitx_none I.kIn Dz c e (λz=>nomatch z) h
 |bl y=>cases (show u=EB y from d);exact DH PySem.W.kitx_bool I.kIn Dz c e (λz=>nomatch z) h
 |int i=>obtain⟨t,q⟩:=(show ∃t,u=EA i t from d);cases q;exact DH PySem.W.kitx_int I.kIn Dz c e (λz=>nomatch z) h
 |str y=>obtain⟨t,q⟩:=(show ∃t,u=KB y t from d);cases q;exact DH PySem.W.kitx_str I.kIn Dz c e (λz=>nomatch z) h
 |flt y=>obtain⟨t,q⟩:=(show ∃t,u=Vb y t from d);cases q;exact DH PySem.W.kitx_float I.kIn Dz c e (λz=>nomatch z) h
 |@lst a xs f=>
  cases (show u=BD a from d);obtain⟨_,_,n,_,h1⟩:=(show Dw X.prog X.w H s.heap a (.lst xs)from I.hok a _ f);exact DH Mv I.kIn ⟨_,h1,rfl⟩ c e (λz=>nomatch z) h
 |@frz a ob xs f=>
  cases (show u=BD a from d);obtain⟨_,_,_,n,_,h1⟩:=(show Dw X.prog X.w H s.heap a (.frz ob (.lst xs))from I.hok a _ f);exact DH Mv I.kIn ⟨_,h1,rfl⟩ c e (λz=>nomatch z) h
 |@tup a xs f=>
  cases (show u=BD a from d);obtain⟨_,_,_,p⟩:=(show Dw X.prog X.w H s.heap a (.tup xs)from I.hok a _ f);obtain⟨o,h1,h2,_⟩:=p;exact DH PySem.W.kitx_tuple I.kIn ⟨o,h1,h2⟩ c e (λz=>nomatch z) h
 |@dK a kvs f=>
  cases (show u=BD a from d);obtain⟨_,_,vs,_,p⟩:=(show Dw X.prog X.w H s.heap a (.dK kvs)from I.hok a _ f);obtain⟨o,es,r,h1,h2,_⟩:=p;exact DH Mw I.kIn ⟨o,h1,h2.1⟩ c e (λz=>nomatch z) h
 |@dT a kvs f=>
  cases (show u=BD a from d);obtain⟨_,_,xs,_,o,es,r,h1,h2,_⟩:=(show Dw X.prog X.w H s.heap a (.dT kvs)from I.hok a _ f);exact DH Mw I.kIn ⟨o,h1,h2.1⟩ c e (λz=>nomatch z) h
 |@ins a C dx fs f cl ha hn htk hm=>
  cases (show u=BD a from d);obtain⟨mA,O,_⟩:=LX I.hok f;obtain⟨od,J,_⟩:=O.look;exact DH (PySem.W.kitx_own (cl.get _) cl.hd ha hn htk hm) I.kIn J c e (λz=>nomatch z) h
theorem Qx(K:AF)(f:X.K=K):FE X (.builtin "isinstance") (λxs H Q=>∃(x:V) (p:AE) (t:AB) (b:Bool) (a:List String),xs=[x,.ref p]/\H p=some (.tup (a.map V.ty))/\Jl K H x t/\DE K t (a.map IU)=some b/\Q (.bl b) H):=by
 subst f;intro pZ s σ H xs us Q I r h;obtain⟨x,p,t,b,a,rfl,hp,ty,e,q⟩:=h;obtain⟨u,c,rfl,d,rc⟩:=Cv.two r;cases (show c= .ref p from rc);exact UE (λus r=>lB r) I d ty hp e λtk=>⟨.bl b,H,I.tok tk,rfl,q⟩
theorem ZB{as:List AE}:∀{us:List AB},Cv (as.map V.ref) us->us=as.map BD:=by
 induction as with
 |nil=>intro us r;rw[Dl]at r;cases r;rfl
 |cons b bs d=>
  intro us r;rw[Bf]at r;cases r with
  |cons c a=>
   cases (show _=BD b from c);rw[d a,Bf]
theorem Qy(K:AF)(d:X.K=K):FE X (.builtin "isinstance") (λxs H Q=>∃(x:V) (p:AE) (t:AB) (b:Bool) (as:List AE),xs=[x,.ref p]/\H p=some (.tup (as.map V.ref))/\Jl K H x t/\DE K t (as.map BD)=some b/\Q (.bl b) H):=by
 subst d;intro pZ s σ H xs us Q I r h;obtain⟨x,p,t,b,as,rfl,hp,ty,e,q⟩:=h;obtain⟨u,a,rfl,c,rc⟩:=Cv.two r;cases (show a= .ref p from rc);exact UE (λus r=>ZB r) I c ty hp e λtk=>⟨.bl b,H,I.tok tk,rfl,q⟩
end
section
variable{X:Cx}
theorem OK(hc:X.calm=true):FE X (.builtin "sum") (λxs H Q=>∃(p:AE) (ns:List Int),xs=[.ref p]/\H p=some (.lst (ns.map V.int))/\(∀j,j<ns.length->InLong (ns.getD j 0)/\InLong (preSum (λi=>ns.getD i 0) (j+1)))/\Q (.int (preSum (λi=>ns.getD i 0) ns.length)) H):=by
 intro pZ s σ H xs us Q I r h;obtain⟨p,ns,rfl,hp,x,q⟩:=h;obtain⟨u,rfl,l⟩:=Cv.one r;cases (show u= .ref p from l);obtain⟨a,g,pl,_⟩:=I.list (Cj.of hp);have c:=I.hok.lt hp;have hne:p≠s.heap.objs.size:=BE c;have f:a.length=ns.length:=by rw[<-g.length,Ay]
 refine call_sum_walk (OO pl.isList ?_);refine⟨s.heap.objs.size,_,_,_,_,_,λi=>ns.getD i 0,rfl,Walks.list (A:=X.A.in1) (I.ok.hd hc) s.heap.objs.size p hne a.toArray,⟨⟨_,Bo _ rfl,rfl,rfl⟩,pl.isList.push _⟩,λb hb=>?_,λi v m=>?_,λj w=>x j (by simpa [f]using w),λh' tk t' n=>?_⟩
 ·rw[JM];rcases AU.mp hb with e|e
  ·rw[e];exact Hw _
  ·rw[AM.mp e];exact ED c
 ·have d:a[i]?=some v:=by simpa using m
  have hi:i<ns.length:=by rw[<-f];exact(AO.mp d).1
  obtain⟨u,k,t,e⟩:=g.get (show(ns.map V.int)[i]?=some (V.int (ns.getD i 0))by rw[AT,AL,Az hi];rfl);rw[d]at k;cases k;exact⟨t,e⟩
 ·have en:a.toArray.size=ns.length:=by simp[f]
  rw[en];exact⟨.int _,H,I.kept (t':=tk) λb o e=>n b o (λz=>by
   have:b=s.heap.objs.size:=by simpa using z
   exact DZ _ (this ▸ Bu e)) (AK _ e),⟨_,rfl⟩,q⟩
end
section
variable{X:Cx}{tg:Expr}
end
structure tO(X:Cx)(scope:Scope)(x0:Bc):Prop where
 kind:scope.kind= .function
 clos:closureFor scope X.env=IX (SN scope.names X.env)
 cell1:∀y∈scope.names,y.2= .cell->y.1=x0
 notf:∀y∈scope.names,y.2= .free->y.1≠x0
 own:∀n cl,cellsFrom n scope.names cl=(x0,n)::cl
 psh:∀h:Ct,pushCells h scope.names=h.push {cls:=.type "cell",data:=.cell none}
 names:∀y∈scope.names,y.2= .local->scope.names.lookup y.1=some .local
 free:∀y∈scope.names,y.2= .free->(X.env.cells.lookup y.1).isSome=true
section
variable{x0:Bc}{X:Cx}{scope:Scope}{ts xs:List Bc}{js:List Nat}{target iter elt:Expr}{ifs:List Expr}{wi:TI}{g:TG}{tif:TT}{te:TE}{pos:FX}
end
def dJ(K:AF)(l:AE):It:=⟨λi H=>∃xs x,Cj K H l xs/\xs[i]?=some x,λi H v H'=>∃T x,v= .ref T/\H T=none/\H'=upd H T (.tup [.int i,x])/\∀xs,Cj K H l xs->xs[i]?=some x,λi H=>∃xs,Cj K H l xs/\xs.length=i,false⟩
theorem bQ{P:Bq}{w:BU}{K:AF}{C:List Expr}{x1}{pos:FX}(l it e:Nat)(he:e=it+1):
  dH P w K (.Tuple C x1 pos) (dJ K l) [it,e] e (λi h=>(∃old,IsEnum h e it (i:Nat) old)/\h.IsListIter it l i) where
 mem:=by simp
 obj:=λi h st c hc=>by
  obtain⟨⟨old,s1⟩,s2⟩:=st;simp only[AU,BL,or_false]at hc;rcases hc with rfl|rfl
  ·obtain⟨o,e,c,d⟩:=s2;exact⟨o,e,λv z=>by rw[d]at z;cases z⟩
  ·exact⟨_,s1,λv z=>by cases z⟩
 keep:=λi h h' st k=>by
  obtain⟨⟨old,s1⟩,s2⟩:=st;exact⟨⟨old,k e (by simp) _ s1⟩,s2.at λo e=>k it (by simp) o e⟩
 item:=by
  intro X B hw Q hc i pZ s σ H E I hf st hg;subst B hw Q;obtain⟨⟨old,s1⟩,s2⟩:=st;have hc:=hc.resolve_right λz=>ER (show false=true from z.1);have m:e≠it:=by rw[he];exact Nat.succ_ne_self it
  obtain⟨xs,x,D,hx⟩:=hg;obtain⟨a,F,p,hz⟩:=I.list D;obtain⟨u,T,ru⟩:=F.get hx;have j:l≠it:=λz=>by
   obtain⟨o,R,S,_⟩:=s2;obtain⟨o2,g,f,_⟩:=p.isList;rw[z,R]at g;cases g;rw[S]at f;injection f with f;exact wo f Aa
  have N:e≠l:=λz=>by
   obtain⟨o2,g,f,_⟩:=p.isList;rw[<-z,show s.heap.get? e=_ from s1]at g;cases g;injection f with f;exact wo f Aa
  have J:i<a.toArray.size:=by
   rw[Bs];exact(AO.mp T).1
  refine wpAny_pyNext_enum_itemD (Draws.list (A:=X.A.in1) (I.ok.hd hc) it l j a.toArray) s1 ⟨s2,p.isList⟩ J m (by simp[m,N]) λv h' tk B Z Y V z4 U=>?_;have G:v=u:=by
   have h1:a[i]?=some v:=by simpa using B
   rw[T]at h1;exact(Ba h1).symm
  subst G;refine⟨_,rfl,wpAny_letOwnedTupleGo_enum Z λg2 y1 sb=>?_⟩;have r:e<s.heap.objs.size:=Bu s1;have L:it<s.heap.objs.size:=by obtain⟨o,q,_⟩:=s2;exact Bu q
  have I1:Cr X pZ σ (upd H s.heap.objs.size (.tup [.int i,x])) {s with heap:=s.heap.push {cls:=.type "tuple",data:=.seq #[.int i tk,v]},toks:=tk+1}:=I.laid (t':=tk+1) (λb u q=>AK _ q) (AX _) ⟨by rw[DJ];simp,[.int i tk,v],.cons ⟨_,rfl⟩ (.cons ru .nil),⟨_,Bo _ rfl,rfl,_,rfl⟩⟩;have M:∀b∈ [it,e],b<s.heap.objs.size:=λb hb=>by
   rcases AU.mp hb with q|q
   ·rw[q];exact L
   ·rw[AM.mp q];exact r
  have n:∀b∈ [it,e],RC X pZ (upd H s.heap.objs.size (.tup [.int i,x])) b:=λb hb=>by
   obtain⟨f0,f1⟩:=hf b hb;exact⟨by rw[Bb (BE (M b hb))];exact f0,f1⟩
  have I2:Cr X pZ σ (upd H s.heap.objs.size (.tup [.int i,x])) {s with heap:=g2,toks:=tk+1}:=Cr.turnedL (s:={s with heap:=s.heap.push {cls:=.type "tuple",data:=.seq #[.int i tk,v]},toks:=tk+1}) (t':=tk+1) I1 (λb o hb q=>?_) n
  ·refine⟨.ref s.heap.objs.size,_,I2,rfl,⟨s.heap.objs.size,x,rfl,I.fresh,rfl,λys hy=>by rw[I.list_inj hy D];exact hx⟩,⟨⟨_,y1⟩,?_⟩,λb hb=>(n b hb).1⟩;exact Y.1.at λo q=>(sb.2 _ (CI m)).trans q
  ·have O:b≠it:=λz=>hb (by simp[z]);have y:b≠e:=λz=>hb (by simp[z]);rw[sb.2 _ y];by_cases t:b=s.heap.objs.size
   ·subst t;rw[Bo _ rfl]at q;rw[V];exact q
   ·exact U _ _ y O ((HD _ _ _ t).symm.trans q)
 done:=by
  intro X B hw Q hc i pZ s σ H E I hf st hg;subst B hw Q;obtain⟨⟨old,s1⟩,s2⟩:=st;have hc:=hc.resolve_right λz=>ER (show false=true from z.1);obtain⟨xs,D,hi⟩:=hg;obtain⟨a,F,p,hz⟩:=I.list D;have hl:=F.length;have hn:a.toArray.size=i:=by rw[Bs];lia
  have j:l≠it:=λz=>by
   obtain⟨o,R,S,_⟩:=s2;obtain⟨o2,g,f,_⟩:=p.isList;rw[z,R]at g;cases g;rw[S]at f;injection f with f;exact wo f Aa
  subst hn;exact wpAny_pyNext_enum_endD (Draws.list (A:=X.A.in1) (I.ok.hd hc) it l j a.toArray) s1 ⟨s2,p.isList⟩ λh' eb=>⟨rfl,Cr.turnedL (t':=s.toks) I (λb o hb q=>eb b o (λz=>hb (by simp[z])) q) hf⟩
 self:=λ_ _ _ _ _ st h=>by
  obtain⟨⟨old,s1⟩,s2⟩:=st;exact wpAny_pyIter_enum s1 h
section
variable{X:Cx}
def qx(K:AF)(te:TE):TI:=λσ H R=>te σ H λv H1=>∃l,v= .ref l/\(∃xs,Cj K H1 l xs)/\R (dJ K l) H1
theorem ae{b:List Expr}{o}{tpos:FX}{d:Expr}{te:TE}{p pos:FX}(hg:Gl X "enumerate")(hm:X.mg "enumerate"=none)(x:PE X d te)(hs:BW [d] X.env=(false,Ea d X.env)::BW [] X.env:=by rfl)(i: (Fq pos (BW [] X.env)).any (·.1)=false:=by rfl):PI X (.Tuple b o tpos) (.Call (.Name "enumerate" p) [d] [] pos) (qx X.K te):=by
 intro pZ s σ H R I h;refine CQ (Ku I hg hm (u:=.type "enumerate") Aa ?_ Aa Aa);refine EL (Ei (Ax x AA hs pos pZ s σ H (λxs H1=>match xs with|[v]=>∃l,v= .ref l/\(∃xs,Cj X.K H1 l xs)/\R (dJ X.K l) H1|_=>False) I h) λus s1 j=>?_) hs i;obtain⟨vs,H1,e,f,g⟩:=j
 match vs,g,f with
 |[v],g,f=>
 obtain⟨l,rfl,⟨xs,w⟩,q⟩:=g;obtain⟨u,rfl,r⟩:=Cv.one f;cases (show u= .ref l from r);obtain⟨t,A,pl,hz⟩:=e.list w;refine call_enumerate_list pl.isList λh' k n z m=>?_;have y:Cr X pZ σ H1 {s1 with heap:=h',toks:=s1.toks}:=e.kept (t':=s1.toks) m;refine wpAny_pyIter_enum k ?_;refine⟨s1.heap.objs.size+1,_,_,dJ X.K l,H1,rfl,y,bQ l s1.heap.objs.size _ rfl,⟨⟨_,k⟩,n⟩,λc hc=>?_,q⟩;have a:s1.heap.objs.size<=c:=by
  rcases AU.mp hc with q|q
  ·rw[q];exact AX _
  ·rw[AM.mp q];exact Da _
 exact e.fpOk a (e.hok.fresh a)
end
section
variable{X:Cx}
end
structure HF(P:Bq)(w:BU)(K:AF)(mg:Bc->Option AB)(base:Ct)(k:Nat)(m:Bc)(C:AE)(sp:Sp):Prop where
 c:NV K C
 ex:∃f fd ps,hX K C m f/\He P w K mg base Zr k f fd ps sp/\Er K fd ps []
section
variable{X:Cx}{k:Nat}{m:Bc}{pos apos:FX}{e o:Expr}{es:List Expr}{ta:TE}{t:TA}
def ip(P:Bq)(w:BU)(K:AF)(mg:Bc->Option AB)(base:Ct)(k:Nat)(m:Bc)(ta:TE)(t:TA):TE:=λσ H Q=>ta σ H λx H1=>∃a C dx fs sp,x= .ref a/\H1 a=some (.ins C dx fs)/\fs.lookup m=none/\HF P w K mg base k m C sp/\t σ H1 λvs H2=>sp (x::vs) H2 Q E0
theorem JB{P:Bq}{w:BU}{K:AF}{mg:Bc->Option AB}{base:Ct}(G:X.prog=P)(hw:X.w=w)(J:X.K=K)(hg:X.mg=mg)(L:X.base=base){pl:Sem Bool}(E:PE X o ta)(B:FD k X.A)(hx:Kz Zr X E0)(ha:PA X (e::es) t)(g:BW (e::es) X.env=(false,Ea e X.env)::BW es X.env:=by rfl)(i: (Fq pos (BW es X.env)).any (·.1)=false:=by rfl)(z:Ea (.Call (.Attribute o m apos) (e::es) [] pos) X.env=(do
   let j <-Ea o X.env
   standAt apos.atName
   let (f,first) <-holding [j] (Vq j m pl)
   callWith pos f first (Fq pos (BW (e::es) X.env)) (NB pos (Ib [] X.env))):=by rfl):
  PE X (.Call (.Attribute o m apos) (e::es) [] pos) (ip P w K mg base k m ta t):=by
 subst G hw J hg L;intro pZ s σ H Q I h;refine IZ (pl:=pl) (Ei (E pZ s σ H _ I h) λu s1 d=>?_) z;obtain⟨x,H1,p,v,a,C,dx,fs,sp,ex,M,l,D,q⟩:=d;subst ex;obtain rfl:u=BD a:=v;obtain⟨f,fd,ps,hm,F,hb⟩:=D.ex;refine LY p M D.c hm l ?_;refine Lq (first:=[.ref a]) (h₀:=X.base) I.ok.mod.kin hm.kp (Ei (ha pos pZ s1 σ H1 _ p q) λus s2 b=>?_) g i
 obtain⟨vs,H2,n,r,y⟩:=b;refine⟨n.kIn,?_⟩;exact Ub (us:=.ref a::us) (vs:=.ref a::vs) (dvs:=[]) (ds:=[]) F B hb .nil hx n (.cons rfl r) (by rw[CA];exact y)
theorem DS{P:Bq}{w:BU}{K:AF}{mg:Bc->Option AB}{base:Ct}(p:X.prog=P)(hw:X.w=w)(r:X.K=K)(hg:X.mg=mg)(t:X.base=base){pl:Sem Bool}(n:PE X o ta)(j:FD k X.A)(hx:Kz Zr X E0)(i:Ea (.Call (.Attribute o m apos) [] [] pos) X.env=(do
   let e <-Ea o X.env
   standAt apos.atName
   let (f,first) <-holding [e] (Vq e m pl)
   callWith pos f first (Fq pos (BW [] X.env)) (NB pos (Ib [] X.env))):=by rfl):
  PE X (.Call (.Attribute o m apos) [] [] pos) (ip P w K mg base k m ta Yl):=by
 subst p hw r hg t;intro pZ s σ H Q I h;refine IZ (pl:=pl) (Ei (n pZ s σ H _ I h) λu s1 b=>?_) i;obtain⟨x,H1,d,g,a,C,dx,fs,sp,ex,v,l,D,q⟩:=b;subst ex;obtain rfl:u=BD a:=g;obtain⟨f,fd,ps,hm,F,hb⟩:=D.ex;refine LY d v D.c hm l ?_;exact Ke (first:=[.ref a]) d.kIn hm.kp (Ub (us:=[.ref a]) (vs:=[.ref a]) (dvs:=[]) (ds:=[]) F j hb .nil hx d (.cons rfl .nil) q)
def pw(C:AE):TE:=λ_ H Q=>∀x dx,H x=none->H dx=none->dx≠x->Q (.ref x) (upd (upd H dx (.own x)) x (.ins C dx []))
theorem Le{C:AE}{x:Bc}{p:FX}(makes:OQ X.K C=true)(init:CF X.K (.ref C) "__init__"=some (some (.builtin "object.__init__")))(kp:Hg X.K (.ref C)=true)(hg:Gl X x)(hm:X.mg x=some (.ref C))(a: (x==("__debug__" :Bc))=false:=by decide):PE X (.Call (.Name x p) [] [] pos) (pw C):=by
 intro pZ s σ H Q I h;refine CQ (Qj I hg hm ?_ a);refine Ke I.kIn kp (RD ?_);have i:=Cr.made (C:=C) I;have f:=h (s.heap.objs.size+1) s.heap.objs.size (I.hok.fresh (Da _)) (I.hok.fresh (AX _)) (BE (Hw _));have Y:=WM (M:=model X.prog X.w) I.kIn makes;refine gJ I.kIn makes init (λself=>PySem.W.Looks.of_pure (PySem.W.oi_bind self)) ?_;have g: ((s.heap.push CD).push (CS C s.heap.objs.size)).get? (s.heap.objs.size+1)=some (CS C s.heap.objs.size):=by
  have:=Bo (s.heap.push CD) (o:=CS C s.heap.objs.size) rfl
  rwa [JM]at this
 have d:PySem.W.Looks (model X.prog X.w) ((s.heap.push CD).push (CS C s.heap.objs.size)) (typeOf (.ref (s.heap.objs.size+1))) (.ref C):=(PySem.W.Looks.ld g).andThen .now;have c:PySem.W.Looks (model X.prog X.w) ((s.heap.push CD).push (CS C s.heap.objs.size)) (isInstance (.ref (s.heap.objs.size+1)) (.type "object")) true:=d.andThen (Y.top.keeps λb o e=>AK _ (AK _ e));refine codeAny_call_builtin PySem.W.oi_plain PySem.W.entry_oi (@PySem.W.check_slot (model X.prog X.w) _ _ _ "object.__init__" "object" "__init__" (.ref (s.heap.objs.size+1)) [] [] _ PySem.W.oi_kind PySem.W.oi_split c (PySem.W.oi_args (.ref (s.heap.objs.size+1))) ?_);rw[PySem.W.oi_run];exact Bx (And.intro rfl ⟨.ref (s.heap.objs.size+1),_,i,rfl,f⟩)
theorem Zg:FE X (.type "str") (λxs H Q=>∃z,xs=[.str z]/\Q (.str z) H):=by
 intro pZ s σ H xs us Q I r h;obtain⟨z,rfl,q⟩:=h;obtain⟨u,rfl,t,rfl⟩:=Ig r;exact PySem.P.str_of_str ⟨.str _,H,I,⟨_,rfl⟩,q⟩
end
structure Wk(J:It)(H1:Hp)(xs:List V):Prop where
 go:∀H i,Be H1 H->i<xs.length->J.go i H
 stop:∀H i,Be H1 H->i=xs.length->J.stop i H
 yld:∀H i x H',Be H1 H->i<xs.length->J.yld i H x H'->H'=H/\xs[i]?=some x
theorem Wk.list{K:AF}{H1:Hp}{l:AE}{xs:List V}(h:Cj K H1 l xs):Wk (qM K l) H1 xs where
 go:=λH i s hi=>⟨_,xs[i],s.seq h,Az hi⟩
 stop:=λH i s hi=>⟨_,s.seq h,by lia⟩
 yld:=λH i x H' s hi y=>⟨y.1,y.2 _ (s.seq h)⟩
def iP(z:Bc):List V:=z.cps.toList.map λc=>V.str ⟨#[c]⟩
theorem Ta(z:Bc): (iP z).length=z.length:=by simp[iP,PySem.Str.length]
theorem Wk.str{H1:Hp}(z:Bc):Wk (tN z) H1 (iP z) where
 go:=λH i s hi=>by rw[Ta]at hi;exact hi
 stop:=λH i s hi=>by rw[Ta]at hi;exact Vg hi.symm
 yld:=λH i x H' s hi y=>by
  obtain⟨e,c,hc,rfl⟩:=y;refine⟨e,?_⟩;have a:z.cps.toList[i]?=some c:=by rw[Array.getElem?_toList];exact hc
  rw[iP,AT,a];rfl
section
variable{J:It}{H1:Hp}{xs:List V}{σ0:St}{g:TG}{tif:TT}{te:TE}{Q:VK}
theorem kL(W:Wk J H1 xs)(hz:xs.length<=1000)(p:V->Bool)(f:V->V)(hs:∀x∈xs,∀(H:Hp) (R:Bool->V->Hp->Prop),Be H1 H->(∀H',Be H H'->p x=true->R true (f x) H')->(∀H',Be H H'->p x=false->R false .non H')->g x j H λd H2=>Sub j d/\tif d H2 λb o=>if b=true then te d o (R true)else R false .non o)(hd:∀D H',H1 D=none->Be H1 H'->H' D=some (.lst ((xs.filter p).map f))->Q (.ref D) H'):QJ J H1 j g tif te Q:=by
 intro D l;refine⟨λi m ys H=>m=xs.length - i/\i<=xs.length/\ys=((xs.take i).filter p).map f/\Be H1 H/\H D=some (.lst ys),⟨xs.length,by simp,Ci _,rfl,By l,AC⟩,?_⟩;rintro i m ys H ⟨rfl,hi,rfl,sm,a⟩;refine⟨a,?_⟩;by_cases c:i<xs.length
 ·refine .inr ⟨W.go H i sm c,λx H' y=>?_⟩;obtain⟨e,hx⟩:=W.yld H i x H' sm c y;subst e;have n:xs.take (i+1)=xs.take i++[x]:=by rw[Vi,hx];rfl
  have q: (((xs.take i).filter p).map f).length<sizeLine:=by
   rw[Ay];refine DC (AJ (Fn _ _) ?_);rw[BY]
   lia
  have key:=hs x (AY hx) H' (λb v h=>if b=true then h D=some (.lst (((xs.take i).filter p).map f))/\(((xs.take i).filter p).map f).length<sizeLine/\∃k,k<xs.length - i/\(k=xs.length - (i+1)/\i+1<=xs.length/\((xs.take i).filter p).map f++[v]=((xs.take (i+1)).filter p).map f/\Be H1 (upd h D (.lst (((xs.take i).filter p).map f++[v])))/\upd h D (.lst (((xs.take i).filter p).map f++[v])) D=some (.lst (((xs.take i).filter p).map f++[v])))
   else ∃k,k<xs.length - i/\(k=xs.length - (i+1)/\i+1<=xs.length/\((xs.take i).filter p).map f=((xs.take (i+1)).filter p).map f/\Be H1 h/\h D=some (.lst (((xs.take i).filter p).map f)))) sm
   (λh s4 hp=>by
    rw[wm rfl];refine⟨s4 _ _ a,q,xs.length - (i+1),by lia,rfl,c,?_,(sm.trans s4).put l,AC⟩;rw[n,Ep,EE hp,Ck];rfl)
   (λh s4 hp=>by
    rw[wk Bj];refine⟨xs.length - (i+1),by lia,rfl,c,?_,sm.trans s4,s4 _ _ a⟩;rw[n,Ep,Gi (by rw[hp];exact Bj),List.filter_nil,CA])
  exact key
 ·have e:i=xs.length:=by lia
  subst e;refine .inl ⟨W.stop H _ sm rfl,hd D H l sm ?_⟩;rw[Dh]at a;exact a
theorem HB(W:Wk J H1 xs)(hz:xs.length<=1000)(p:Nat->Bool)(f:Nat->V)(hs:∀(j:Nat) (x:V),xs[j]?=some x->∀(H:Hp) (R:Bool->V->Hp->Prop),Be H1 H->(∀H',Be H H'->p j=true->R true (f j) H')->(∀H',Be H H'->p j=false->R false .non H')->g x k H λd H2=>Sub k d/\tif d H2 λb q=>if b=true then te d q (R true)else R false .non q)(hd:∀D H',H1 D=none->Be H1 H'->H' D=some (.lst (((Bm xs.length).filter p).map f))->Q (.ref D) H'):QJ J H1 k g tif te Q:=by
 intro D n;refine⟨λi m ys H=>m=xs.length - i/\i<=xs.length/\ys=((Bm i).filter p).map f/\Be H1 H/\H D=some (.lst ys),⟨xs.length,by simp,Ci _,rfl,By n,AC⟩,?_⟩;rintro i m ys H ⟨rfl,hi,rfl,sm,c⟩;refine⟨c,?_⟩;by_cases a:i<xs.length
 ·refine .inr ⟨W.go H i sm a,λx H' y=>?_⟩;obtain⟨e,hx⟩:=W.yld H i x H' sm a y;subst e;have o:Bm (i+1)=Bm i++[i]:=List.range_succ;have r: (((Bm i).filter p).map f).length<sizeLine:=by
   rw[Ay];refine DC (AJ (Fn _ _) ?_);rw[BB]
   lia
  have key:=hs i x hx H' (λb v h=>if b=true then h D=some (.lst (((Bm i).filter p).map f))/\(((Bm i).filter p).map f).length<sizeLine/\∃l,l<xs.length - i/\(l=xs.length - (i+1)/\i+1<=xs.length/\((Bm i).filter p).map f++[v]=((Bm (i+1)).filter p).map f/\Be H1 (upd h D (.lst (((Bm i).filter p).map f++[v])))/\upd h D (.lst (((Bm i).filter p).map f++[v])) D=some (.lst (((Bm i).filter p).map f++[v])))
   else ∃l,l<xs.length - i/\(l=xs.length - (i+1)/\i+1<=xs.length/\((Bm i).filter p).map f=((Bm (i+1)).filter p).map f/\Be H1 h/\h D=some (.lst (((Bm i).filter p).map f)))) sm
   (λh s4 hp=>by
    rw[wm rfl];refine⟨s4 _ _ c,r,xs.length - (i+1),by lia,rfl,a,?_,(sm.trans s4).put n,AC⟩;rw[o,Ep,EE hp,Ck];rfl)
   (λh s4 hp=>by
    rw[wk Bj];refine⟨xs.length - (i+1),by lia,rfl,a,?_,sm.trans s4,s4 _ _ c⟩;rw[o,Ep,Gi (by rw[hp];exact Bj),List.filter_nil,CA])
  exact key
 ·have e:i=xs.length:=by lia
  subst e;refine .inl ⟨W.stop H _ sm rfl,hd D H n sm ?_⟩;exact c
theorem Dc(W:Wk J H1 xs)(hz:xs.length<=1000)(f:Nat->V)(hs:∀(j:Nat) (x:V),xs[j]?=some x->∀(H:Hp) (R:VK),Be H1 H->(∀H',Be H H'->R (f j) H')->g x e H λd H2=>Sub e d/\te d H2 R)(hd:∀D H',H1 D=none->Be H1 H'->H' D=some (.lst ((Bm xs.length).map f))->Q (.ref D) H'):QJ J H1 e g WV te Q:=by
 refine HB W hz (λ_=>true) f (λj x hx H R s h1 _=>?_) (λD H' a b c=>hd D H' a b ?_)
 ·exact hs j x hx H (R true) s λH' s'=>h1 H' s' rfl
 ·rw[RL.mpr (λ_ _=>rfl)]at c;exact c
theorem Ry(W:Wk J H1 xs)(hz:xs.length<=1000)(f:V->V)(hs:∀x∈xs,∀(H:Hp) (R:VK),Be H1 H->(∀H',Be H H'->R (f x) H')->g x e H λd H2=>Sub e d/\te d H2 R)(hd:∀D H',H1 D=none->Be H1 H'->H' D=some (.lst (xs.map f))->Q (.ref D) H'):QJ J H1 e g WV te Q:=by
 refine kL W hz (λ_=>true) f (λx hx H R s h1 _=>?_) (λD H' a b c=>hd D H' a b ?_)
 ·have k:=hs x hx H (R true) s λH' s'=>h1 H' s' rfl;exact k
 ·rw[RL.mpr (λ_ _=>rfl)]at c;exact c
end
theorem LQ{X:Cx}(K:AF)(b:X.K=K){e:Expr}{f:Bc}{pos:FX}{ta:TE}(a:PE X e ta)(hb:Hn e f X.env (Ea e X.env)=Ea e X.env):PE X (.Attribute e f pos) (rp K ta f):=by
 subst b;exact BF a hb
def pL:R2:=λx y H Q=>∃p q xs,x= .ref p/\y= .ref q/\H p=some (.lst xs)/\H q=some (.lst [])/\Q (.bl xs.isEmpty) H
section
variable{X:Cx}
theorem al(i:X.A.units+64<Va):MI X (DL .Eq) pL:=by
 intro pZ s σ H x y v u Q I g f h;obtain⟨p,q,xs,rfl,rfl,hp,e,k⟩:=h;cases g;cases f;cases xs with
 |nil=>
  refine Ug i pZ s σ H (.ref p) (.ref q) _ _ Q I rfl rfl ⟨.list [],.list [],.lst (Cj.of hp) .nil,.lst (Cj.of e) .nil,Aa,Aa,?_⟩;exact k
 |cons y ys=>
  obtain⟨_,b,n,r,l,j⟩:=I.lstM hp;obtain⟨_,a,n2,t,d,c⟩:=I.lstM e;have m:a.length=0:=d.symm;have o:b.length=ys.length+1:=l.symm;refine PySem.SeqAt.eq_list_lengthsAt ⟨_,j,rfl,n,rfl⟩ ⟨_,c,rfl,n2,rfl⟩ ?_ (by lia) ⟨.bl _,H,I,rfl,k⟩;rw[Bs,Bs,o,m];rfl
end
section
variable{κ:Type} [DecidableEq κ]
def IR(kvs:List (κ×V))(k:κ):Option V:=(kvs.find? λa=>decide (a.1=k)).map (·.2)
def JQ(kvs:List (κ×V))(k:κ)(v:V):List (κ×V):=if (kvs.any λa=>decide (a.1=k))=true then kvs.map (λa=>if a.1=k then (a.1,v)else a)else kvs++[(k,v)]
theorem PB{p:κ×V}{r:List (κ×V)}{k:κ}(e:p.1=k):IR (p::r) k=some p.2:=by simp[IR,Ic,e]
theorem PD{p:κ×V}{r:List (κ×V)}{k:κ}(e:¬p.1=k):IR (p::r) k=IR r k:=by simp[IR,Ic,e]
theorem Tu(k:κ):∀kvs:List (κ×V),(kvs.any λa=>decide (a.1=k))=(IR kvs k).isSome
 |[]=>rfl
 |p::r=>by
  rw[Jr];by_cases e:p.1=k
  ·simp only[PB e,wg e,Bool.true_or,Option.isSome_some]
  ·rw[PD e,wh e,Bool.false_or];exact Tu k r
theorem Nm(kvs:List (κ×V))(k:κ)(v:V): (JQ kvs k v).length<=kvs.length+1:=by
 unfold JQ;split
 ·rw[Ay];lia
 ·rw[AZ,Cd,OU];lia
theorem je{kvs:List (κ×V)}{k:κ}(v:V)(h:IR kvs k=none):JQ kvs k v=kvs++[(k,v)]:=by
 unfold JQ;rw[Tu,h];exact wk Aa
theorem Lo.isSome_eq{o:Option V}{u:Option AB}(r:Lo o u):o.isSome=u.isSome:=by
 cases o with
 |none=>cases u with
  |none=>rfl
  |some _=>exact(show False from r).elim
 |some _=>cases u with
  |none=>exact(show False from r).elim
  |some _=>rfl
theorem Lo.getD{o:Option V}{u:Option AB}{d:V}{d':AB}(r:Lo o u)(rd:Dd d d'):Dd (o.getD d) (u.getD d'):=by
 cases o with
 |none=>cases u with
  |none=>exact rd
  |some _=>exact(show False from r).elim
 |some _=>cases u with
  |none=>exact(show False from r).elim
  |some _=>exact r
theorem KV.val{kvs:List (κ×V)}{vs:List (κ×AB)}(r:KV kvs vs)(k:κ):Lo (IR kvs k) (valueAt vs k):=by
 unfold KV at r;induction r with
 |nil=>exact Dz
 |@cons p q ps qs h t c=>
  obtain⟨h1,h2⟩:=h;by_cases e:p.1=k
  ·have a:q.1=k:=h1.symm.trans e;have b:valueAt (q::qs) k=some q.2:=by simp[valueAt,Ic,a]
   rw[PB e,b];exact h2
  ·have a:¬q.1=k:=λz=>e (h1.trans z);have b:valueAt (q::qs) k=valueAt qs k:=by simp[valueAt,Ic,a]
   rw[PD e,b];exact c
theorem KV.any{kvs:List (κ×V)}{vs:List (κ×AB)}(r:KV kvs vs)(k:κ): (kvs.any λa=>decide (a.1=k))=vs.any λa=>decide (a.1=k):=by
 unfold KV at r;induction r with
 |nil=>rfl
 |cons h t b=>rw[Jr,Jr,b,h.1]
theorem KV.repl{kvs:List (κ×V)}{vs:List (κ×AB)}(r:KV kvs vs)(k:κ){y:V}{u:AB}(b:Dd y u):
  KV (kvs.map λa=>if a.1=k then (a.1,y)else a) (vs.map λa=>if a.1=k then (a.1,u)else a):=by
 unfold KV at r ⊢;induction r with
 |nil=>exact .nil
 |@cons p q ps qs h t c=>
  rw[Bf,Bf];refine .cons ?_ c;obtain⟨h1,h2⟩:=h;by_cases e:p.1=k
  ·rw[wm e,wm (h1.symm.trans e)];exact⟨h1,b⟩
  ·rw[wk e,wk (λz=>e (h1.trans z))];exact⟨h1,h2⟩
theorem KV.put{kvs:List (κ×V)}{vs:List (κ×AB)}(r:KV kvs vs)(k:κ){y:V}{u:AB}(a:Dd y u):KV (JQ kvs k y) (stored vs k u):=by
 unfold JQ stored;rw[r.any k];by_cases e: (vs.any λb=>decide (b.1=k))=true
 ·rw[wm e,wm e];exact r.repl k a
 ·rw[wk e,wk e];exact Paired.snoc r ⟨rfl,a⟩
theorem KV.length{kvs:List (κ×V)}{vs:List (κ×AB)}(r:KV kvs vs):kvs.length=vs.length:=XW r
end
theorem UC{P:Bq}{w:BU}{k:Gk}{u:AB}(r:Dd (kV k) u): (DY P w).is k u=true:=by
 cases k with
 |inl i=>obtain⟨t,e⟩:=(show ∃t,u=EA i t from r);subst e;exact aG P w i t
 |inr x=>obtain⟨t,e⟩:=(show ∃t,u=KB x t from r);subst e;exact Nj P w x t
theorem Xq{P:Bq}{w:BU}:∀{ks:List Gk} {us:List AB},Cv (ks.map kV) us->ItemsAre (DY P w) ks us
 |[],_,r=>by rw[Dl]at r;cases r;exact .nil
 |k::ks,_,r=>by
  rw[Bf]at r;cases r with
  |cons h t=>exact .cons (UC h) (Xq t)
abbrev KT(H:Hp):List (List Gk×V)->List (List Gk×AE×AB)->Prop:=Paired λp q=>p.1=q.1/\H q.2.1=some (.tup (p.1.map kV))/\Dd p.2 q.2.2
theorem KT.val{H:Hp}{kvs:List (List Gk×V)}{xs:List (List Gk×AE×AB)}(r:KT H kvs xs)(k:List Gk):Lo (IR kvs k) ((atKey xs k).map (·.2)):=by
 induction r with
 |nil=>exact Dz
 |@cons p q ps qs h t c=>
  obtain⟨h1,_,h2⟩:=h;by_cases e:p.1=k
  ·have a:q.1=k:=h1.symm.trans e;have b:atKey (q::qs) k=some q.2:=by simp[atKey,Ic,a]
   rw[PB e,b];exact h2
  ·have a:¬q.1=k:=λz=>e (h1.trans z);have b:atKey (q::qs) k=atKey qs k:=by simp[atKey,Ic,a]
   rw[PD e,b];exact c
theorem KT.repl{H:Hp}{kvs:List (List Gk×V)}{xs:List (List Gk×AE×AB)}(r:KT H kvs xs)(k:List Gk){y:V}{u:AB}(b:Dd y u):
  KT H (kvs.map λa=>if a.1=k then (a.1,y)else a) (xs.map (putAt k u)):=by
 induction r with
 |nil=>exact .nil
 |@cons p q ps qs h t c=>
  rw[Bf,Bf];refine .cons ?_ c;obtain⟨h1,h2,h3⟩:=h;unfold putAt;by_cases e:p.1=k
  ·rw[wm e,wm (h1.symm.trans e)];exact⟨h1,h2,b⟩
  ·rw[wk e,wk (λz=>e (h1.trans z))];exact⟨h1,h2,h3⟩
theorem KT.put{H:Hp}{kvs:List (List Gk×V)}{xs:List (List Gk×AE×AB)}(r:KT H kvs xs)(k:List Gk){b:AE}{y:V}{u:AB}(hb:H b=some (.tup (k.map kV)))(a:Dd y u):
  KT H (JQ kvs k y) (storedH xs k b u):=by
 have e: (kvs.any λc=>decide (c.1=k))=(atKey xs k).isSome:=by
  rw[Tu,(r.val k).isSome_eq,Option.isSome_map]
 unfold JQ storedH;rw[e];by_cases q: (atKey xs k).isSome=true
 ·rw[wm q,wm q];exact r.repl k a
 ·rw[wk q,wk q];exact Paired.snoc r ⟨rfl,hb,a⟩
theorem KT.keeps{H H':Hp}{kvs:List (List Gk×V)}{xs:List (List Gk×AE×AB)}(r:KT H kvs xs)(a:∀b ys,H b=some (.tup ys)->H' b=some (.tup ys)):KT H' kvs xs:=Paired.mapP r λ_ _ z=>⟨z.1,a _ _ z.2.1,z.2.2⟩
section
variable{P:Bq}{w:BU}{H:Hp}{h:Ct}{a:AE}
theorem oF{u:HO}(ok:Md P w H h)(e:Rd H a u):Dw P w H h a u:=e.ok ok
theorem XC{kvs:List (Gk×V)}(ok:Md P w H h)(e:Rd H a (.dK kvs)):kvs.length<=sizeLine/\(a==Gp)=false/\∃vs,KV kvs vs/\h.DictOf (DY P w) a vs:=show Dw P w H h a (.dK kvs)from oF ok e
theorem oV{kvs:List (Gk×V)}(ok:Md P w H h)(e:H a=some (.dK kvs)):kvs.length<=sizeLine/\(a==Gp)=false/\∃vs,KV kvs vs/\h.DictOf (DY P w) a vs:=XC ok (.inl e)
theorem UB{ks:List Gk}(ok:Md P w H h)(e:H a=some (.tup (ks.map kV))): (Vo (DY P w)).is h ks a:=by
 obtain⟨_,b,r,o,h1,h2,n,h3⟩:=(show Dw P w H h a (.tup (ks.map kV))from ok a _ e);exact⟨o,b.toArray,n,h1,h2,h3,by simpa using Xq r⟩
theorem XB{kvs:List (List Gk×V)}(ok:Md P w H h)(e:Rd H a (.dT kvs)):kvs.length<=sizeLine/\(a==Gp)=false/\∃xs,KT H kvs xs/\h.DictOfH (Vo (DY P w)) a xs:=by
 obtain⟨z,y,xs,r,o,es,g,h1,h2,h3,f,d⟩:=(show Dw P w H h a (.dT kvs)from oF ok e);refine⟨z,y,xs,r,o,es,g,h1,h2,h3,f,λx hx=>?_,d⟩;have all:∀{l:List (List Gk×V)} {m:List (List Gk×AE×AB)},KT H l m->∀x∈m,(Vo (DY P w)).is h x.1 x.2.1:=by
  intro l m q;induction q with
  |nil=>intro x hx;exact nomatch hx
  |@cons p q ps qs b t c=>
   intro x hx;rcases AU.mp hx with e|hx
   ·subst e;exact UB ok (by rw[<-b.1];exact b.2.1)
   ·exact c x hx
 exact all r x hx
theorem sM{kvs:List (List Gk×V)}(ok:Md P w H h)(e:H a=some (.dT kvs)):kvs.length<=sizeLine/\(a==Gp)=false/\∃xs,KT H kvs xs/\h.DictOfH (Vo (DY P w)) a xs:=XB ok (.inl e)
end
def Hf(H:Hp)(a:AE)(y:V)(r:Option V):Prop:=(∃kvs k,Rd H a (.dK kvs)/\y=kV k/\r=IR kvs k)\/∃kvs k b,Rd H a (.dT kvs)/\y= .ref b/\H b=some (.tup (k.map kV))/\r=IR kvs k
def bD(H:Hp)(a:AE)(y v:V)(H':Hp):Prop:=(∃kvs k,H a=some (.dK kvs)/\y=kV k/\kvs.length<sizeLine/\H'=upd H a (.dK (JQ kvs k v)))\/
 ∃kvs k b,H a=some (.dT kvs)/\y= .ref b/\H b=some (.tup (k.map kV))/\kvs.length<sizeLine/\H'=upd H a (.dT (JQ kvs k v))
theorem Hf.k{H:Hp}{a:AE}{kvs:List (Gk×V)}{k:Gk}(e:H a=some (.dK kvs)):Hf H a (kV k) (IR kvs k):=.inl ⟨kvs,k,.inl e,rfl,rfl⟩
theorem bD.k{H:Hp}{a:AE}{kvs:List (Gk×V)}{k:Gk}{v:V}(e:H a=some (.dK kvs))(b:kvs.length<sizeLine):bD H a (kV k) v (upd H a (.dK (JQ kvs k v))):=.inl ⟨kvs,k,e,rfl,b,rfl⟩
section
variable{X:Cx}{pZ:List (AE×Obj)}{σ:St}{H:Hp}{s:AG}{a:AE}{y v:V}{u r:AB}{o:Option V}{A:CH}{E:AB->AG->Prop}
theorem hJ{Q:AB->AG->Prop}(m:A.units+1<Va)(I:Cr X pZ σ H s)(g:Hf H a y (some v))(j:Dd y u)(h:∀d s',Cr X pZ σ H s'->Dd v d->Q d s'):
  BN (model X.prog X.w) A (Vr (.ref a) u) Q E s:=by
 rcases g with⟨kvs,k,e,i,l⟩|⟨kvs,k,b,e,i,n,l⟩
 ·subst i;obtain⟨z,hd,vs,rel,dd⟩:=XC I.hok e;obtain⟨d,hw,c⟩:=Lo.some_of (v:=v) (o:=valueAt vs k) (by rw[l];exact rel.val k);exact wpAny_getItem_of (UC j) dd.mapOf hw (h d _ (I.tok _) c)
 ·subst i;cases (show u=BD b from j);obtain⟨z,hd,xs,rel,dd⟩:=XB I.hok e;obtain⟨d,hw,c⟩:=Lo.some_of (v:=v) (o:=(atKey xs k).map (·.2)) (by rw[l];exact rel.val k);obtain⟨p,hp,f⟩:=Cc.mp hw;refine wpAny_getItem_heap (Ny m) (UB I.hok n) dd hp ?_;rw[f];exact h d _ (I.tok _) c
theorem vc{Q:AB->AG->Prop}(f:A.units+1<Va)(I:Cr X pZ σ H s)(g:Hf H a y o)(d:Dd y u)(h:∀s',Cr X pZ σ H s'->Q (.bool o.isSome) s'):
  BN (model X.prog X.w) A (DL .In u (.ref a)) Q E s:=by
 rcases g with⟨kvs,k,e,c,l⟩|⟨kvs,k,b,e,c,i,l⟩
 ·subst c;obtain⟨z,hd,vs,rel,dd⟩:=XC I.hok e;refine wpAny_in_of (UC d) hd dd.mapOf ?_;rw[<- (rel.val k).isSome_eq,<-l];exact h _ (I.tok _)
 ·subst c;cases (show u=BD b from d);obtain⟨z,hd,xs,rel,dd⟩:=XB I.hok e;refine wpAny_in_heap (Ny f) (UB I.hok i) hd dd ?_;have q:=(rel.val k).isSome_eq;rw[Option.isSome_map]at q;rw[<-q,<-l];exact h _ (I.tok _)
theorem Zc{h':Ct}{t':Nat}{ob:HO}(I:Cr X pZ σ H s)(c:sZ (H a))(hs:RN a s.heap h')(d:∃q,h'.get? a=some q)(new:Dw X.prog X.w (upd H a ob) h' a ob):
  Cr X pZ σ (upd H a ob) {s with heap:=h',toks:=t'}:=I.write (x:=a) (e:=a) c (.inl rfl) (λb q hb z=>(hs.2 b hb).trans z) d new
theorem kE{P:Bq}{w:BU}{H':Hp}{h':Ct}{kvs:List (Gk×V)}{vs:List (Gk×AB)}(z:kvs.length<=sizeLine)(hd: (a==Gp)=false)(rel:KV kvs vs)(dd:h'.DictOf (DY P w) a vs):
  Dw P w H' h' a (.dK kvs):=⟨z,hd,vs,rel,dd⟩
theorem hI{H':Hp}{Q:Unit->AG->Prop}(x:A.units+1<Va)(I:Cr X pZ σ H s)(g:bD H a y v H')(n:Dd y u)(o:Dd v r)(h:∀s',Cr X pZ σ H' s'->Q () s'):
  BN (model X.prog X.w) A (setItem (.ref a) u r) Q E s:=by
 rcases g with⟨kvs,k,e,j,l,m⟩|⟨kvs,k,b,e,j,t,l,m⟩
 ·subst j m;obtain⟨z,hd,vs,rel,dd⟩:=oV I.hok e;have hz:vs.length<=sizeLine:=by rw[<-rel.length];exact z
  have i: (JQ kvs k v).length<=sizeLine:=by have:=Nm kvs k v;lia
  refine wpAny_setItem_pairs (hsz:=hz) (UC n) dd λh' d hs=>h _ ?_;have B:∃q,h'.get? a=some q:=let ⟨q,_,_,f,_⟩:=d;⟨q,f⟩;exact Zc I (by rw[e];exact Dz) hs B (kE i hd (rel.put k o) d)
 ·subst j m;cases (show u=BD b from n);obtain⟨z,hd,xs,rel,dd⟩:=sM I.hok e;have hz:xs.length<=sizeLine:=by rw[<-XW rel];exact z
  have i: (JQ kvs k v).length<=sizeLine:=by have:=Nm kvs k v;lia
  refine wpAny_setItem_heap (hsz:=hz) (Ny x) (UB I.hok t) dd λh' d hs=>h _ ?_;obtain⟨q,es,F,f,h2,h3,D,_,C⟩:=d;refine Zc I (by rw[e];exact Dz) hs ⟨q,f⟩ ⟨i,hd,_,(rel.put k t o).keeps λc ys p=>?_,q,es,F,f,h2,h3,D,C⟩;rw[Bb (rT p e (λz=>nomatch z))];exact p
end
section
variable{X:Cx}{pZ:List (AE×Obj)}{σ:St}{H:Hp}{s:AG}{a:AE}{kvs:List (Gk×V)}{k:Gk}{u:AB}{A:CH}{E:AB->AG->Prop}
end
def sY(i:Expr):Prop:=∀a iv,subscripted i false a iv=operate [a,iv] (Vr a iv)
theorem lI{prog:Bq}{w:BU}{A:CH}{E:AB->AG->Prop}{s:AG}{env:Env}{value slice:Expr}{pos:FX}{T id:String}{Q:AB->AG->Prop}(j:typeLookup (.type T) "__getitem__"=IX (some (.builtin id)))(hs:sY slice)(h:BN (model prog w) A (Ea value env) (λo d=>BN (model prog w) A (Ea slice env) (λi a=>a.TypeIs o T/\BN (model prog w) A (Vr o i) Q E a) E d) E s):
  BN (model prog w) A (Ea (.Subscript value slice pos) env) Q E s:=by
 refine Subscript_ (Ia h (λo d f=>Ia f (λi a b=>?_) λ_ _ x=>x) λ_ _ x=>x);obtain⟨g,b⟩:=b;unfold subscriptTail;refine AR ?_;rw[getitemInPython_of_ne g.not_modules];refine AR (wpAny_specialOf g j ?_);have fin:BN (model prog w) A (subscripted slice false o i) (λr c=>BN (model prog w) A (letTemporaryGo value o r >>= λ_=>IX r) Q E c) E a:=by
  rw[hs o i];exact wpAny_operating (Ia b (λr c e=>AR (wpAny_letTemporaryGo (Bx e))) λ_ _ x=>x)
 first
  |exact Bx (AR fin)
  |exact AR (Bx (AR fin))
  |exact AR fin
theorem bi{X:Cx}{pZ:List (AE×Obj)}{σ:St}{H:Hp}{s:AG}{a:AE}{y:V}{o:Option V}(I:Cr X pZ σ H s)(g:Hf H a y o):s.TypeIs (.ref a) "dict":=by
 rcases g with⟨kvs,k,e,_,_⟩|⟨kvs,k,b,e,_,_,_⟩
 ·obtain⟨_,_,vs,_,dd⟩:=XC I.hok e;exact dd.typeIs
 ·obtain⟨_,_,xs,_,dd⟩:=XB I.hok e;exact dd.typeIs
def rA(td ty:TE):TE:=λσ H Q=>td σ H λx H1=>ty σ H1 λy H2=>∃a v,x= .ref a/\Hf H2 a y (some v)/\Q v H2
def tZ(ty td:TE):TE:=λσ H Q=>ty σ H λy H1=>td σ H1 λx H2=>∃a o,x= .ref a/\Hf H2 a y o/\Q (.bl o.isSome) H2
def rK(td ty tv:TE):TS:=λD σ H=>tv σ H λv H1=>td σ H1 λx H2=>ty σ H2 λy c=>∃a b,x= .ref a/\bD c a y v b/\D.nx σ b
section
variable{X:Cx}{o i e value:Expr}{pos pos' tpos:FX}{td ty tv:TE}
theorem BK(m:X.A.units+1<Va)(ho:PE X o td)(hi:PE X i ty)(hs:sY i):PE X (.Subscript o i pos) (rA td ty):=by
 intro pZ s σ H Q I h;refine lI PySem.F.slot_dict_getitem.lookup hs (Ei (ho pZ s σ H _ I h) λu s1 c=>?_);obtain⟨x,H1,p,j,l⟩:=c;refine Ei (hi pZ s1 σ H1 _ p l) λiv s2 b=>?_;obtain⟨y,H2,e,f,a,v,ex,g,k⟩:=b;subst ex;obtain rfl:u=BD a:=j;exact⟨bi e g,hJ m e g f λq r n d=>⟨v,H2,n,d,k⟩⟩
theorem jv(l:X.A.units+1<Va)(hi:PE X i ty)(ho:PE X o td):PC X .In i o (tZ ty td):=by
 intro pZ s σ H Q I h;refine Ei (hi pZ s σ H _ I h) λiv s1 c=>?_;obtain⟨y,H1,p,d,j⟩:=c;refine Ei (ho pZ s1 σ H1 _ p j) λu s2 b=>?_;obtain⟨x,H2,n,e,a,k,ex,g,f⟩:=b;subst ex;obtain rfl:u=BD a:=e;exact vc l n g d λq m=>⟨.bl k.isSome,H2,m,rfl,f⟩
theorem Tc(p:X.A.units+1<Va)(ho:PE X o td)(hi:PE X i ty)(n:PE X value tv)(hs:swapsWith value (some (.Subscript o i pos')) pos.line X.env=IX false):
  PS X (.Assign [.Subscript o i pos'] value pos) (rK td ty tv):=by
 intro pZ s σ H D I h;refine wpAny_Assign_Subscript (Ei (n pZ s σ H _ I h) λr s1 d=>?_) hs;obtain⟨v,H1,z,j,m⟩:=d;refine Ei (ho pZ s1 σ H1 _ z m) λu s2 c=>?_;obtain⟨x,H2,w,f,l⟩:=c;refine Ei (hi pZ s2 σ H2 _ w l) λiv C b=>?_;obtain⟨y,E,t,e,a,B,ex,g,k⟩:=b;subst ex;obtain rfl:u=BD a:=f;exact hI p t g e j λs4 q=>⟨σ,B,q,k⟩
end
section
variable{X:Cx}{pos:FX}
end
def bT:List (TE×TE)->St->Hp->(List (V×V)->Hp->Prop)->Prop
 |[],_,H,Q=>Q [] H
 |(tk,tv)::r,σ,H,Q=>tk σ H λx H1=>tv σ H1 λy H2=>bT r σ H2 λps a=>Q ((x,y)::ps) a
abbrev VV:List (V×V)->List (AB×AB)->Prop:=Paired λp q=>Dd p.1 q.1/\Dd p.2 q.2
def tM(X:Cx)(pos:FX)(keys:List (Option Expr))(values:List Expr)(a:List (TE×TE)):Prop:=∀(pZ:List (AE×Obj)) (s:AG) (σ:St) (H:Hp) (Q:List (V×V)->Hp->Prop),Cr X pZ σ H s->bT a σ H Q->BN (model X.prog X.w) X.A (evalPairs (pairTrees keys values X.env pos)) (λvs s'=>∃ps H',Cr X pZ σ H' s'/\VV ps vs/\Q ps H') X.xe s
theorem YH{X:Cx}{pos:FX}:tM X pos [] [] []:=λpZ s σ H Q I h=>pairTrees_nil_walk ⟨[],H,I,.nil,h⟩
theorem GC{X:Cx}{pos:FX}{k v:Expr}{ks:List (Option Expr)}{vs:List Expr}{tk tv:TE}{a:List (TE×TE)}(l:PE X k tk)(i:PE X v tv)(j:tM X pos ks vs a):
  tM X pos (some k::ks) (v::vs) ((tk,tv)::a):=λpZ s σ H Q I h=>
 pairTrees_cons_walk (Ei (l pZ s σ H _ I h) λu s1 ⟨x,H1,o,d,g⟩=>Ei (i pZ s1 σ H1 _ o g) λq s2 ⟨y,H2,n,c,f⟩=>
  Ei (j pZ s2 σ H2 _ n f) λws r b=>(by obtain⟨ps,p,m,rel,e⟩:=b;exact⟨(x,y)::ps,p,m,.cons ⟨d,c⟩ rel,e⟩))
def Kt(kvs more:List (Gk×V)):List (Gk×V):=more.foldl (λa b=>JQ a b.1 b.2) kvs
theorem KV.merge:∀{more:List (Gk×V)} {a:List (Gk×AB)} {kvs:List (Gk×V)} {vs:List (Gk×AB)},KV more a->KV kvs vs->KV (Kt kvs more) (merged vs a):=by
 intro more a kvs vs r;unfold KV at r;induction r generalizing kvs vs with
 |nil=>intro q;exact q
 |@cons p q ps qs h t c=>
  intro b;have e:KV (JQ kvs p.1 p.2) (stored vs q.1 q.2):=by
   have:=b.put p.1 h.2;rw[<-h.1];exact this
  exact c e
theorem OG:∀(more kvs:List (Gk×V)),(Kt kvs more).length<=kvs.length+more.length
 |[],kvs=>by show kvs.length<=kvs.length+0;lia
 |p::r,kvs=>by
  have h1:=OG r (JQ kvs p.1 p.2);have h2:=Nm kvs p.1 p.2;show(Kt (JQ kvs p.1 p.2) r).length<=_;rw[Cd];lia
theorem UQ{P:Bq}{w:BU}:∀{kvs:List (Gk×V)} {ws:List (AB×AB)},VV (kvs.map λe=>(kV e.1,e.2)) ws->∃d,Carries (DY P w) ws d/\KV kvs d
 |[],_,r=>by rw[Dl]at r;cases r;exact⟨[],Dz,.nil⟩
 |p::kvs,_,r=>by
  rw[Bf]at r;cases r with
  |@cons a b as bs h t=>
   obtain⟨d,c,q⟩:=UQ (P:=P) (w:=w) t;obtain⟨b1,b2⟩:=b;exact⟨(p.1,b2)::d,⟨UC h.1,rfl,c⟩,.cons ⟨rfl,h.2⟩ q⟩
def rz(a:List (TE×TE)):TE:=λσ H Q=>∀p,H p=none->bT a σ (upd H p (.dK [])) λps H2=>H2 p=some (.dK [])/\∃kvs:List (Gk×V),ps=kvs.map (λb=>(kV b.1,b.2))/\kvs.length<=15/\Q (.ref p) (upd H2 p (.dK (Kt [] kvs)))
theorem YJ{X:Cx}{pos:FX}{keys:List (Option Expr)}{values:List Expr}{b:List (TE×TE)}(h:tM X pos keys values b)(f:keys.all (·.isSome)=true)(t:keys.length=values.length)(h0:keys≠[])(i:keys.length<=15):PE X (.Dict keys values pos) (rz b):=by
 intro pZ s σ H Q I q;have hn:=I.hok.fresh (AX s.heap.objs.size);have x:=I.laid (a:=s.heap.objs.size) (o:=.dK []) (h':=s.heap.push {cls:=.type "dict",data:=.dict #[]}) (t':=s.toks) (λ_ _ q=>AK _ q) (AX _) (bf s.heap I.big);refine wpAny_Dict_walk (knd:=DY X.prog X.w) f t h0 i (Ei (h pZ _ σ _ _ x (q _ hn)) λws s2 d=>?_);obtain⟨ps,H2,j,rel,e,kvs,v,lk,p⟩:=d;subst v;obtain⟨l,c,m⟩:=UQ (P:=X.prog) (w:=X.w) rel;obtain⟨z,hd,k,n,dd⟩:=oV j.hok e;cases n;refine⟨l,c,dd,λh' g hs=>⟨.ref s.heap.objs.size,_,?_,rfl,p⟩⟩;have hz: (Kt [] kvs).length<=sizeLine:=by
  have h1:=OG kvs [];rw[OU]at h1;rw[DJ];lia
 have u:∃q,h'.get? s.heap.objs.size=some q:=let ⟨q,_,_,r,_⟩:=g;⟨q,r⟩;exact Zc j (by rw[e];exact Dz) hs u (kE hz hd (m.merge .nil) g)
structure M1(X:Cx)(o:Expr)(m:Bc)(apos:FX)(e:Expr)(cpos:FX):Prop where
 base:Hn o m X.env (Ea o X.env)=Ea o X.env
 few: ((Fq cpos (BW [e] X.env)).all (λx=>!x.1) && (NB cpos (Ib [] X.env)).all (λx=>x.1.isSome)
  &&decide (([e]:List Expr).length+ ([]:List Vs).length+ (if ([]:List Vs).isEmpty then 0 else 1) <30))=true
 line: (apos.endLine==cpos.line)=true
 trees:Fq cpos (BW [e] X.env)=[(false,Ea e X.env)]
structure M2(X:Cx)(o:Expr)(m:Bc)(apos:FX)(e f:Expr)(cpos:FX):Prop where
 base:Hn o m X.env (Ea o X.env)=Ea o X.env
 few: ((Fq cpos (BW [e,f] X.env)).all (λx=>!x.1) && (NB cpos (Ib [] X.env)).all (λx=>x.1.isSome)
  &&decide (([e,f]:List Expr).length+ ([]:List Vs).length+ (if ([]:List Vs).isEmpty then 0 else 1) <30))=true
 line: (apos.endLine==cpos.line)=true
 trees:Fq cpos (BW [e,f] X.env)=[(false,Ea e X.env),(false,Ea f X.env)]
def vD(H:Hp)(a:AE):Prop:=(∃kvs,Rd H a (.dK kvs))\/∃kvs,Rd H a (.dT kvs)
theorem qv{X:Cx}{pZ:List (AE×Obj)}{σ:St}{H:Hp}{s:AG}{a:AE}(I:Cr X pZ σ H s)(d:vD H a):
  s.TypeIs (.ref a) "dict" /\(∀b,BD a= .ref b->∃ob,s.heap.get? b=some ob/\ob.dict=none)/\(a==Gp)=false:=by
 rcases d with⟨kvs,e⟩|⟨kvs,e⟩
 ·obtain⟨_,hd,vs,_,dd⟩:=XC I.hok e;refine⟨dd.typeIs,λb q=>?_,hd⟩;cases q;obtain⟨ob,_,_,h1,h2,_⟩:=dd;exact⟨ob,h1,h2.2.1⟩
 ·obtain⟨_,hd,xs,_,dd⟩:=XB I.hok e;refine⟨dd.typeIs,λb q=>?_,hd⟩;cases q;obtain⟨ob,_,_,h1,h2,_⟩:=dd;exact⟨ob,h1,h2.2.1⟩
section
variable{X:Cx}{pZ:List (AE×Obj)}{σ:St}{H:Hp}{s:AG}{a:AE}{y d:V}{u r:AB}{o:Option V}{A:CH}{E:AB->AG->Prop}
theorem qH{Q:AB->AG->Prop}(j:A.units+1<Va)(I:Cr X pZ σ H s)(g:Hf H a y o)(i:Dd y u)(rd:Dd d r)(h:∀f s',Cr X pZ σ H s'->Dd (o.getD d) f->Q f s'):
  BN (model X.prog X.w) A (call (.builtin "dict.get") [.ref a,u,r]) Q E s:=by
 rcases g with⟨kvs,k,e,c,l⟩|⟨kvs,k,b,e,c,m,l⟩
 ·subst c;obtain⟨z,hd,vs,rel,dd⟩:=XC I.hok e;refine call_meetsIn GP dd.typeIs Og (PySem.F.args_dict_get_3 _ _ _) (meets_dict_get_default (DY X.prog X.w) a (UC i) hd r) ⟨_,dd.mapOf,h _ _ (I.tok _) ?_⟩;rw[l];exact(rel.val k).getD rd
 ·subst c;cases (show u=BD b from i);obtain⟨z,hd,xs,rel,dd⟩:=XB I.hok e;refine call_meetsIn GP dd.typeIs Og (PySem.F.args_dict_get_3 _ _ _) (meetsH_dict_get_default (Vo (DY X.prog X.w)) a b hd r) ⟨Ny j,k,xs,UB I.hok m,dd,h _ _ (I.tok _) ?_⟩;rw[l];exact(rel.val k).getD rd
end
def pA(td ty tx:TE):TE:=λσ H Q=>td σ H λx H1=>∃a,x= .ref a/\vD H1 a/\ty σ H1 λy H2=>tx σ H2 λz b=>∃o,Hf b a y o/\Q (o.getD z) b
section
variable{X:Cx}{o e f:Expr}{apos cpos:FX}{td ty tx:TE}
theorem jr(v:X.A.units+1<Va)(ho:PE X o td)(w:PE X e ty)(hf:PE X f tx)(m:M2 X o "get" apos e f cpos):PE X (.Call (.Attribute o "get" apos) [e,f] [] cpos) (pA td ty tx):=by
 intro pZ s σ H Q I h;refine wpAny_Call_method m.base m.few m.line PySem.F.plainAttrs_dict GP PySem.F.type_dict_get (Ei (ho pZ s σ H _ I h) λu s1 b=>?_);obtain⟨x,H1,i,p,a,ex,d,t⟩:=b;subst ex;obtain rfl:u=BD a:=p;obtain⟨k,j,_⟩:=qv i d;refine⟨k,j,?_⟩;rw[m.trees];refine JO rfl (Vl (GV (Ei (w pZ s1 σ H1 _ i t) λiv s2 ⟨y,H2,D,n,r⟩=>
  GV (Ei (hf pZ s2 σ H2 _ D r) λfv J ⟨z,E,C,l,K,g,q⟩=>JN ?_))))
 exact qH v C g n l λG s4 B c=>⟨_,E,B,c,q⟩
end
def KD(P:Bq)(w:BU)(K:AF)(a:AE)(kvs:List (Gk×V)):Prop:=(a==Gp)=false/\∃vs,KV kvs vs/\∀h:Ct,K.In h->h.DictOf (DY P w) a vs
def rn(a:AE)(kvs:List (Gk×V))(td ty:TE):TE:=λσ H Q=>td σ H λx H1=>x= .ref a/\ty σ H1 λy H2=>∃k,y=kV k/\Q ((IR kvs k).getD .non) H2
section
variable{X:Cx}{o e f:Expr}{apos cpos:FX}{td ty tx:TE}{a:AE}{kvs:List (Gk×V)}
theorem jq(r:KD X.prog X.w X.K a kvs)(ho:PE X o td)(t:PE X e ty)(m:M1 X o "get" apos e cpos):PE X (.Call (.Attribute o "get" apos) [e] [] cpos) (rn a kvs td ty):=by
 intro pZ s σ H Q I h;obtain⟨hs,vs,rel,f⟩:=r;refine wpAny_Call_method m.base m.few m.line PySem.F.plainAttrs_dict GP PySem.F.type_dict_get (Ei (ho pZ s σ H _ I h) λu s1 d=>?_);obtain⟨x,H1,i,l,ex,p⟩:=d;subst ex;obtain rfl:u=BD a:=l;have dd:=f s1.heap i.kIn;refine⟨dd.typeIs,λb q=>?_,?_⟩
 ·cases q;obtain⟨ob,_,_,h1,h2,_⟩:=dd;exact⟨ob,h1,h2.2.1⟩
 rw[m.trees];refine JO rfl (Vl (GV (Ei (t pZ s1 σ H1 _ i p) λiv s2 c=>?_)));obtain⟨y,H2,g,j,k,v,n⟩:=c;refine JN ?_;subst v;have d2:=f s2.heap g.kIn;refine call_meetsIn GP d2.typeIs Og (PySem.F.args_dict_get_2 _ _) (meets_dict_get (DY X.prog X.w) a (UC j) hs) ⟨_,d2.mapOf,_,H2,g.tok _,?_,n⟩;exact(rel.val k).getD rfl
end
end L2
namespace HL
open PySem PySem.W PyProof.Rows L2
abbrev DV:=AB×Option AE×Nat×List (Int×Option Bc×Option Bool)
def kS:AB->Option Bc|.str x _=>some x|_=>none
def kB:AB->Option Bool|.bool b=>some b|_=>none
def vb(K:FL)(a:AE):Option DV:=match K.lookup a with
 |some o=>(match o.data with
  |.dict es _=>some (o.cls,o.dict,o.slots.toList.length,es.toList.map λe=>(e.hash,kS e.key,kB e.val))
  |_=>none)
 |none=>none
def va(w:BU)(l:List (Bc×Bool)):Option DV:=some (.type "dict",none,0,l.map λx=>(qp w (.inr x.1),some x.1,some x.2))
theorem kC{P:Bq}{w:BU}:∀{l:List (Bc×Bool)} {es:List DictEntry},es.map (λe=>(e.hash,kS e.key,kB e.val))=l.map (λx=>(qp w (.inr x.1),some x.1,some x.2))->(∀e∈es,∃k,(DY P w).is k e.key=true/\e.hash=(DY P w).hash k)/\Pairs (DY P w) es (l.map λx=>((.inr x.1:Gk),EB x.2)):=by
 intro l;induction l with
 |nil=>
  intro es h;obtain rfl:es=[]:=HH.mp h;exact⟨λ_ z=>(BL z).elim,.nil⟩
 |cons x l d=>
  intro es h;cases es with
  |nil=>cases h
  |cons e es=>
   rw[Bf,Bf]at h;obtain⟨h1,h2⟩:=FK h;obtain⟨f,i2⟩:=d h2;obtain⟨n,m,j⟩:=e;simp only[GJ]at h1;obtain⟨rfl,b,c⟩:=h1;have i:∃t,m= .str x.1 t:=by
    unfold kS at b;split at b
    ·cases b;exact⟨_,rfl⟩
    ·cases b
   have g:j= .bool x.2:=by
    unfold kB at c;split at c
    ·cases c;rfl
    ·cases c
   obtain⟨t,rfl⟩:=i;subst g;refine⟨λe a=>?_,.cons (Nj P w x.1 t) rfl i2⟩;rcases AU.mp a with rfl|a
   ·exact⟨.inr x.1,Nj P w x.1 t,rfl⟩
   ·exact f e a
theorem sx{P:Bq}{w:BU}{K:FL}{a:AE}{l:List (Bc×Bool)}(h:vb K a=va w l)(hs: (a==Gp)=false)(hn: (l.map λx=>(.inr x.1:Gk)).Nodup):KD P w K a (l.map λx=>((.inr x.1:Gk),V.bl x.2)):=by
 refine⟨hs,l.map λx=>((.inr x.1:Gk),EB x.2),?_,λhp g=>?_⟩
 ·unfold KV;clear h hn hs;induction l with
  |nil=>exact .nil
  |cons x l d=>exact .cons ⟨rfl,rfl⟩ d
 ·unfold vb va at h;cases q:K.lookup a with
  |none=>rw[q]at h;cases h
  |some o=>
   rw[q]at h;obtain⟨oc,od,k,sl⟩:=o;cases k with
   |dict es j=>
    simp only[My,GJ]at h;obtain⟨rfl,rfl,h3,i⟩:=h;obtain⟨c,b⟩:=kC (P:=P) i;refine⟨_,es,j,g a _ q,⟨rfl,rfl,?_⟩,rfl,λe f=>c e f.val,b,?_⟩
    ·obtain⟨sl⟩:=sl;obtain rfl:sl=[]:=NF.mp h3;rfl
    ·rw[Bi];exact hn
   |_=>cases h
theorem jR{p q:Bq}{lo:List Bc}{n N:Nat}{pos:FX}{k j i:Type}{g:AG->k}{e:AG->j}{d:AG->i}{c:k}{b:j}{a:BU->i}(h1:opening p=plainProg p.main.scope.names)(h2:∀s,fenceModules? p s=some s)(Oc:∀w os,Tv bE p w 11 Ln 12 (fN w os) (topStub p)=some ((S0 w os).abs,⟨Qu bE (code p),code p,GS,[Ht GS]⟩))(dq:∀w s,PM bE p w 11 Ln 1 1 s (blockOf (FF p) (env p) (code p) GS [Ht GS])=some (.next,s,code p,GS))(oQ:∀w os,(R p n w os).map (λx=>(x.1,x.2.2,Nl p q lo w.params x.2.1.abs))=some (.next,(code p,pos),Qp q lo))(Pe:∀w os,(R p n w os).map (λx=>(x.1,x.2.2,g x.2.1.abs))=some (.next,(code p,pos),c))(kc:∀w os,(R p n w os).map (λx=>(x.1,x.2.2,e x.2.1.abs))=some (.next,(code p,pos),b))(h:∀w os,(R p n w os).map (λx=>(x.1,x.2.2,d x.2.1.abs))=some (.next,(code p,pos),a w))(hsz:∀P:Params,(ET P).isNs Cg=true/\(ET P).objs.size=11/\(ET P).nsMap Cg "__annotations__"=Ln)(r:Nat.ble 600 N=true)(t:12+ (1+ (n+2))<=N):LeftO p q lo (λs=>xlAt q [] s&&recOk [] s) (λs=>((g s,e s),d s)) (λw=>((c,b),a w)) N:=by
 refine mV h1 h2 Oc dq (pos:=pos) (λw os=>?_) hsz r t;obtain⟨s,hs,hf⟩:=some_of (f:=λy:Ir=>Nl p q lo w.params y.abs) (oQ w os);have o:=Pe w os;have m:=kc w os;have l:=h w os;rw[hs]at o m l ⊢;have f1:g s.abs=c:=wn (λx=>x.2.2) (Ba o);have f2:e s.abs=b:=wn (λx=>x.2.2) (Ba m);have u:d s.abs=a w:=wn (λx=>x.2.2) (Ba l);show some (Flow.next,(code p,pos),(Nl p q lo w.params s.abs,((g s.abs,e s.abs),d s.abs)))=_;rw[f1,f2,u];exact wn (λy=>some (Flow.next,(code p,pos),(y,((c,b),a w)))) hf
def ex{b a:Type}(g:b->a)(l:List b):List a:=l.foldr (λx r=>g x::r) []
theorem IW{a b:Type}{f g:a->b}{x:a}:∀{l:List a},l.map f=ex g l->∀{i:Nat},KI l i=some x->f x=g x:=by
 intro l;induction l with
 |nil=>intro _ i e;cases e
 |cons y l c=>
  intro h i e;obtain⟨h1,h2⟩:=FK (show f y::l.map f=g y::ex g l from h);cases i with
  |zero=>cases e;exact h1
  |succ i=>exact c h2 e
theorem Tr{a:Type}{f:a->Bool}{x:a}{l:List a}{i:Nat}(h:l.all f=true)(e:KI l i=some x):f x=true:=UV i h e
structure Ls where
 nz:List Bc
 nd:List (Bc×Nat×Nat)
 nc:List (Bc×Nat)
 md:List (Nat×Bc×Bc×Nat×Nat)
 fr:List (Nat×Bc×Nat)
 fz:List (Nat×Bc)
 fb:List (Nat×Bc×String)
 cl:List Nat
 ms:List Nat
 kr:List (Nat×Nat×Bool)
 kt:List (String×Nat×Bool)
 ni:List (Bc×Int)
 ns:List (Bc×Bc)
 kd:List Nat
 mA:FL->List (Option (Option AB))
 nA:List (Option (Option AB))
 mB:FL->Bool
 mC:FL->List (Option Bool)
 nC:List (Option Bool)
 mD:FL->List (Option FV)
 nD:Bq->List (Option FV)
 mI:FL->List (Option Int)
 nI:List (Option Int)
 mX:FL->List (Option XV)
 nX:List (Option XV)
def Rf(p:Bq)(i:Nat):JI:=p.main.body.getD i (.Pass ⟨0,0,0,0⟩)
abbrev LV:=List (Option (Option AB))
variable(L:Ls)(p:Bq)
def oA(K:FL):LV×LV×LV×LV×LV×LV×LV×LV×LV:=(L.nz.map λx=>nsIn K Cg x,L.nd.map λx=>nsIn K Cg x.1,L.nc.map λx=>nsIn K Cg x.1,L.fr.map λx=>DK K (.ref x.1) x.2.1,L.fz.map λx=>DK K (.ref x.1) x.2,L.fb.map λx=>DK K (.ref x.1) x.2.1,L.cl.map λx=>DK K (.ref x) "__setattr__",L.cl.map λx=>DK K (.ref x) "__class__",L.mA K)
def eA:LV×LV×LV×LV×LV×LV×LV×LV×LV:=(ex (λ_=>some none) L.nz,ex (λx=>some (some (.ref x.2.1))) L.nd,ex (λx=>some (some (.ref x.2))) L.nc,ex (λx=>some (some (.ref x.2.2))) L.fr,ex (λ_=>some none) L.fz,ex (λx=>some (some (.builtin x.2.2))) L.fb,ex (λ_=>some (some (.builtin "object.__setattr__"))) L.cl,ex (λ_=>some (some (.builtin "object.__class__"))) L.cl,L.nA)
def oB(K:FL):Bool:=L.nd.all (λx=>FI K (.ref x.2.1)) && (L.md.all (λx=>FI K (.ref x.1) &&isFn K (.ref x.1)) && (L.cl.all (λc=>plainGet K c Str.empty&& (hasDictIn K c&&plainOver K c)) && (L.ms.all (λc=>IY K c&&FI K (.ref c)) && (L.kd.all (λa=>FI K (.ref a) &&isFn K (.ref a)) &&L.mB K))))
abbrev LB:=List (Option Bool)
def oC(K:FL):LB×LB×LB×LB:=(L.cl.map λc=>mroIn K c (.type "object"),L.kr.map λx=>JR K (.ref x.1) (.ref x.2.1),L.kt.map λx=>JR K (.type x.1) (.ref x.2.1),L.mC K)
def eC:LB×LB×LB×LB:=(ex (λ_=>some true) L.cl,ex (λx=>some x.2.2) L.kr,ex (λx=>some x.2.2) L.kt,L.nC)
def oD(K:FL):List (Option FV):=L.nd.map λx=>fv K x.2.1
def eD:List (Option FV):=ex (λx=>fx x.1 x.1 (Rf p x.2.2) .none) L.nd
def oM(K:FL):List (Option FV)×List (Option FV):=(L.md.map λx=>fv K x.1,L.mD K)
def eM:List (Option FV)×List (Option FV):=(ex (λx=>fx x.2.1 x.2.2.1 (L2.Cf (Rf p x.2.2.2.1) x.2.2.2.2) .none) L.md,L.nD p)
abbrev LI:=List (Option Int)×List (Option Bc)×List (Option Int)×List (Option XV)
def oI(K:FL):LI:=(L.ni.map λx=>iv (nsIn K Cg x.1),L.ns.map λx=>sv (nsIn K Cg x.1),L.mI K,L.mX K)
def eI:LI:=(ex (λx=>some x.2) L.ni,ex (λx=>some x.2) L.ns,L.nI,L.nX)
structure Dm(K:FL)(mg:Bc->Option AB)(x:Bc)(a:AE)(ps:List Bc):Prop where
 m:mg x=some (.ref a)
 k:FI K (.ref a)=true
 b:Er K (Fe K a) ps []
abbrev Et(P:Bq)(w:BU)(K:FL)(mg:Bc->Option AB)(base:Ct)(k:Nat)(a:AE)(ps:List Bc)(sp:Sp):Prop:=He P w K mg base Zr k a (Fe K a) ps sp
structure Tt(K:FL)(mg:Bc->Option AB):Prop where
 A:oA L K=eA L
 B:oB L K=true
 C:oC L K=eC L
 D:oD L K=eD L p
 M:oM L K=eM L p
 I:oI L K=eI L
 g:∀x v,nsIn K Cg x=some v->mg x=v
variable{L p}{K:FL}{mg:Bc->Option AB}
theorem sL{f:Tok->AB}{x:Bc}(g:∀x v,nsIn K Cg x=some v->mg x=v)(h:∃t,nsIn K Cg x=some (some (f t))):∃t,mg x=some (f t):=by
 obtain⟨t,e⟩:=h;exact⟨t,g _ _ e⟩
section
variable(T:Tt L p K mg)
include T
theorem Tt.y{x:Bc}(i:Nat)(h:KI L.nz i=some x):mg x=none:=T.g _ _ (IW (wn (λx=>x.1) T.A) h)
theorem Tt.dk{x:Bc}{a n:Nat}(i:Nat)(h:KI L.nd i=some (x,a,n)):FI K (.ref a)=true:=Tr (f:=λx:Bc×Nat×Nat=>FI K (.ref x.2.1)) ((AI _ _).mp T.B).1 h
theorem Tt.dn{x:Bc}{a n:Nat}(i:Nat)(h:KI L.nd i=some (x,a,n)):mg x=some (.ref a):=T.g _ _ (IW (wn (λx=>x.2.1) T.A) h)
theorem Tt.df{x:Bc}{a n:Nat}(i:Nat)(h:KI L.nd i=some (x,a,n)):L2.bH K x x (Rf p n) a (Fe K a):=kj (IW T.D h) (T.dk i h)
theorem Tt.de{x:Bc}{a n:Nat}(i:Nat)(h:KI L.nd i=some (x,a,n)):fv K a=fx x x (Rf p n) .none:=IW T.D h
theorem Tt.nr{x:Bc}{a:Nat}(i:Nat)(h:KI L.nc i=some (x,a)):nsIn K Cg x=some (some (.ref a)):=IW (wn (λx=>x.2.2.1) T.A) h
theorem Tt.mc{x:Bc}{a:Nat}(i:Nat)(h:KI L.nc i=some (x,a)):mg x=some (.ref a):=T.g _ _ (T.nr i h)
theorem Tt.mB2{x q:Bc}{a n j:Nat}(i:Nat)(h:KI L.md i=some (a,x,q,n,j)):FI K (.ref a)=true/\isFn K (.ref a)=true:=(AI _ _).mp (Tr (f:=λx:Nat×Bc×Bc×Nat×Nat=>FI K (.ref x.1) &&isFn K (.ref x.1)) ((AI _ _).mp ((AI _ _).mp T.B).2).1 h)
theorem Tt.mf{x q:Bc}{a n j:Nat}(i:Nat)(h:KI L.md i=some (a,x,q,n,j)):L2.bH K x q (L2.Cf (Rf p n) j) a (Fe K a):=kj (IW (wn (λx=>x.1) T.M) h) (T.mB2 i h).1
theorem Tt.fnd{c a:Nat}{x:Bc}(i:Nat)(h:KI L.fr i=some (c,x,a)):DK K (.ref c) x=some (some (.ref a)):=IW (wn (λx=>x.2.2.2.1) T.A) h
theorem Tt.me{c a n j:Nat}{x y q:Bc}(i i':Nat)(h:KI L.fr i=some (c,x,a))(h':KI L.md i'=some (a,y,q,n,j)):hX K c x a:=⟨T.fnd i h,(T.mB2 i' h').2,(T.mB2 i' h').1⟩
theorem Tt.fo{c:Nat}{x:Bc}(i:Nat)(h:KI L.fz i=some (c,x)):DK K (.ref c) x=some none:=IW (wn (λx=>x.2.2.2.2.1) T.A) h
theorem Tt.fw{c:Nat}{x:Bc}{s:String}(i:Nat)(h:KI L.fb i=some (c,x,s)):DK K (.ref c) x=some (some (.builtin s)):=IW (wn (λx=>x.2.2.2.2.2.1) T.A) h
theorem Tt.mn{i:Nat}:KI (L.mA K) i=KI L.nA i:=YN (wn (λx=>x.2.2.2.2.2.2.2.2) T.A) i
theorem Tt.cB{c:Nat}(i:Nat)(h:KI L.cl i=some c):NV K c:=by
 have z:=Tr (f:=λc=>plainGet K c Str.empty&& (hasDictIn K c&&plainOver K c)) ((AI _ _).mp ((AI _ _).mp ((AI _ _).mp T.B).2).2).1 h;have a:=(AI _ _).mp ((AI _ _).mp z).2;exact⟨((AI _ _).mp z).1,a.1,a.2,IW (wn (λx=>x.2.2.2.2.2.2.1) T.A) h⟩
theorem Tt.cC{c:Nat}(i:Nat)(h:KI L.cl i=some c):DK K (.ref c) "__class__"=some (some (.builtin "object.__class__")):=IW (wn (λx=>x.2.2.2.2.2.2.2.1) T.A) h
theorem Tt.cr{c:Nat}(i:Nat)(h:KI L.cl i=some c):mroIn K c (.type "object")=some true:=IW (wn (λx=>x.1) T.C) h
theorem Tt.mks{c:Nat}(i:Nat)(h:KI L.ms i=some c):IY K c=true/\FI K (.ref c)=true:=(AI _ _).mp (Tr (f:=λc=>IY K c&&FI K (.ref c)) ((AI _ _).mp ((AI _ _).mp ((AI _ _).mp ((AI _ _).mp T.B).2).2).2).1 h)
theorem Tt.kds{c:Nat}(i:Nat)(h:KI L.kd i=some c):FI K (.ref c)=true/\isFn K (.ref c)=true:=(AI _ _).mp (Tr (f:=λc=>FI K (.ref c) &&isFn K (.ref c)) ((AI _ _).mp ((AI _ _).mp ((AI _ _).mp ((AI _ _).mp ((AI _ _).mp T.B).2).2).2).2).1 h)
theorem Tt.mb:L.mB K=true:=((AI _ _).mp ((AI _ _).mp ((AI _ _).mp ((AI _ _).mp ((AI _ _).mp T.B).2).2).2).2).2
theorem Tt.q{a c:Nat}{b:Bool}(i:Nat)(h:KI L.kr i=some (a,c,b)):JR K (.ref a) (.ref c)=some b:=IW (wn (λx=>x.2.1) T.C) h
theorem Tt.qt{a:String}{c:Nat}{b:Bool}(i:Nat)(h:KI L.kt i=some (a,c,b)):JR K (.type a) (.ref c)=some b:=IW (wn (λx=>x.2.2.1) T.C) h
theorem Tt.cn{i:Nat}:KI (L.mC K) i=KI L.nC i:=YN (wn (λx=>x.2.2.2) T.C) i
theorem Tt.ui{x:Bc}{n:Int}(i:Nat)(h:KI L.ni i=some (x,n)):∃t,mg x=some (.int n t):=sL (f:=λt=>.int n t) T.g (jY (IW (wn (λx=>x.1) T.I) h))
theorem Tt.us{x n:Bc}(i:Nat)(h:KI L.ns i=some (x,n)):∃t,mg x=some (.str n t):=sL (f:=λt=>.str n t) T.g (pD (IW (wn (λx=>x.2.1) T.I) h))
theorem Tt.in_{i:Nat}:KI (L.mI K) i=KI L.nI i:=YN (wn (λx=>x.2.2.1) T.I) i
theorem Tt.en{i:Nat}:KI (L.mD K) i=KI (L.nD p) i:=YN (wn (λx=>x.2) T.M) i
end
abbrev FB(x q:Bc)(st:JI)(us:List AB)(ps:List Bc):Prop:=∀(kV doc pm:AB) (an:Option AE) (cdv ct:AB),bindArgs (fnOf x q (IA st) (Hl st) (AS st) .none kV doc pm an cdv ct) ⟨us,[]⟩=IX (ps.zip us)
variable{x q:Bc}{st:JI}{a n i:Nat}{fd:Ey}{p1 p2 p3 p4 p5 p6:Bc}
theorem b1(F:L2.bH K x q st a fd)(h:∀u,FB x q st [u] [p1]):Er K fd [p1] []:=F.binds λ_ _ _ _ _ _ us b=>by obtain⟨_,rfl⟩:=ot b;exact h _ ..
theorem b2(F:L2.bH K x q st a fd)(h:∀u v,FB x q st [u,v] [p1,p2]):Er K fd [p1,p2] []:=F.binds λ_ _ _ _ _ _ us b=>by obtain⟨_,_,rfl⟩:=oq b;exact h _ _ ..
theorem b3(F:L2.bH K x q st a fd)(h:∀u v z,FB x q st [u,v,z] [p1,p2,p3]):Er K fd [p1,p2,p3] []:=F.binds λ_ _ _ _ _ _ us b=>by obtain⟨_,_,_,rfl⟩:=oo b;exact h _ _ _ ..
theorem b6(F:L2.bH K x q st a fd)(h:∀u v z y t s,FB x q st [u,v,z,y,t,s] [p1,p2,p3,p4,p5,p6]):Er K fd [p1,p2,p3,p4,p5,p6] []:=F.binds λ_ _ _ _ _ _ us b=>by obtain⟨_,_,_,_,_,_,rfl⟩:=oj b;exact h _ _ _ _ _ _ ..
section
variable(T:Tt L p K mg)
include T
theorem Tt.d1(i:Nat)(h:KI L.nd i=some (x,a,n))(b:∀u,FB x x (Rf p n) [u] [p1]):Dm K mg x a [p1]:=⟨T.dn i h,T.dk i h,b1 (T.df i h) b⟩
theorem Tt.d2(i:Nat)(h:KI L.nd i=some (x,a,n))(b:∀u v,FB x x (Rf p n) [u,v] [p1,p2]):Dm K mg x a [p1,p2]:=⟨T.dn i h,T.dk i h,b2 (T.df i h) b⟩
theorem Tt.d3(i:Nat)(h:KI L.nd i=some (x,a,n))(b:∀u v z,FB x x (Rf p n) [u,v,z] [p1,p2,p3]):Dm K mg x a [p1,p2,p3]:=⟨T.dn i h,T.dk i h,b3 (T.df i h) b⟩
theorem Tt.d6(i:Nat)(h:KI L.nd i=some (x,a,n))(b:∀u v z y t s,FB x x (Rf p n) [u,v,z,y,t,s] [p1,p2,p3,p4,p5,p6]):Dm K mg x a [p1,p2,p3,p4,p5,p6]:=⟨T.dn i h,T.dk i h,b6 (T.df i h) b⟩
end
end HL
namespace L2
open PySem PySem.W
theorem AW{X:Cx}{k:Nat}{f:AE}{ps:List Bc}{sp:Sp}{x:Bc}{p pos:FX}{e:Expr}{es:List Expr}{t:TA}(F:He X.prog X.w X.K X.mg X.base Zr k f (HL.Fe X.K f) ps sp)(d:FD k X.A)(D:HL.Dm X.K X.mg x f ps)(ha:PA X (e::es) t)(hg:X.env.kindOf x=some .globalImplicit:=by rfl)(hc:X.calm=true:=by rfl)(c: (x==("__debug__" :Bc))=false:=by decide)(g:BW (e::es) X.env=(false,Ea e X.env)::BW es X.env:=by rfl)(a: (Fq pos (BW es X.env)).any (·.1)=false:=by rfl):
  PE X (.Call (.Name x p) (e::es) [] pos) (ox sp [] E0 t):=my F d hg D.m D.k D.b .nil (CL hc) ha c g a
end L2
namespace K9
open PySem PySem.W HL L2
abbrev top(i:Nat):JI:=Rf BX i
abbrev keep:List Nat:=[99]
def bB(K:FL):List Bool:=[tF K 563 561,tI K 4]
def lL:Ls where
 nz:=["len","range","isinstance","max","min","sum","all","ord","sorted","enumerate","zip","int","bool","list","tuple","str","set"]
 nd:=QS [("is_whole",80,11),("is_among",87,12),("is_made_of",92,13),("is_name",99,14),("number_text",106,15),("number_of",113,16),("truth_text",120,17),("truth_of",127,18),("words_of",134,19),("is_sign",141,28),("own_default",537,38),("own_fields",564,40),("own_numbers",569,41),("are_unlike",655,51),("is_of_size",662,52),("are_named_fields",667,53),("are_numbered",672,54),("is_thing_kind",679,55),("is_kind",686,56),("is_blank",693,57),("is_default",700,58),("field_weight",707,59),("form_weight",712,60),("fault_of",717,61),("need_forms",724,62),("weight",766,64),("default_word",773,65),("field_line",780,66),("form_lines",785,67),("book_lines",792,68),("word_at",799,69)] ([("thing_kind_at",806,70),("kind_at",813,71),("default_of",820,72),("field_in",827,73),("takes_line",874,75),("book_of",879,76),("_law_number",886,78),("_law_mixed",893,79),("_law_names",898,80),("_law_plain",905,81),("_law_kind",912,82),("_law_blank",919,83),("_law_default",926,84),("_law_field",933,85),("_law_load",940,86),("_law_weight",945,87),("_law_spec",950,88),("_law_kind_made",957,89),("_law_field_made",964,90),("_law_form_made",969,91),("_law_words",979,93),("_law_line",986,94),("_law_lines",991,95),("_law_same_field",998,96),("_law_same_form",1003,97),("_law_same",1008,98),("law",1013,99)])
 nc:=[("Kind",200),("Truth",242),("Count",275),("Whole",308),("Upto",362),("Text",415),("List",474),("Nested",528),("Field",555),("Record",627),("Choice",646),("Book",755),("Draft",863),("TRUTHS",73),("__builtins__",4)]
 md:=QS [(162,"words","Kind.words",29,1),(169,"is_plain","Kind.is_plain",29,2),(197,"blank","Kind.blank",29,6),(218,"word","Truth.word",30,0),(232,"suits","Truth.suits",30,2),(239,"blank","Truth.blank",30,3),(258,"word","Count.word",31,0),(265,"suits","Count.suits",31,1),(272,"blank","Count.blank",31,2),(291,"word","Whole.word",32,0),(298,"suits","Whole.suits",32,1),(305,"blank","Whole.blank",32,2),(324,"__init__","Upto.__init__",33,0),(338,"words","Upto.words",33,2),(352,"suits","Upto.suits",33,4),(359,"blank","Upto.blank",33,5),(393,"words","Text.words",34,2),(405,"suits","Text.suits",34,4),(412,"blank","Text.blank",34,5),(431,"__init__","List.__init__",35,0),(445,"words","List.words",35,2),(452,"is_plain","List.is_plain",35,3),(464,"suits","List.suits",35,5),(471,"blank","List.blank",35,6),(490,"__init__","Nested.__init__",36,0),(504,"words","Nested.words",36,2),(511,"is_plain","Nested.is_plain",36,3),(525,"suits","Nested.suits",36,5),(591,"is_choice","Form.is_choice",42,1),(598,"field_at","Form.field_at",42,2),(605,"field_of","Form.field_of",42,3)] ([(610,"true_fields","Form.true_fields",42,4),(643,"is_choice","Choice.is_choice",44,0),(738,"__init__","Book.__init__",63,0),(745,"form_of","Book.form_of",63,1),(752,"head","Book.head",63,2),(841,"__init__","Draft.__init__",74,0),(848,"made","Draft.made",74,1),(853,"takes_words","Draft.takes_words",74,2),(860,"takes_gone","Draft.takes_gone",74,3)])
 fr:=QS [(200,"blank",197),(242,"words",162),(242,"is_plain",169),(242,"suits",232),(242,"blank",239),(242,"word",218),(275,"words",162),(275,"is_plain",169),(275,"suits",265),(275,"blank",272),(275,"word",258),(308,"words",162),(308,"is_plain",169),(308,"suits",298),(308,"blank",305),(308,"word",291),(362,"__init__",324),(362,"words",338),(362,"is_plain",169),(362,"suits",352),(362,"blank",359),(415,"__init__",379),(415,"words",393),(415,"is_plain",169),(415,"suits",405),(415,"blank",412),(474,"__init__",431),(474,"words",445),(474,"is_plain",452),(474,"suits",464),(474,"blank",471)] ([(528,"__init__",490),(528,"words",504),(528,"is_plain",511),(528,"suits",525),(528,"blank",197),(555,"__init__",552),(627,"__init__",584),(627,"is_choice",591),(627,"field_at",598),(627,"field_of",605),(627,"true_fields",610),(646,"__init__",584),(646,"is_choice",643),(646,"field_at",598),(646,"field_of",605),(646,"true_fields",610),(755,"__init__",738),(755,"head",752),(755,"form_of",745),(863,"__init__",841),(863,"made",848),(863,"takes_words",853),(863,"takes_gone",860)])
 fz:=[(362,"most"),(415,"most"),(474,"item"),(528,"name"),(555,"number"),(555,"name"),(555,"kind"),(555,"must"),(555,"default"),(613,"name"),(613,"fields"),(613,"gone"),(627,"name"),(627,"fields"),(627,"gone"),(646,"name"),(646,"fields"),(646,"gone"),(755,"forms"),(755,"weights"),(863,"choice"),(863,"name"),(863,"fields"),(863,"gone")]
 fb:=[(242,"__init__","object.__init__"),(275,"__init__","object.__init__"),(308,"__init__","object.__init__")]
 cl:=[200,242,275,308,362,415,474,528,555,613,627,646,755,863]
 ms:=[242,275,308,362,415,474,528,555,627,646,755,863]
 kr:=QS [(200,200,true),(200,242,false),(200,275,false),(200,308,false),(200,362,false),(200,415,false),(200,474,false),(200,528,false),(242,200,true),(242,242,true),(242,275,false),(242,308,false),(242,362,false),(242,415,false),(242,474,false),(242,528,false),(275,200,true),(275,242,false),(275,275,true),(275,308,false),(275,362,false),(275,415,false),(275,474,false),(275,528,false),(308,200,true),(308,242,false),(308,275,false),(308,308,true),(308,362,false),(308,415,false),(308,474,false)] (QS [(308,528,false),(362,200,true),(362,242,false),(362,275,false),(362,308,false),(362,362,true),(362,415,false),(362,474,false),(362,528,false),(415,200,true),(415,242,false),(415,275,false),(415,308,false),(415,362,false),(415,415,true),(415,474,false),(415,528,false),(474,200,true),(474,242,false),(474,275,false),(474,308,false),(474,362,false),(474,415,false),(474,474,true),(474,528,false),(528,200,true),(528,242,false),(528,275,false),(528,308,false),(528,362,false),(528,415,false)] ([(528,474,false),(528,528,true),(613,627,false),(613,646,false),(627,627,true),(627,646,false),(646,627,false),(646,646,true),(555,555,true)]))
 kt:=[("NoneType",200,false),("NoneType",242,false),("NoneType",275,false),("NoneType",308,false),("NoneType",362,false),("NoneType",415,false),("NoneType",474,false),("NoneType",528,false),("NoneType",555,false),("str",200,false),("str",242,false),("str",275,false),("str",308,false),("str",362,false),("str",415,false),("str",474,false),("str",528,false),("str",555,false),("NoneType",627,false),("NoneType",646,false),("str",627,false),("str",646,false),("int",627,false),("int",646,false),("list",627,false),("list",646,false),("dict",627,false),("dict",646,false)]
 ni:=[("MOST_LETTERS",12),("MOST_FIGURES",80),("MOST_NUMBER",115792089237316195423570985008687907853269984665640564039457584007913129639935),("MOST_WHOLE",57896044618658097711785492504343953926634992332820282019728792003956564819967),("MOST_SIGNS",100),("MOST_THINGS",20),("LEAST_SIGN",32),("MOST_SIGN",126),("PERCENT_SIGN",37),("MOST_FORMS",8),("MOST_FIELDS",10),("MOST_GONE",10),("MOST_FIELD_NUMBER",200),("MOST_WEIGHT",100)]
 ns:=[("LETTERS","abcdefghijklmnopqrstuvwxyz"),("FIGURES","0123456789")]
 kd:=[379,552,584]
 nA:=[some (some (.builtin "getset_descriptor.__get__"))]
 nC:=[some true]
 nI:=[some 563,some 100,some 1,some 10,some 11]
 nX:=[]
 mA K:=[specialIn K (.builtin "object.__class__") "__get__"]
 mB K:=(bB K).all id
 mC K:=[takesIn K (.builtin "object.__class__")]
 mD K:=[fv K 379,fv K 552,fv K 584]
 nD p:=[fx "__init__" "Text.__init__" (Cf (Rf p 34) 0) (.ref 372),fx "__init__" "Field.__init__" (Cf (Rf p 39) 0) (.ref 545),fx "__init__" "Form.__init__" (Cf (Rf p 42) 0) (.ref 577)]
 mI K:=[uZ K 564,iv ((Jw K 372).map List.head?),(Jw K 372).map (λl=>(l.length:Int)),(Jw K 545).map lz,(Jw K 577).map lz]
 mX K:=[]
abbrev Vu:AE:=561
abbrev dE:AE:=563
noncomputable abbrev ul:List Nat:=[2,3,4,30,31,47,48,50,51,73,79,80,86,87,91,92,98,99,105,106,112,113,119,120,126,127,133,134,140,141,161,162,168,169,196,197,199,200,217,218,231,232,238,239,241,242,257,258,264,265,271,272,274,275,290,291,297,298,304,305,307,308,323,324,337,338,351,352,358,359,361,362,372,378,379,392,393,404,405,411,412,414,415,430,431,444,445,451,452,463,464,470,471,473,474,489,490,503,504,510,511,524,525,527,528,536,537,545,551,552,554,555,563,564,568,569,577,583,584,590,591,597,598,604,605,609,610,612,613,626,627,642,643,645,646,654,655,661,662,666,667,671,672,678,679,685,686,692,693,699,700,706,707,711,712,716,717,723,724,737,738,744,745,751,752,754,755,765,766,772,773,779,780,784,785,791,792,798,799,805,806,812,813,819,820,826,827,840,841,847,848,852,853,859,860,862,863,873,874,878,879,885,886,892,893,897,898,904,905,911,912,918,919,925,926,932,933,939,940,944,945,949,950,956,957,963,964,968,969,978,979,985,986,990,991,997,998,1002,1003,1007,1008,1012,1013]
abbrev Tx(K:FL)(mg:Bc->Option AB):Prop:=Tt lL BX K mg
def rR(s:AG):=let K:=Ii ul s.heap;(oB lL K,oC lL K,oD lL K,oM lL K,oI lL K,lF s.heap 561)
def sK(p:Bq):=(true,eC lL,eD lL p,eM lL p,eI lL,true)
def pV(s:AG):Option DV:=vb (Ii ul s.heap) 73
def ku(w:BU):Option DV:=va w [("yes",true),("no",false)]
def tE(s:AG):=((oA lL (Ii ul s.heap),rR s),pV s)
def tG(p:Bq)(w:BU):=((eA lL,sK p),ku w)
abbrev tp:Bq:=BX
noncomputable abbrev lo:List Bc:=(["_wall","FormError","BadBook","BadText","LETTERS","FIGURES","MOST_LETTERS","MOST_FIGURES","TRUTHS","is_whole","is_among","is_made_of","is_name","number_text","number_of","truth_text","truth_of","words_of","MOST_NUMBER","MOST_WHOLE","MOST_SIGNS","MOST_THINGS","LEAST_SIGN","MOST_SIGN","PERCENT_SIGN","is_sign","Kind","Truth","Count","Whole","Upto","Text"]:List Bc) ++ (["List","Nested","own_default","Field","own_fields","own_numbers","Form","Record","Choice","MOST_FORMS","MOST_FIELDS","MOST_GONE","MOST_FIELD_NUMBER","MOST_WEIGHT","are_unlike","is_of_size","are_named_fields","are_numbered","is_thing_kind","is_kind","is_blank","is_default","field_weight","form_weight","fault_of","need_forms","Book","weight","default_word","field_line","form_lines","book_lines"]:List Bc) ++ (["word_at","thing_kind_at","kind_at","default_of","field_in","Draft","takes_line","book_of","_law_number","_law_mixed","_law_names","_law_plain","_law_kind","_law_blank","_law_default","_law_field","_law_load","_law_weight","_law_spec","_law_kind_made","_law_field_made","_law_form_made","_law_made","_law_words","_law_line","_law_lines","_law_same_field","_law_same_form","_law_same"]:List Bc)
theorem h1:opening tp=plainProg tp.main.scope.names:=by kernel_rfl
theorem h2(s:AG):fenceModules? tp s=some s:=by kernel_rfl
theorem hsz(P:Params): (ET P).isNs Cg=true/\(ET P).objs.size=11/\(ET P).nsMap Cg "__annotations__"=Ln:=⟨by kernel_rfl,by kernel_rfl,by kernel_rfl⟩
theorem Oc(w:BU)(os:Eu):Tv bE tp w 11 Ln 12 (fN w os) (topStub tp)=some ((S0 w os).abs,⟨Qu bE (code tp),code tp,GS,[Ht GS]⟩):=by kernel_rfl
theorem dq(w:BU)(s:AG):PM bE tp w 11 Ln 1 1 s (blockOf (FF tp) (env tp) (code tp) GS [Ht GS])=some (.next,s,code tp,GS):=by kernel_rfl
abbrev Wh:FX:=⟨677,0,695,85⟩
theorem uX(w:BU)(os:Eu): (R tp 60000 (w.withFollow "special-get-raises" false) os).map (λx=>(x.1,x.2.2,Nl tp (view tp keep) lo (w.withFollow "special-get-raises" false).params x.2.1.abs))=some (.next,(code tp,Wh),Qp (view tp keep) lo):=by kernel_rfl
theorem uW(w:BU)(os:Eu): (R tp 60000 (w.withFollow "special-get-raises" true) os).map (λx=>(x.1,x.2.2,Nl tp (view tp keep) lo (w.withFollow "special-get-raises" true).params x.2.1.abs))=some (.next,(code tp,Wh),Qp (view tp keep) lo):=by kernel_rfl
theorem oQ(w:BU)(os:Eu): (R tp 60000 w os).map (λx=>(x.1,x.2.2,Nl tp (view tp keep) lo w.params x.2.1.abs))=some (.next,(code tp,Wh),Qp (view tp keep) lo):=byRow2 "special-get-raises" (P:=λw=>(R tp 60000 w os).map (λx=>(x.1,x.2.2,Nl tp (view tp keep) lo w.params x.2.1.abs))=some (.next,(code tp,Wh),Qp (view tp keep) lo)) (λw=>uX w os) (λw=>uW w os) w
theorem uV(w:BU)(os:Eu): (R tp 60000 (w.withFollow "special-get-raises" false) os).map (λx=>(x.1,x.2.2,oA lL (Ii ul x.2.1.abs.heap)))=some (.next,(code tp,Wh),eA lL):=by kernel_rfl
theorem uU(w:BU)(os:Eu): (R tp 60000 (w.withFollow "special-get-raises" true) os).map (λx=>(x.1,x.2.2,oA lL (Ii ul x.2.1.abs.heap)))=some (.next,(code tp,Wh),eA lL):=by kernel_rfl
theorem Pe(w:BU)(os:Eu): (R tp 60000 w os).map (λx=>(x.1,x.2.2,oA lL (Ii ul x.2.1.abs.heap)))=some (.next,(code tp,Wh),eA lL):=byRow2 "special-get-raises" (P:=λw=>(R tp 60000 w os).map (λx=>(x.1,x.2.2,oA lL (Ii ul x.2.1.abs.heap)))=some (.next,(code tp,Wh),eA lL)) (λw=>uV w os) (λw=>uU w os) w
def fB(y:Ir):=(oB lL (Ii ul y.abs.heap),pV y.abs)
def fR(y:Ir):=let K:=Ii ul y.abs.heap;(oD lL K,oI lL K,lF y.abs.heap 561)
def fC(y:Ir):=let K:=Ii ul y.abs.heap;(oM lL K,oC lL K)
theorem vQ(w:BU)(os:Eu): (R tp 60000 (w.withFollow "special-get-raises" false) os).map (λx=>(x.1,x.2.2,fB x.2.1))=some (.next,(code tp,Wh),(true,ku (w.withFollow "special-get-raises" false))):=by kernel_rfl
theorem vP(w:BU)(os:Eu): (R tp 60000 (w.withFollow "special-get-raises" true) os).map (λx=>(x.1,x.2.2,fB x.2.1))=some (.next,(code tp,Wh),(true,ku (w.withFollow "special-get-raises" true))):=by kernel_rfl
theorem ra(w:BU)(os:Eu): (R tp 60000 w os).map (λx=>(x.1,x.2.2,fB x.2.1))=some (.next,(code tp,Wh),(true,ku w)):=byRow2 "special-get-raises" (P:=λw=>(R tp 60000 w os).map (λx=>(x.1,x.2.2,fB x.2.1))=some (.next,(code tp,Wh),(true,ku w))) (λw=>vQ w os) (λw=>vP w os) w
theorem vO(w:BU)(os:Eu): (R tp 60000 (w.withFollow "special-get-raises" false) os).map (λx=>(x.1,x.2.2,fR x.2.1))=some (.next,(code tp,Wh),(eD lL tp,eI lL,true)):=by kernel_rfl
theorem vN(w:BU)(os:Eu): (R tp 60000 (w.withFollow "special-get-raises" true) os).map (λx=>(x.1,x.2.2,fR x.2.1))=some (.next,(code tp,Wh),(eD lL tp,eI lL,true)):=by kernel_rfl
theorem rb(w:BU)(os:Eu): (R tp 60000 w os).map (λx=>(x.1,x.2.2,fR x.2.1))=some (.next,(code tp,Wh),(eD lL tp,eI lL,true)):=byRow2 "special-get-raises" (P:=λw=>(R tp 60000 w os).map (λx=>(x.1,x.2.2,fR x.2.1))=some (.next,(code tp,Wh),(eD lL tp,eI lL,true))) (λw=>vO w os) (λw=>vN w os) w
theorem vM(w:BU)(os:Eu): (R tp 60000 (w.withFollow "special-get-raises" false) os).map (λx=>(x.1,x.2.2,fC x.2.1))=some (.next,(code tp,Wh),(eM lL tp,eC lL)):=by kernel_rfl
theorem vL(w:BU)(os:Eu): (R tp 60000 (w.withFollow "special-get-raises" true) os).map (λx=>(x.1,x.2.2,fC x.2.1))=some (.next,(code tp,Wh),(eM lL tp,eC lL)):=by kernel_rfl
theorem rc(w:BU)(os:Eu): (R tp 60000 w os).map (λx=>(x.1,x.2.2,fC x.2.1))=some (.next,(code tp,Wh),(eM lL tp,eC lL)):=byRow2 "special-get-raises" (P:=λw=>(R tp 60000 w os).map (λx=>(x.1,x.2.2,fC x.2.1))=some (.next,(code tp,Wh),(eM lL tp,eC lL))) (λw=>vM w os) (λw=>vL w os) w
theorem jn{e d:Type}{r:Option (Flow×Ir×Code×FX)}{F:Ir->e}{G:Ir->d}{c:Code×FX}{a:e}{b:d}(h1:r.map (λx=>(x.1,x.2.2,F x.2.1))=some (.next,c,a))(h2:r.map (λx=>(x.1,x.2.2,G x.2.1))=some (.next,c,b)):r.map (λx=>(x.1,x.2.2,(F x.2.1,G x.2.1)))=some (.next,c,(a,b)):=by
 cases r with
 |none=>cases h1
 |some x=>
  have f:=Ba h1;have g:=Ba h2;have f1:F x.2.1=a:=wn (λy=>y.2.2) f;have f2:G x.2.1=b:=wn (λy=>y.2.2) g;show some (x.1,x.2.2,(F x.2.1,G x.2.1))=_;rw[f1,f2];exact wn (λy=>some (y.1,y.2.1,(a,b))) f
theorem mp{e d:Type}{r:Option (Flow×Ir×Code×FX)}{F:Ir->e}{G:Ir->d}{c:Code×FX}{a:e}{b:d}(h1:r.map (λx=>(x.1,x.2.2,F x.2.1))=some (.next,c,a))(h:∀y,F y=a->G y=b):r.map (λx=>(x.1,x.2.2,G x.2.1))=some (.next,c,b):=by
 cases r with
 |none=>cases h1
 |some x=>
  have f:=Ba h1;show some (x.1,x.2.2,G x.2.1)=_;rw[h x.2.1 (wn (λy=>y.2.2) f)];exact wn (λy=>some (y.1,y.2.1,b)) f
theorem jo{A B C D E F:Type}{a l:A}{b k:B}{c j:C}{d d':D}{e i:E}{f g:F}(h: (a,(c,e,f),(d,b))=(l,(j,i,g),(d',k))): (a,b,c,d,e,f)=(l,k,j,d',i,g):=by
 cases h;rfl
theorem kc(w:BU)(os:Eu): (R tp 60000 w os).map (λx=>(x.1,x.2.2,rR x.2.1.abs))=some (.next,(code tp,Wh),sK tp):=mp (F:=λy=>((fB y).1,fR y,fC y)) (jn (F:=λy=>(fB y).1) (G:=λy=>(fR y,fC y)) (mp (F:=fB) (ra w os) λy e=>wn QO e) (jn (F:=fR) (G:=fC) (rb w os) (rc w os))) λy e=>jo e
theorem left:LeftO BX (view BX keep) lo (λs=>xlAt (view BX keep) [] s&&recOk [] s) tE (tG BX) 60100:=by
 exact jR (n:=60000) h1 h2 Oc dq oQ Pe kc (λw os=>mp (F:=fB) (G:=λy=>pV y.abs) (ra w os) λy e=>wn JJ e) hsz rfl Aa
end K9
namespace L2
open PySem PySem.Spec PyProof.Rows
section
variable{X:Cx}
end
section
variable{X:Cx}{E:XK}
variable{cm:Bool}{k:Nat}{f C:AE}{fd:Ey}{ps:List Bc}{sp:Sp}{m:Bc}{pos apos:FX}{e o:Expr}{es:List Expr}{ta:TE}{t:TA}{pl:Sem Bool}
end
end L2
namespace L2
open PySem PySem.W PyProof PyProof.Rows
section
variable{X:Cx}
theorem Xs{ns:List Int}{a:List AB}(h:Yb a ns):Cv (ns.map V.int) a:=by
 induction h with
 |nil=>exact .nil
 |cons n t h b=>exact .cons ⟨t,rfl⟩ b
theorem Ll:FE X (.builtin "sorted") (λxs H Q=>∃(p:AE) (ns:List Int),xs=[.ref p]/\Cj X.K H p (ns.map V.int)/\ns.length<64/\∀l,H l=none->Q (.ref l) (upd H l (.lst ((sortI ns).map V.int)))):=by
 intro pZ s σ H xs us Q I r h;obtain⟨p,ns,rfl,k,n,q⟩:=h;obtain⟨u,rfl,j⟩:=Ig r;cases j;obtain⟨b,d,pl,hz⟩:=I.list k;have g:b.length=ns.length:=by rw[<-d.length,Ay]
 refine sorted_ints pl.isList (Pd d) (by lia) λa c t i o=>?_;obtain⟨e,m⟩:=sortedAll_at s.heap b a;have en:c=sortI ns:=eq_sortI i o;subst en;refine⟨.ref (s.heap.objs.size+1),_,I.laid (t':=s.toks) (λ_ _=>sortedAll_old) (Da _) (show Dw X.prog X.w _ _ _ (.lst ((sortI ns).map V.int))from⟨?_,a.toList,e,Xs t,by simpa using m⟩),rfl,q _ (I.hok.fresh (Da _))⟩;rw[Ay,i.length_eq,<-Ay (f:=V.int)];exact hz
end
end L2
namespace L2
open PySem PySem.Spec PySem.W PyProof PyProof.Rows
def Hr{κ:Type} [DecidableEq κ](val:Nat->κ):Nat->List κ
 |0=>[]
 |i+1=>if val i∈Hr val i then Hr val i else Hr val i++[val i]
theorem Tf{κ:Type} [DecidableEq κ](val:Nat->κ):∀i,(Hr val i).length<=i
 |0=>AX _
 |i+1=>by
  have:=Tf val i;unfold Hr;split
  ·lia
  ·rw[AZ];simp;lia
theorem Uw{κ:Type} [DecidableEq κ](val:Nat->κ)(x:κ):∀i,x∈Hr val i ↔ ∃j,j<i/\val j=x
 |0=>⟨(λh=>(by cases h)),(λf=>(by obtain⟨j,h,_⟩:=f;exact(by lia)))⟩
 |i+1=>by
  have l:=Uw val x i;have g:=Uw val (val i) i;unfold Hr;split
  ·rename_i h;rw[l];refine⟨λd=>(by obtain⟨j,a,b⟩:=d;exact⟨j,by lia,b⟩),λc=>?_⟩;obtain⟨j,a,b⟩:=c;by_cases e:j=i
   ·subst e;obtain⟨k,k1,k2⟩:=g.mp h;exact⟨k,k1,k2.trans b⟩
   ·exact⟨j,by lia,b⟩
  ·rw[BZ,l];refine⟨λh=>?_,λ⟨j,a,b⟩=>?_⟩
   ·rcases h with⟨j,a,b⟩|h
    ·exact⟨j,by lia,b⟩
    ·exact⟨i,by lia,(AM.mp h).symm⟩
   ·by_cases e:j=i
    ·subst e;exact .inr (AM.mpr b.symm)
    ·exact .inl ⟨j,by lia,b⟩
theorem aI{κ:Type} [DecidableEq κ](val:Nat->κ):∀i,(Hr val i).length=i ↔ ∀a b,a<b->b<i->val a≠val b
 |0=>⟨(λ_ a b _ h=>(by lia)),λ_=>rfl⟩
 |i+1=>by
  have d:=aI val i;have le:=Tf val i;have mem:=Uw val (val i) i;unfold Hr;split
  ·rename_i h;refine⟨(λz=>(by lia)),λz=>?_⟩;obtain⟨j,a,b⟩:=mem.mp h;exact wo b (z j i a (by lia))
  ·rename_i h;rw[AZ,Fm];refine⟨λz a b c hb=>?_,λz=>?_⟩
   ·by_cases e:b=i
    ·subst e;exact λy=>h (mem.mpr ⟨a,c,y⟩)
    ·exact d.mp (by lia) a b c (by lia)
   ·have:=d.mpr λa b c hb=>z a b c (by lia)
    lia
section
variable{prog:Bq}{w:BU}{A:CH}{R:Result->AG->Prop}{I:AE}{fp wr:List AE}{G:Array GenState->Array GenState->Prop}{n:Nat}{P:Nat->AB->Prop}{St:Nat->AG->Prop}{κ:Type} [DecidableEq κ]
theorem bz{knd:Jq prog w κ}{h:Ct}{a:AE}{S b:κ->Bool}{n c:Nat}(d:h.SetOf knd a S n)(e:∀k,S k=b k)(en:n=c):h.SetOf knd a b c:=by
 cases (funext e:S=b);cases en;exact d
theorem se(knd:Jq prog w κ)(W:WalksS prog w A.in1 I fp wr G n P St)(S:AE)(l:S∉fp)(val:Nat->κ)(g:∀i v,P i v->knd.is (val i) v=true/\v.scannable=true)(hb:n+1<Vp)(d:Nat):∀(i:Nat) (s:AG),i+d=n->St i s->s.heap.SetOf knd S (λx=>decide (x∈Hr val i)) (Hr val i).length->(∀s',Moved (S::wr) G s s'->s'.heap.SetOf knd S (λx=>decide (x∈Hr val n)) (Hr val n).length->R (.ok (.ret .none)) s')->KJ (model prog w) A (.builtin "set.update.loop" ⟨[.ref S,.ref I],[]⟩) R s:=by
 have p:S∉wr:=λh=>l (W.sub _ h);have keep:∀{s s':AG} {T:κ->Bool} {m:Nat},Moved wr G s s'->s.heap.SetOf knd S T m->s'.heap.SetOf knd S T m:=λa k=>(by obtain⟨o,es,J,t,ho,r⟩:=k;exact⟨o,es,J,t,a.heap S _ p ho,r⟩);have wide:∀{s s':AG},Moved wr G s s'->Moved (S::wr) G s s':=λa=>a.mono λb hb=>BG _ hb;induction d with
 |zero=>
  intro i s hi f D q;cases (show i=n by lia);refine IQ RK ?_;rw[Around.under_plainId HG _];refine AR (m:=pyNext (.ref I)) (W.done s _ _ f λs' a=>?_);exact Bx (q s' (wide a) (keep a D))
 |succ d E=>
  intro i s hi f D q;refine IQ RK ?_;rw[Around.under_plainId HG _];refine AR (m:=pyNext (.ref I)) (W.item i s _ _ (by lia) f λv s' H j a=>?_);obtain⟨k1,k2⟩:=g i v H;refine AR (m:=holding [v] (setAdd S v)) (IJ ?_);unfold setAdd;refine IJ (AR (knd.pyHash k1 ?_));have room: (Hr val i).length+1<Vp:=by have:=Tf val i;lia
  refine wpAny_setAddHashed_of (knd:=knd) (s:={s' with toks:=s'.toks+1}) k1 k2 (show s'.heap.SetOf knd S _ _ from keep a D) room λh' sb C=>?_;have B:h'.SetOf knd S (λx=>decide (x∈Hr val (i+1))) (Hr val (i+1)).length:=by
   refine bz C (λx=>?_) ?_
   ·rw[show Hr val (i+1)=if val i∈Hr val i then Hr val i else Hr val i++[val i]from rfl]
    by_cases c:val i∈Hr val i
    ·rw[wm c];by_cases e:x=val i
     ·subst e;simp[c]
     ·simp[e]
    ·rw[wk c];simp only[BZ,AM,Bool.decide_or]
   ·rw[show Hr val (i+1)=if val i∈Hr val i then Hr val i else Hr val i++[val i]from rfl]
    by_cases c:val i∈Hr val i
    ·simp[c]
    ·simp[c]
  refine Bx ⟨plainId_quiet HG _,E (i+1) _ (by lia) (W.frame _ s' _ _ j (Da _) λb hb o e=>?_) B λs2 u y=>?_⟩
  ·rw[sb.2 b (λz=>l (by rw[<-z];exact hb))];exact e
  ·refine q s2 (Moved.trans W.gtrans ((wide a).then_heap (Da _) λb o hb e=>?_) u) y;rw[sb.2 b (λz=>hb (by rw[z];exact BQ))];exact e
end
section
variable{prog:Bq}{w:BU}{A:CH}{E:AB->AG->Prop}{s:AG}{κ:Type} [DecidableEq κ]
def LK(led:Bool):Obj:={cls:=.type "set",dict:=none,data:=.set #[] 0 (.fresh 0 0 led)}
theorem iR(knd:Jq prog w κ){l:AE}{items:Array AB}{led:Bool}(z:A.handled=none)(y:s.heap.IsList l items)(val:Nat->κ)(u:∀i v,items[i]?=some v->knd.is (val i) v=true/\v.scannable=true)(hb:items.size+1<Vp){R:Result->AG->Prop}(h:∀(h':Ct) (tk:Nat),h'.SetOf knd s.heap.objs.size (λx=>decide (x∈Hr val items.size)) (Hr val items.size).length->(∀b o,s.heap.get? b=some o->h'.get? b=some o)->R (.ok (.ret .none)) {s with heap:=h',toks:=tk}):
  BN (model prog w) A (Builtin.«set.__init__» ⟨[.ref s.heap.objs.size,.ref l],[]⟩) (λf s'=>∃r,f= .done (.ret r)/\R (.ok (.ret r)) s') E {s with heap:=s.heap.push (LK led)}:=by
 obtain⟨o,ho,hc,m,hd⟩:=y;have t: (s.heap.push (LK led)).get? s.heap.objs.size=some (LK led):=Bo _ rfl;have C:Shared.TypeIs {s with heap:=s.heap.push (LK led)} (.ref s.heap.objs.size) "set":=⟨_,t,rfl⟩;have a: (s.heap.push (LK led)).IsList l items:=⟨o,AK _ ho,hc,m,hd⟩;have B:Shared.TypeIs {s with heap:=s.heap.push (LK led)} (.ref l) "list":=⟨_,AK _ ho,hc⟩;have p:=F.sub_list_set;have q:=F.sub_list_frozenset;have hne: (IU "list"==IU "dict")=false:=by decide
 unfold Builtin.«set.__init__» noKeywords Builtin.Frozenset.updateFrom;generalize k:pyIter=PI
 wp_walk
 subst k;refine OO a ?_;refine AR (wpAny_runValue ?_);have lt:l<s.heap.objs.size:=Bu ho;have sz: (s.heap.push (LK led)).objs.size=s.heap.objs.size+1:=JM ..;refine se knd ((Walks.list (by simp[z]) _ l (by rw[sz];exact BE (ED lt)) items).toS) s.heap.objs.size ?_ val u hb items.size 0 _ (by lia) ⟨⟨_,Bo _ rfl,rfl,rfl⟩,a.push _⟩ ?_ λs' c j=>?_
 ·simp only[AU,BL,or_false,not_or];exact⟨by rw[sz];exact BE (Hw _),IK lt⟩
 ·exact bz ((setObjOf_fresh (knd:=knd) led).setOf (AK _ t) (by unfold Vp;lia)) (λ_=>rfl) rfl
 ·obtain⟨h',g',d',d,g⟩:=s';cases (show g'=s.gens from c.gens);cases (show d'=s.drawn from c.drawn);cases (show g=s.os from c.os);refine Bx (Bx ⟨_,rfl,h h' d j λb o e=>?_⟩);have n:=Bu e;exact c.heap b o (by simp only[AU,BL,or_false,not_or];exact⟨BE n,by rw[sz];exact BE (ED n)⟩) (AK _ (AK _ e))
theorem dF(knd:Jq prog w κ){l:AE}{items:Array AB}{Q:AB->AG->Prop}(q:A.handled=none)(p:s.heap.IsList l items)(val:Nat->κ)(m:∀i v,items[i]?=some v->knd.is (val i) v=true/\v.scannable=true)(hb:items.size+1<Vp)(h:∀(h':Ct) (tk:Nat),h'.SetOf knd s.heap.objs.size (λx=>decide (x∈Hr val items.size)) (Hr val items.size).length->(∀b o,s.heap.get? b=some o->h'.get? b=some o)->Q (.ref s.heap.objs.size) {s with heap:=h',toks:=tk}):
  BN (model prog w) A (call (.type "set") [.ref l]) Q E s:=by
 obtain⟨_,_,j⟩:=F.called_set.mro;have d:=F.called_set.made;have g:=F.called_set.sub;have h1:=F.called_set.notType;have h2:=F.called_set.canCreate;have u:=F.typeCall_set_1 (.ref l);have n:=F.called_set.init.lookup;have y:=F.called_set.init.bind (.ref s.heap.objs.size);refine RD (codeAny_of_tree (Bx (a:=_) ⟨Code.quiet_builtin _ Ab,IQ F.entry_type_call ?_⟩));rw[Around.under_plain (weight_type_call_type "set" [.ref l] []) rfl]
 repeat (any_goals (first|assumption|wp_step))
 refine MC (code_set_new_1 (.ref l) (E:=E) (Q₁:=λv t=>∃led:Bool,v= .ref s.heap.objs.size/\t={s with heap:=s.heap.push (LK led)}) λled=>⟨led,rfl,rfl⟩) λr t c=>?_
 match r,c with
 |.error e,c=>exact c
 |.ok (.ret v),c=>
  obtain⟨led,rfl,rfl⟩:=c;have z:Shared.TypeIs {s with heap:=s.heap.push (LK led)} (.ref s.heap.objs.size) "set":=⟨_,Bo _ rfl,rfl⟩
  repeat (any_goals (first|assumption|wp_step))
  refine MC (codeAny_call_builtin (R:=wants (λr t=>r= .none/\Q (.ref s.heap.objs.size) t) E) F.called_set.init.plain F.entry_set_init (check_set_init_1 z ?_)) λk B kc=>?_
  ·have fill:=iR (A:=A.in1.in1) (E:=E) (led:=led) knd (by simp[q]) p val m hb (R:=wants (λr t=>r= .none/\Q (.ref s.heap.objs.size) t) E) λh' tk a b=>⟨rfl,h h' tk a b⟩;refine Ia fill (λf t h=>?_) λe t h=>h;obtain⟨r,rfl,c⟩:=h;exact c
  ·match k,kc with
   |.error e,kc=>exact kc
   |.ok (.ret r),kc=>
    obtain⟨rfl,C⟩:=kc
    repeat (any_goals (first|assumption|wp_step))
end
section
variable{X:Cx}
def bh{κ:Type} [DecidableEq κ](d:κ)(ks:List κ):Nat:=(Hr (λi=>ks.getD i d) ks.length).length
theorem nK{κ:Type} [DecidableEq κ](d:κ)(ks:List κ):bh d ks<=ks.length:=Tf _ _
theorem bg{κ:Type} [DecidableEq κ](d:κ)(ks:List κ):bh d ks=ks.length ↔ ks.Nodup:=by
 unfold bh;rw[aI];have at_:∀{i:Nat} (hi:i<ks.length),ks.getD i d=ks[i]:=λ{i} hi=>by rw[AL,Az hi];rfl
 show _ ↔ ks.Pairwise (·≠ ·);rw[Ft];refine⟨λh i j hi f e=>?_,λh a b c hb=>?_⟩
 ·rw[<-at_ hi,<-at_ f];exact h i j e f
 ·rw[at_ (IL c hb),at_ hb];exact h a b _ _ c
def lH{κ:Type} [DecidableEq κ](K:AF)(mk:κ->V)(d:κ)(t:TE):TE:=λσ H Q=>t σ H λx H1=>∃(p:AE) (ks:List κ),x= .ref p/\Cj K H1 p (ks.map mk)/\ks.length<=100/\Q (.int (bh d ks:Int)) H1
theorem Xd{κ:Type} [DecidableEq κ]{mk:κ->V}(d:κ)(knd:Jq X.prog X.w κ)(N:∀k v,Dd (mk k) v->knd.is k v=true/\v.scannable=true){e:Expr}{te:TE}{x y:Bc}{p1 p2 pos a:FX}(hc:X.calm=true)(O:PE X e te)(hg:Gl X x)(hm:X.mg x=none)(m:Co x=some (.builtin "len"))(A:Gl X y)(r:X.mg y=none)(l:Co y=some (.type "set"))(hn:x≠ "__name__":=by decide)(B: (x==("__debug__" :Bc))=false:=by decide)(n:y≠ "__name__":=by decide)(j: (y==("__debug__" :Bc))=false:=by decide)(hs:BW [e] X.env=[(false,Ea e X.env)]:=by rfl):
  PE X (.Call (.Name x p1) [.Call (.Name y p2) [e] [] a] [] pos) (lH X.K mk d te):=by
 intro pZ s σ H Q I h;refine CQ (Ku I hg hm m ?_ hn B);refine WN (e:=.Call (.Name y p2) [e] [] a) (rest:=[]) ?_;show BN _ _ (spliced ((false,Ea (.Call (.Name y p2) [e] [] a) X.env)::[])) _ _ s;refine GV ?_;refine CQ (Ku I A r l ?_ n j);refine EL (e:=e) (rest:=[]) ?_ (by rw[hs];rfl);rw[hs];show BN _ _ (spliced ((false,Ea e X.env)::[])) _ _ s;refine GV (Ei (O pZ s σ H _ I h) λu s1 g=>?_);obtain⟨v,H1,D,J,p,ks,R,L,S,q⟩:=g;refine JN ?_;subst R;cases J;obtain⟨c,E,pl,hz⟩:=D.list L;have b:c.length=ks.length:=by rw[<-E.length,Ay]
 have big: (102:Nat) <Vp:=by decide
 refine dF knd (D.ok.hd hc) pl.isList (λi=>ks.getD i d) (λi v m=>?_) (by simp only[Bs];lia) λh' tk P z=>?_
 ·have f:c[i]?=some v:=by simpa using m
  have hi:i<ks.length:=by rw[<-b];exact(AO.mp f).1
  obtain⟨u,F,G⟩:=E.get (show(ks.map mk)[i]?=some (mk (ks.getD i d))by rw[AT,AL,Az hi];rfl);rw[f]at F;cases F;exact N _ _ G
 obtain⟨o,es,T,t,ho,hex,hd,_,_,_,hf,hsz⟩:=P;refine JN ?_;have C:es.size=bh d ks:=by
  rw[hsz];unfold bh;simp only[Bs,b]
 have M:=nK d ks;refine call_len_set (s:={s1 with heap:=h',toks:=tk}) ho hex hd hf (by lia) ?_;exact⟨.int (bh d ks:Int),H1,D.kept (t':=tk+1+1) z,⟨tk+1,by rw[C]⟩,q⟩
theorem ZZ{prog:Bq}{w:BU}(k:Int)(v:AB)(h:Dd (.int k) v): (intKind prog w).is k v=true/\v.scannable=true:=by
 obtain⟨t,rfl⟩:=h;exact⟨intKind_is _ _ _ _,rfl⟩
theorem ZY{prog:Bq}{w:BU}(k:Bc)(v:AB)(h:Dd (.str k) v): (PySem.strKind prog w).is k v=true/\v.scannable=true:=by
 obtain⟨t,rfl⟩:=h;exact⟨strKind_is _ _ _ _,rfl⟩
end
section
variable{X:Cx}
theorem OL(hc:X.calm=true):FE X (.builtin "min") (λxs H Q=>∃(p:AE) (ns:List Int),xs=[.ref p]/\Cj X.K H p (ns.map V.int)/\0<ns.length/\∀M,M∈ns->(∀a∈ns,M<=a)->Q (.int M) H):=by
 intro pZ s σ H xs us Q I r h;obtain⟨p,ns,rfl,k,hne,q⟩:=h;obtain⟨u,rfl,d⟩:=Ig r;cases d;obtain⟨g,f,pl,hz⟩:=I.list k;have hi:=Pd f;have c:=pl.isList;obtain⟨ys,e⟩:=hi.allInts.items;have b:ns=ys.toList.map (·.1):=by rw[<-hi.numsOf,<-nums_intItems,<-e]
 have hsz:0<ys.size:=by
  have:=hne;rw[b,Ay,EJ]at this;exact this
 rw[e]at c;refine min_intList (I.ok.hd hc) c hsz λv h' tk i l=>?_;obtain⟨t,rfl⟩:=intItems_at i;obtain⟨h1,h2⟩:=argBest_lt (numAt ys) (ys.size - 1);refine⟨.int _,H,I.kept (t':=tk) l,⟨t,rfl⟩,q _ ?_ λa ha=>?_⟩
 ·rw[b,numAt_eq];exact getD_mem (by rw[Ay,EJ];lia)
 ·rw[b]at ha;obtain⟨j,m,rfl⟩:=mem_getD ha;rw[Ay,EJ]at m;rw[<-numAt_eq];exact h2 j (by lia)
end
end L2
namespace L2
open PySem PySem.Spec PyProof.Rows
def Zf(c:AE)(q:Bc):HO:=.ext λh=>h.CodeRec (.ref c) q
def aW(f:AE)(ob:Obj):HO:=.ext λh=>h.get? f=some ob
section
variable{P:Bq}{w:BU}{H:Hp}{h:Ct}
theorem nM{c:AE}{q:Bc}(x:h.CodeRec (.ref c) q):Dw P w H h c (Zf c q):=by
 refine⟨x,?_,?_⟩
 ·obtain⟨b,oc,vs,t,e,ho,_⟩:=x;cases e;exact⟨_,ho⟩
 ·rintro h1 h2 ⟨b,oc,vs,t,e,ho,hd,a⟩ k;cases e;exact⟨_,oc,vs,t,rfl,k _ ho,hd,a⟩
theorem fy{f:AE}{ob:Obj}(x:h.get? f=some ob):Dw P w H h f (aW f ob):=⟨x,⟨_,x⟩,λh1 h2 e k=>k _ e⟩
theorem bp{c:AE}{q:Bc}(ok:Md P w H h)(e:H c=some (Zf c q)):h.CodeRec (.ref c) q:=(show Dw P w H h c (Zf c q)from ok c _ e).1
theorem aV{f:AE}{ob:Obj}(ok:Md P w H h)(e:H f=some (aW f ob)):h.get? f=some ob:=(show Dw P w H h f (aW f ob)from ok f _ e).1
end
def HZ(H:Hp)(T:AE)(pos:FX)(q:Bc):Prop:=H T=some (.tbl #[])\/∃c,H T=some (.tbl #[rawInt pos.line,rawInt pos.col,.ref c])/\H c=some (Zf c q)
def QF(T:AE)(H H':Hp):Prop:=∀b o,b≠T->H b=some o->H' b=some o
section
variable{P:Bq}{w:BU}{H:Hp}{h h':Ct}{T c f:AE}{ps:Array AB}{oc of:HO}{fs:List AE}
theorem pi(j:∀b o,b≠T->h.get? b=some o->h'.get? b=some o)(g:H T=some (.tbl #[]))(l:∃o,h'.get? T=some o)(hc:h.objs.size<=c)(hf:h.objs.size<=f)(d:H c=none)(a:H f=none):
  Un fs [] H (upd (upd (upd H T (.tbl ps)) c oc) f of) h h':=by
 have i:∀b,H b=none->b≠T:=λb n e=>by rw[e,g]at n;cases n
 have new:∀b o,b≠T->H b=some o->upd (upd (upd H T (.tbl ps)) c oc) f of b=some o:=λb o n e=>by
  rw[Bb (Bt e a),Bb (Bt e d),Bb n];exact e
 have k:∀b o,H b=some o->(∀qs,o≠ .tbl qs)->b≠T:=λb o e n z=>by rw[z,g]at e;exact n _ (Ba e).symm
 refine⟨λb o e n _ _=>j b o (i b n) e,λb o e n _ _=>⟨o.slots,j b o (i b n) e⟩,λb o e n _=>?_,λb o e _=>?_,λb xs e=>new b _ (k b _ e λ_ z=>by cases z) e,λb o u e=>new b _ (k b _ e λ_ z=>by cases z) e,λb qs e=>?_⟩
 ·have lt:=Bu e;rw[Bb (BE (BP lt hf)),Bb (BE (BP lt hc)),Bb (i b n)];exact n
 ·by_cases hb:b=T
  ·rw[hb];exact l
  ·exact⟨o,j b o hb e⟩
 ·by_cases hb:b=T
  ·subst hb;rw[g]at e;cases e;refine⟨ps,?_⟩;rw[Bb (Bt g a),Bb (Bt g d),AC];simp
  ·exact⟨#[],by rw[new b _ hb e];simp⟩
theorem nk(ok:Md P w H h)(k:∀b o,b≠T->h.get? b=some o->h'.get? b=some o)(m:H T=some (.tbl #[]))(p:h'.get? T=some {cls:=.none,data:=.fields ps})(j:H c=none)(i:H f=none)(l:c≠f)(g:∀H:Hp,Dw P w H h' c oc)(d:∀H:Hp,Dw P w H h' f of):Md P w (upd (upd (upd H T (.tbl ps)) c oc) f of) h':=λb o e=>by
 have new:∀b o,b≠T->H b=some o->upd (upd (upd H T (.tbl ps)) c oc) f of b=some o:=λb o n e=>by
  rw[Bb (Bt e i),Bb (Bt e j),Bb n];exact e
 have a:∀b o,H b=some o->(∀qs,o≠ .tbl qs)->b≠T:=λb o e n z=>by rw[z,m]at e;exact n _ (Ba e).symm
 by_cases hf:b=f
 ·subst hf;rw[AC]at e;cases e;exact d _
 rw[Bb hf]at e;by_cases hc:b=c
 ·subst hc;rw[AC]at e;cases e;exact g _
 rw[Bb hc]at e;by_cases hb:b=T
 ·subst hb;rw[AC]at e;cases e;exact p
 rw[Bb hb]at e;refine(ok b o e).stay (λx u hx q=>k x u ?_ q) (λx q=>new x _ (a x _ q λ_ z=>by cases z) q) λx xs q=>new x _ (a x _ q λ_ z=>by cases z) q;rcases hx with rfl|hx
 ·exact hb
 ·exact a x _ hx λ_ z=>by cases z
end
section
variable{X:Cx}{c T:AE}{params:KH}{body:Expr}{scope:Scope}{pos:FX}
def px(T:AE)(pos:FX)(q:Bc)(params:KH)(body:Expr)(scope:Scope)(pm:AB):TE:=λ_ H Q=>HZ H T pos q/\∀f a ctv H',H f=none->QF T H H'->HZ H' T pos q->H' a=some (Zf a q)->H' f=some (aW f (Fw "<lambda>" q params body scope [] pm a ctv))->Q (.ref f) H'
theorem Xe(u:defaultsOf params X.env=([],[]))(v:closureFor scope X.env=IX [])(f:X.env.code= .ref c)(C:Hh X.base c T)(M:X.base.BuiltinsAt X.mg T):
  PE X (.Lambda params body scope pos) (px T pos (X.env.qual++ "<lambda>") params body scope ((X.mg "__name__").getD .none)):=by
 rintro pZ s σ H Q I ⟨K,q⟩;refine PySem.W.kla_eval u ?_;have hg:s.heap.Ns Cg X.mg:=I.ok.mod.glob.keeps I.bk;have F:Hh s.heap c T:=C.keeps I.bk;have hb:s.heap.BuiltinsAt X.mg T:=let ⟨bm,o,h1,h2,h3,O,N,r⟩:=M;⟨bm,o,h1,h2,h3,O,I.bk _ _ N,r⟩;rcases K with i|⟨d,i,h⟩
 ·have x:s.heap.get? T=some (QK #[]):=I.hok T _ i;have D:Cg≠T:=λe=>by
   obtain⟨o,es,R,ho,hd,_⟩:=hg;rw[e,x]at ho;cases ho;cases hd
  refine PySem.W.kla_makeFunction v I.ok.glob hg f F x trivial rfl D hb λd ctv h' tk hx k m l A=>?_;have g:H d=none:=I.hok.fresh k;have p:s.heap.objs.size<=h'.objs.size:=AJ k (Gs m);have a:H h'.objs.size=none:=I.hok.fresh p;have E:∀b o,b≠T->s.heap.get? b=some o->(h'.push (Fw "<lambda>" (X.env.qual++ "<lambda>") params body scope [] ((X.mg "__name__").getD .none) d ctv)).get? b=some o:=λb o n e=>AK _ (hx b o n e);have w:=AK (Fw "<lambda>" (X.env.qual++ "<lambda>") params body scope [] ((X.mg "__name__").getD .none) d ctv) A;have j:d≠h'.objs.size:=BE m;have y:T≠h'.objs.size:=Bt i a;have z:T≠d:=Bt i g;obtain⟨S,oc,vs,t,P,B,hd,J⟩:=l;cases P;refine⟨.ref h'.objs.size,_,I.un (t':=tk) (pi E i ⟨_,w⟩ k p g a) (nk I.hok E i w g a j (λ_=>nM (q:=X.env.qual++ "<lambda>") ⟨d,oc,vs,t,rfl,AK _ B,hd,J⟩) (λ_=>fy (Bo _ rfl))),rfl,q _ d ctv _ a (λb o n e=>?_) (.inr ⟨d,?_,?_⟩) ?_ AC⟩
  ·rw[Bb (Bt e a),Bb (Bt e g),Bb n];exact e
  ·rw[Bb y,Bb z,AC];rfl
  ·rw[Bb j,AC]
  ·rw[Bb j,AC]
 ·have x:s.heap.get? T=some (QK #[rawInt pos.line,rawInt pos.col,.ref d]):=I.hok T _ i;refine PySem.W.kla_makeFunctionHit (cv:=.ref d) v I.ok.glob hg f F x trivial (by simp[codeAmong,rawInt]) hb λctv h' tk L hsz=>?_;have a:H h'.objs.size=none:=I.hok.fresh hsz;have G:∀b o,s.heap.get? b=some o->(h'.push (Fw "<lambda>" (X.env.qual++ "<lambda>") params body scope [] ((X.mg "__name__").getD .none) d ctv)).get? b=some o:=λb o e=>AK _ (L b o e);refine⟨.ref h'.objs.size,_,I.laid (t':=tk) G hsz (fy (Bo _ rfl)),rfl,q _ d ctv _ a (λb o n e=>?_) (.inr ⟨d,?_,?_⟩) ?_ AC⟩
  ·rw[Bb (Bt e a)];exact e
  ·rw[Bb (Bt i a)];exact i
  ·rw[Bb (Bt h a)];exact h
  ·rw[Bb (Bt h a)];exact h
end
theorem Paired.perm{g f:Type}{R:g->f->Prop}{m h:List f}(p:m.Perm h):∀{l:List g},Paired R l m->∃c,c.Perm l/\Paired R c h:=by
 induction p with
 |nil=>exact λ{l} r=>⟨l,.refl _,r⟩
 |cons x p o=>
  intro l r;cases r with
  |cons a t=>
   obtain⟨c,n,k⟩:=o t;exact⟨_::c,n.cons _,.cons a k⟩
 |swap x y t=>
  intro l r;cases r with
  |cons a r=>
   cases r with
   |cons b r=>exact⟨_::_::_,.swap ..,.cons b (.cons a r)⟩
 |trans p q e d=>
  intro l r;obtain⟨s,p1,j⟩:=e r;obtain⟨l2,p2,i⟩:=d j;exact⟨l2,p2.trans p1,i⟩
abbrev KP:Int×V->Int×AB->Prop:=λp q=>p.1=q.1/\Dd p.2 q.2
theorem bJ:∀(ks:List Int) {xs:List V} {vs:List AB},Cv xs vs->Paired KP (ks.zip xs) (ks.zip vs)
 |[],_,_,_=>.nil
 |_::_,_,_,.nil=>.nil
 |k::ks,_,_,.cons a r=>.cons ⟨rfl,a⟩ (bJ ks r)
theorem YR:∀{qs:List (Int×V)} {ps:List (Int×AB)},Paired KP qs ps->Cv (qs.map JJ) (ps.map JJ)
 |_,_,.nil=>.nil
 |_,_,.cons a r=>.cons a.2 (YR r)
theorem di:∀{qs:List (Int×V)} {ps:List (Int×AB)},Paired KP qs ps->qs.map QO=ps.map QO
 |_,_,.nil=>rfl
 |_,_,.cons a r=>by rw[Bf,Bf,a.1,di r]
def Mc(ks:List Int)(xs ys:List V):Prop:=∃qs:List (Int×V),qs.Perm (ks.zip xs)/\ys=qs.map JJ/\qs.Pairwise λp q=>p.1<=q.1
section
variable{X:Cx}{params:KH}{scope:Scope}{y fld q:Bc}{yp ap:FX}{pm:AB}
abbrev kW(y fld:Bc)(yp ap:FX):Expr:=.Attribute (.Name y yp) fld ap
structure fP(params:KH)(scope:Scope)(y fld q:Bc)(yp ap:FX):Prop where
 bind:∀pm cd ctv v,bindArgs (PySem.W.kla_fn "<lambda>" q params (kW y fld yp ap) scope [] pm cd ctv) ⟨[v],[]⟩=IX [(y,v)]
 co:scope.isCoroutine=false
 gen:scope.isGenerator=false
 kind:scope.kind= .function
 cell:∀x∈scope.names,x.2≠ .cell
 loc:scope.names.lookup y=some .local
 ab:∀env t,Hn (.Name y yp) fld env t=t
 nd: (y==("__debug__" :Bc))=false
theorem Zh(G:fP params scope y fld q yp ap)(M:X.A.depth<JH){pZ:List (AE×Obj)}{σ:St}{H:Hp}{s:AG}{Q:VK}{l f c:AE}{xs:List V}{ks:List Int}{ctv:AB}(I:Cr X pZ σ H s)(hl:H l=some (.lst xs))(b7:xs.length<64)(a2:ks.length=xs.length)(hx:∀(i:Nat) (v:V) (k:Int),xs[i]?=some v->ks[i]?=some k->∃a C dx fs,v= .ref a/\H a=some (.ins C dx fs)/\NV X.K C/\Go X.K C fld/\fs.lookup fld=some (.int k))(hf:H f=some (aW f (Fw "<lambda>" q params (kW y fld yp ap) scope [] pm c ctv)))(hc:H c=some (Zf c q))(h:∀D ys,H D=none->Mc ks xs ys->Q (.ref D) (upd H D (.lst ys))):
  BN (model X.prog X.w) X.A (call (.builtin "sorted") [.ref l] [(BJ "key",.ref f)]) (EP X pZ σ Q) X.xe s:=by
 obtain⟨m,hn,_⟩:=id I.loc;obtain⟨a9,r,pl,hz⟩:=I.list (Cj.of hl);have j:=r.length;have J:∀{b:AE} {o:HO},H b=some o->b≠X.env.locals:=λe=>Bt e I.free;have R:∀b o,X.base.get? b=some o->b≠X.env.locals:=λb o e=>BE (BP (Bu e) (AJ I.ok.bsz I.ok.above));have N:∀h':Ct,(∀b o,b≠X.env.locals->s.heap.get? b=some o->h'.get? b=some o)->Md X.prog X.w H h':=λh' F b u e=>
  (I.hok b u e).stay (λx v d z=>F x v (by
   rcases d with rfl|d
   ·exact J e
   ·exact J d) z) (λ_ z=>z) λ_ _ z=>z
 refine PyProof.Rows.ksk_sorted (b:=false) (f:=.ref f) (m:=m) (L:=X.env.locals) (h₀:=Att.noObjs s.heap) (news:=Att.ledger s.heap X.env.locals X.env.locals) (vs:=a9) (kz:=ks) (Att.fr_all hn) (λp hp=>⟨(Att.mem_ledger.mp (show(p.1,p.2)∈_ from hp)).2.2,(Att.mem_ledger.mp (show(p.1,p.2)∈_ from hp)).1,Att.noObjs_get _ _⟩) pl.isList (by rw[a2,j]) (by rw[<-j];exact b7)
  (ksk_s1 _ _) (λx=>ksk_l1 _ _) (λx=>ksk_t1 _ _) (λi v k hv hk h1 tk own F1 N1=>?_) λD h1 tk P n F1 N1 b3 a0=>?_
 ·have F:∀b o,b≠X.env.locals->s.heap.get? b=some o->h1.get? b=some o:=λb o n e=>(N1 (b,o) (Dq _ (Att.mem_ledger.mpr ⟨n,n,e⟩))).1;have B:=N h1 F;have U:X.K.In h1:=I.ok.mod.kin.keeps λb o e=>F b o (R b o e) (I.bk b o e);have S:h1.NoLimit:=I.ok.mod.nolimit.keeps λb o e=>F b o (R b o e) (I.bk b o e);have hi:i<xs.length:=by rw[j];exact(AO.mp hv).1
  obtain⟨x,Y⟩:∃x,xs[i]?=some x:=⟨_,Az hi⟩;obtain⟨u0,Z,rx⟩:=r.get Y;rw[hv]at Z;cases Z;obtain⟨a,C,dx,fs,rfl,ha,cC,nA,b4⟩:=hx i x k Y hk;obtain rfl:v=BD a:=rx;refine RD (PySem.W.kla_callFunE M (aV B hf) rfl G.co G.gen rfl (bp B hc) ?_);rw[G.bind];refine Bx (UY G.cell (λz hz=>?_) (λh2 b1 b0=>?_) G.kind)
  ·rw[AM.mp hz];exact G.loc
  ·have E:∀b o,h1.get? b=some o->h2.get? b=some o:=λb o e=>b0.extBut b o (BE (Bu e)) (AK _ e);refine⟨S.keeps E,PySem.W.kla_codeExpr (Zj (G.ab _ _) (wpAny_Name (UZ G.kind G.loc b1 (show _=some (BD a)by simp[Ew]) ?_) G.nd))⟩;obtain⟨mA,O,rO,_,_,_⟩:=LX (B.kept E) ha;obtain⟨u,hu,ru⟩:=Lo.some_of (v:=.int k) (o:=mA fld) (by rw[<-b4];exact rO fld);obtain⟨t,rfl⟩:=(show ∃t,u=EA k t from ru);exact YW (U.keeps E) O (cC.get fld) cC.hd nA hu rfl ⟨h2,_,t,rfl,rfl,F1.kept E,N1.grown E⟩
 ·have F:∀b o,b≠X.env.locals->s.heap.get? b=some o->h1.get? b=some o:=λb o n e=>(N1 (b,o) (.tail _ (Att.mem_ledger.mpr ⟨n,n,e⟩))).1;have hD:=N1 (D,EG "list" P n) (.head _);have a5:s.heap.get? D=none:=by
   cases e:s.heap.get? D with
   |none=>rfl
   |some o=>exact wo (b3 (D,o) (Att.mem_ledger.mpr ⟨hD.2.1,hD.2.1,e⟩)) (DZ _)
  have g:H D=none:=by
   cases e:H D with
   |none=>rfl
   |some u=>
    obtain⟨o,z⟩:=(I.hok D u e).some_of;rw[a5]at z;cases z
  obtain⟨ps,pp,po,a8⟩:=a0;obtain⟨qs,pq,rq⟩:=Paired.perm pp.symm (bJ ks r);have vq:=YR rq;have srt:qs.Pairwise λp q=>p.1<=q.1:=by
   have z: (ps.map QO).Pairwise (·<= ·):=Ed.mpr (a8.imp λh=>by simpa using h);rw[<-di rq]at z;exact Ed.mp z
  have T: (qs.map JJ).length=xs.length:=by
   rw[Ay,pq.length_eq,List.length_zip,a2,Nat.min_self]
  refine⟨.ref D,upd H D (.lst (qs.map JJ)),?_,rfl,h D _ g ⟨qs,pq,rfl,srt⟩⟩;refine I.step (g':=s.gens) (d':=s.drawn) (t':=tk) (ch:=[]) (λ_ z=>nomatch z) (λb o nl _ _ e _=>F b o nl e) (λb o nl _ _ e _=>⟨o.slots,F b o nl e⟩) (λb o _ e nb=>?_) (λb o _ e=>?_) (λb ys e=>by rw[Bb (Bt e g)];exact e) (λb o u e=>by rw[Bb (Bt e g)];exact e) (λb ps e=>⟨#[],by rw[Bb (Bt e g),e];simp⟩) (λm' b2=>?_) (λb u e=>?_) I.bare
  ·rw[Bb λz=>by rw[z,a5]at e;cases e];exact nb
  ·by_cases hb:b=X.env.locals
   ·obtain⟨o',_,_,e',_⟩:=F1.ns;exact⟨o',by rw[hb];exact e'⟩
   ·exact⟨o,F b o hb e⟩
  ·obtain⟨o,es,ep,ho,hd,hk,b5⟩:=hn;obtain⟨o',d2,d3,a1,a4,d1,a3⟩:=b2;rw[ho]at a1;cases a1;rw[hd]at a4;cases a4;have:m'=m:=funext λx=>(a3 x).symm.trans (b5 x);rw[this];exact F1.ns
  ·by_cases hb:b=D
   ·subst hb;rw[AC]at e;cases e;refine⟨by rw[T,DJ];lia,P.toList,n,?_,?_⟩
    ·rw[po];exact vq
    ·have:=hD.1;simpa [EG]using this
   ·rw[Bb hb]at e;refine(I.hok b u e).stay (λx v d z=>F x v ?_ z) (λx z=>by rw[Bb (Bt z g)];exact z) λx ys z=>by rw[Bb (Bt z g)];exact z
    rcases d with rfl|d
    ·exact J e
    ·exact J d
theorem HZ.tbl{H:Hp}{T:AE}{pos:FX}{q:Bc}(h:HZ H T pos q):∃ps,H T=some (.tbl ps):=by
 rcases h with h|⟨c,h,_⟩
 ·exact⟨_,h⟩
 ·exact⟨_,h⟩
theorem HZ.ne{H:Hp}{T:AE}{pos:FX}{q:Bc}(h:HZ H T pos q){b:AE}{o:HO}(e:H b=some o)(n:∀ps,o≠ .tbl ps):b≠T:=λz=>by
 obtain⟨ps,h⟩:=h.tbl;rw[z,h]at e;exact n ps (Ba e).symm
noncomputable def io(K:AF)(T:AE)(b:FX)(q fld:Bc)(te:TE):TE:=λσ H Q=>te σ H λx H1=>HZ H1 T b q/\∃l xs ks,x= .ref l/\H1 l=some (.lst xs)/\xs.length<64/\ks.length=xs.length/\(∀(i:Nat) (v:V) (k:Int),xs[i]?=some v->ks[i]?=some k->∃a C dx fs,v= .ref a/\H1 a=some (.ins C dx fs)/\NV K C/\Go K C fld/\fs.lookup fld=some (.int k))/\∀D ys c,H1 D=none->QF T H1 c->HZ c T b q->c D=some (.lst ys)->Mc ks xs ys->Q (.ref D) c
theorem cO{e:Expr}{te:TE}{T c:AE}{p pos d kpos:FX}(he:PE X e te)(hg:Gl X "sorted")(hm:X.mg "sorted"=none)(J:defaultsOf params X.env=([],[]))(U:closureFor scope X.env=IX [])(B:X.env.code= .ref c)(C:Hh X.base c T)(hB:X.base.BuiltinsAt X.mg T)(hL:fP params scope y fld (X.env.qual++ "<lambda>") yp ap)(w:X.A.depth<JH)(G:BW [e] X.env=[(false,Ea e X.env)]:=by rfl):
  PE X (.Call (.Name "sorted" p) [e] [⟨some "key",.Lambda params (kW y fld yp ap) scope d,kpos⟩] pos) (io X.K T d (X.env.qual++ "<lambda>") fld te):=by
 intro pZ s σ H Q I h;refine CQ (Ku I hg hm (show Co "sorted"=some (.builtin "sorted")by decide+kernel) ?_);have j:Fq pos (BW [e] X.env)=(false,Ea e X.env)::Fq pos (BW [] X.env):=by rw[G];rfl
 refine PyProof.Rows.callWith_kw (e:=e) (rest:=[]) ?_ j (by rw[j];rfl);have a9:PA X [e] (WW te Yl):=Ax he AA G;refine Ei (a9 pos pZ s σ H (λvs H1=>match vs with
  |[x]=>HZ H1 T d (X.env.qual++ "<lambda>")/\∃l xs ks,x= .ref l/\H1 l=some (.lst xs)/\xs.length<64/\ks.length=xs.length/\(∀(i:Nat) (v:V) (k:Int),xs[i]?=some v->ks[i]?=some k->∃a C dx fs,v= .ref a/\H1 a=some (.ins C dx fs)/\NV X.K C/\Go X.K C fld/\fs.lookup fld=some (.int k))/\∀D ys M,H1 D=none->QF T H1 M->HZ M T d (X.env.qual++ "<lambda>")->M D=some (.lst ys)->Mc ks xs ys->Q (.ref D) M
  |_=>False) I h) λus s1 ⟨vs,H1,I1,O,R⟩=>?_
 match vs,R,O with
 |[x],R,O=>
  obtain⟨u,rfl,rx⟩:=Ig O;obtain⟨m,l,xs,ks,rfl,hl,Z,S,hx,q⟩:=R;cases (show u=BD l from rx);have a8:PK X [⟨some "key",.Lambda params (kW y fld yp ap) scope d,kpos⟩] (WW (px T d (X.env.qual++ "<lambda>") params (kW y fld yp ap) scope ((X.mg "__name__").getD .none)) Yl):=eN (Xe J U B C hB) jf;refine Ei (a8 pos pZ s1 σ H1 (λzs H2=>match zs with
   |[.ref f]=>∃E ctv,H1 f=none/\QF T H1 H2/\HZ H2 T d (X.env.qual++ "<lambda>")/\H2 E=some (Zf E (X.env.qual++ "<lambda>"))/\H2 f=some (aW f (Fw "<lambda>" (X.env.qual++ "<lambda>") params (kW y fld yp ap) scope [] ((X.mg "__name__").getD .none) E ctv))
   |_=>False) I1 ⟨m,λf E ctv H' a1 F g a4 a5=>⟨E,ctv,a1,F,g,a4,a5⟩⟩) λws s2 ⟨zs,H2,I2,N,P⟩=>?_
  match zs,P,N with
  |[.ref f],P,N=>
   obtain⟨u,rfl,ru⟩:=Ig N;cases (show u=BD f from ru);obtain⟨E,ctv,a1,F,g,a4,a5⟩:=P;have kp:∀{b:AE} {o:HO},H1 b=some o->(∀ps,o≠ .tbl ps)->H2 b=some o:=λe n=>F _ _ (m.ne e n) e;refine Zh (ks:=ks) hL w I2 (kp hl λ_ z=>by cases z) Z S (λi v k h1 h2=>?_) a5 a4 λD ys t ho=>?_
   ·obtain⟨a,C,dx,fs,e1,e2,r⟩:=hx i v k h1 h2;exact⟨a,C,dx,fs,e1,kp e2 (λ_ z=>by cases z),r⟩
   ·have Y:H1 D=none:=by
     cases z:H1 D with
     |none=>rfl
     |some o=>
      by_cases L:D=T
      ·obtain⟨ps,ht⟩:=g.tbl;rw[L,ht]at t;cases t
      ·rw[F _ _ L z]at t;cases t
    refine q D ys _ Y (λb o n eb=>?_) ?_ AC ho
    ·rw[Bb (Bt (F b o n eb) t)];exact F b o n eb
    ·rcases g with g|⟨c2,g,a6⟩
     ·exact .inl (by rw[Bb (Bt g t)];exact g)
     ·exact .inr ⟨c2,by rw[Bb (Bt g t)];exact g,by rw[Bb (Bt a6 t)];exact a6⟩
end
end L2
namespace L2
open PySem PySem.W PyProof PyProof.Rows
def II{c:Type}(N:Nat)(R:c->Prop):KasT c->Prop
 |.ret a=>R a
 |.ask i j k=>i<N/\j<N/\∀b,II N R (k b)
theorem Jp{c d:Type}{N:Nat}{R:c->Prop}{S:d->Prop}{f:c->KasT d}(h:∀a,R a->II N S (f a)):∀(t:KasT c),II N R t->II N S (t.bind f)
 |.ret a,x=>h a x
 |.ask _ _ k,⟨x,y,z⟩=>⟨x,y,λb=>Jp h (k b) (z b)⟩
def Pm(N:Nat)(p:Array Nat):Prop:=p.toList.Perm (Bm N)
theorem Pm.get{N:Nat}{p:Array Nat}(h:Pm N p)(h0:0<N)(i:Nat):p.getD i 0<N:=by
 by_cases hi:i<p.size
 ·have e:p.getD i 0=p[i]:=by simp[SU,hi]
  rw[e];have:p[i]∈p.toList:=Array.getElem_mem_toList hi;exact CG.mp (h.mem_iff.mp this)
 ·have e:p.getD i 0=0:=by simp[SU,hi]
  rw[e];exact h0
theorem Pm.rev{N:Nat}{p:Array Nat}(h:Pm N p)(i j:Nat):Pm N (kas_rev p i j):=(Array.perm_iff_toList_perm.mp (mirror_perm _ _ _ _)).trans h
theorem Pm.bub{N:Nat}{p:Array Nat}(h:Pm N p)(i j:Nat):Pm N (bubble p i j):=(Array.perm_iff_toList_perm.mp (bubble_perm _ _ _)).trans h
section
variable{N:Nat}{p:Array Nat}
theorem HV{a:Type}{R:a->Prop}{c:Prop} [Decidable c]{t u:KasT a}(h1:c->II N R t)(h2:¬c->II N R u):II N R (if c then t else u):=by
 by_cases h:c
 ·rw[wm h];exact h1 h
 ·rw[wk h];exact h2 h
theorem UG(h:Pm N p)(h0:0<N):∀(f n:Nat),II N (λ_=>True) (JS p f n)
 |0,_=>trivial
 |f+1,n=>⟨h.get h0 _,h.get h0 _,λb=>HV (λ_=>trivial) λ_=>UG h h0 f (n+1)⟩
theorem NQ(h0:0<N):∀(f:Nat) (p:Array Nat) (n q:Nat),Pm N p->II N (λr=>Pm N r.1) (kas_desc f p n q)
 |0,_,_,_,h=>h
 |f+1,p,n,q,h=>⟨h.get h0 _,h.get h0 _,λb=>HV (λ_=>HV (λ_=>NQ h0 f _ _ _ (h.rev _ _)) λ_=>NQ h0 f _ _ _ h)
   λ_=>⟨h.get h0 _,h.get h0 _,λd=>HV (λ_=>h) λ_=>NQ h0 f _ _ _ h⟩⟩
theorem UF(h:Pm N p)(h0:0<N)(n r:Nat):II N (λr=>Pm N r.2) (RE n r p):=by
 unfold RE;refine Jp (R:=λ_=>True) (λm _=>?_) _ (UG (h.rev _ _) h0 _ _);exact h.rev _ _
theorem OI(h:Pm N p)(h0:0<N)(n r:Nat):II N (λr=>Pm N r.2) (kas_descPart n r p):=by
 unfold kas_descPart;refine Jp (R:=λr:Array Nat×Nat×Nat=>Pm N r.1) (λa ha=>?_) _ (NQ h0 _ _ _ _ h);exact HV (λ_=>UF (ha.rev _ _) h0 _ _) λ_=>UF ha h0 _ _
theorem dy(h:Pm N p)(h0:0<N)(r:Nat):II N (λr=>Pm N r.2) (kas_count r p):=by
 unfold kas_count;refine Jp (R:=λ_=>True) (λn _=>?_) _ (UG h h0 _ _);exact HV (λ_=>show Pm N p from h) λ_=>HV (λ_=>⟨h.get h0 _,h.get h0 _,λc=>HV (λ_=>show Pm N p from h) λ_=>OI (h.rev _ _) h0 _ _⟩) λ_=>OI h h0 _ _
theorem Ph(h:Pm N p)(h0:0<N)(k:Nat):∀(f l r:Nat),II N (λ_=>True) (XT p k f l r)
 |0,_,_=>trivial
 |f+1,l,r=>HV (λ_=>trivial) λ_=>⟨h.get h0 _,h.get h0 _,λc=>HV (λ_=>Ph h h0 k f _ _) λ_=>Ph h h0 k f _ _⟩
theorem aY(h0:0<N):∀(f:Nat) (p:Array Nat) (k:Nat),Pm N p->II N (Pm N) (kas_bin f p k)
 |0,_,_,h=>h
 |f+1,p,k,h=>Jp (λ_ _=>aY h0 f _ _ (h.bub _ _)) _ (Ph h h0 _ _ _ _)
theorem hh(h0:0<N):II N (Pm N) (kas_sort N):=by
 unfold kas_sort;refine Jp (R:=λr:Nat×Array Nat=>Pm N r.2) (λa ha=>?_) _ (dy (show Pm N (List.toArray (Bm N))from List.Perm.refl _) h0 _);exact HV (λ_=>aY h0 _ _ _ ha) λ_=>show Pm N a.2 from ha
end
section
variable{prog:Bq}{w:BU}{A:CH}{E:AB->AG->Prop}{s:AG}
theorem cq{l:AE}{vs:List AB}{Q:AB->AG->Prop}(g:s.heap.IsList l vs.toArray)(h2:vs.length<2)(h:Q (.ref (s.heap.objs.size+1)) {s with heap:=sortedAll s.heap vs vs.toArray}):BN (model prog w) A (call (.builtin "sorted") [.ref l]) Q E s:=by
 refine Calls.call_function_entry kind_sorted plain_sorted entry_sorted (args_sorted1 _) ?_;unfold Builtin.«sorted»;refine AR (m:=checkCount "sorted" 1 1 _) (Bx ?_);refine AR (collect_list g ?_ (by rw[DJ];lia));refine AR (XS ?_ (by rw[DJ];lia));have hsz: ((s.heap.push (EG "list" #[] 0)).update s.heap.objs.size (EQ (·++vs.toArray))).objs.size=s.heap.objs.size+1:=by
  rw[QT,size_push']
 have a: (((s.heap.push (EG "list" #[] 0)).update s.heap.objs.size (EQ (·++vs.toArray))).push (EG "list" vs.toArray 0)).get? (s.heap.objs.size+1)=some (EG "list" vs.toArray 0):=by
  rw[<-hsz];exact Bo _ rfl
 show BN _ _ _ _ _ {s with heap:=((s.heap.push (EG "list" #[] 0)).update s.heap.objs.size (EQ (·++vs.toArray))).push (EG "list" vs.toArray 0)};rw[hsz];refine AR (IJ (wpAny_call_entry slot_list_sort ⟨_,a,rfl⟩ entry_list_sort ?body (args_list_sort _)))
 case body=>
  generalize i: ((s.heap.push (EG "list" #[] 0)).update s.heap.objs.size (EQ (·++vs.toArray))).push (EG "list" vs.toArray 0)=h1 at a ⊢;have ha:=Bu a;rw[list_sort_plain];refine AR (listItems_at a rfl ?_);refine AR (listUpdate_at a rfl ?_ (by rw[Bs,DJ];lia) (Ci _));obtain⟨e,c⟩:∃e,(h1.update (s.heap.objs.size+1) (EQ λ_=>(#[]:Array AB))).get? (s.heap.objs.size+1)=some (EG "list" #[] e):=⟨_,get?_update_seq a λ_=>#[]⟩;refine AR (seqEpoch_at c rfl ?_);refine AR (wpAny_newTuple ?_ (by show vs.length<=_;rw[DJ];lia));refine AR (XS ?_ (Ci _));refine IJ ?_;have b: (((h1.update (s.heap.objs.size+1) (EQ λ_=>(#[]:Array AB))).push (EG "tuple" vs.toArray 0)).push (EG "list" #[] 0)).get? (s.heap.objs.size+1)=some (EG "list" #[] e):=by
   rw[HD _ _ _ (by rw[size_push',QT];exact BE (ED ha)),HD _ _ _ (by rw[QT];exact BE ha)];exact c
  show BN (model prog w) _ _ _ _ {s with heap:=((h1.update (s.heap.objs.size+1) (EQ λ_=>(#[]:Array AB))).push (EG "tuple" vs.toArray 0)).push (EG "list" #[] 0)}
  dsimp only
  have d:vs.toArray.size<2:=by rw[Bs];exact h2
  rw[wm d,wm d];refine AR (Bx ?_);rw[StateT.run_pure];refine AR (Bx ?_)
  dsimp only
  have f: (vs.toArray.zip vs.toArray).map (·.2)=vs.toArray:=by
   apply Array.toList_inj.mp;rw[Array.toList_map,Array.toList_zip];exact List.map_snd_zip (AX _)
  refine AR (seqEpoch_at b rfl ?_);refine AR (listUpdate_at b rfl ?_ (Ci _) (by show Array.size (Array.map (·.2) (vs.toArray.zip vs.toArray))<=_;rw[f,Bs,DJ];lia));simp only[bne_self_eq_false,Bool.false_eq_true,if_false];refine Bx ⟨_,rfl,Bx ⟨_,rfl,?_⟩⟩;unfold sortedAll sortedHeap at h;rw[i]at h;have j:∀x:Array AB,x=vs.toArray->Q (.ref (s.heap.objs.size+1)) {s with heap:=(((h1.update (s.heap.objs.size+1) (EQ λ_=>(#[]:Array AB))).push (EG "tuple" vs.toArray 0)).push (EG "list" #[] 0)).update (s.heap.objs.size+1) (EQ λ_=>x)}:=λx hx=>by rw[hx];exact h
  exact j _ f
def Ti(h:Ct)(vs:List AB):Prop:=∀v∈vs,∃(a:AE) (o:Obj) (i j:Int) (t u:Tok) (n:Nat),v= .ref a/\h.get? a=some o/\o.cls= .type "tuple" /\o.data= .seq #[.int i t,.int j u] n
def ko(h:Ct)(vs:List AB)(fs:List AB):Prop:=KatTups h vs fs/\∀v∈fs,∃i t,v=EA i t
theorem Xx{h:Ct}:∀(vs:List AB),Ti h vs->∃fs,fs.length=vs.length/\ko h vs fs
 |[],_=>⟨[],rfl,KatTups.nil,λ_ z=>nomatch z⟩
 |v::vs,hp=>by
  obtain⟨fs,d,e,hf⟩:=Xx vs λv b=>hp v (.tail _ b);obtain⟨a,o,i,j,c,k,n,rfl,f,g,d1⟩:=hp v (.head _);exact⟨.int i c::fs,by simp[d],KatTups.cons f g d1 rfl e,λv b=>by
   rcases AU.mp b with rfl|b
   ·exact⟨i,c,rfl⟩
   ·exact hf v b⟩
theorem cP{M:Model}{Q:SortKind->AG->Prop}{vs:List AB}(hp:Ti s.heap vs)(h0:0<vs.length)(h:Q (tuples' true) s):BN M A (keyKind' vs.toArray) Q E s:=by
 obtain⟨fs,c,b,hf⟩:=Xx vs hp;refine kat_kind (T:=.type "int") b (by lia) (λv a=>?_) rfl h;obtain⟨i,t,rfl⟩:=hf v a;exact Looks.of_pure rfl
end
section
variable{X:Cx}
end
theorem Md.untrL{P:Bq}{w:BU}{H:Hp}{h:Ct}{D:AE}{ys:List V}(ok:Md P w H h)(hx:H D=some (.lst ys)):Md P w (L2.Ly H D) h:=λb o q=>by
 have hb:b≠D:=by rintro rfl;rw[KW]at q;cases q
 rw[HK hb]at q;refine(ok b o q).stay (λ_ _ _ z=>z) (λc z=>?_) λc xs z=>?_
 ·rw[HK (by rintro rfl;rw[hx]at z;cases z)];exact z
 ·rw[HK (by rintro rfl;rw[hx]at z;cases z)];exact z
section
variable{X:Cx}{pZ:List (AE×Obj)}{σ:St}{H:Hp}{s:AG}
theorem Cr.hide{D:AE}{ys:List V}(I:Cr X pZ σ H s)(d:H D=some (.lst ys)):∃(a:List AB) (n:Nat),Cv ys a/\ys.length<=sizeLine/\Cr X (pZ++[(D,{cls:=.type "list",data:=.seq a.toArray n})]) σ (Ly H D) s:=by
 obtain⟨hz,a,n,r,e⟩:=I.hok D _ d;have j:D≠X.env.locals:=λz=>by rw[z,I.free]at d;cases d
 have k:D∉X.fs:=λz=>by
  obtain⟨_,o,ho,_⟩:=I.ok.funs.mem z;have:=I.base.free D o ho (I.ok.frf D z) λy=>I.ok.exfs D y z;rw[d]at this;cases this
 have nn:∀{b:AE},H b=none->Ly H D b=none:=λ{b} h=>by
  unfold Ly;split
  ·rfl
  ·exact h
 refine⟨a,n,r,hz,I.ok,I.os,I.bare,⟨I.base.keep,I.base.slot,λb o e n hx=>nn (I.base.free b o e n hx),I.base.there,λb xs e=>?_,λb o xs e=>?_,λb ps e=>?_⟩,I.loc,I.cell,nn I.free,λx c e=>nn (I.freeC x c e),λp hp=>?_,I.hok.untrL d,I.len⟩
 ·have:=I.base.tups b xs e;rw[HK (by rintro rfl;rw[d]at this;cases this)];exact this
 ·have:=I.base.frzs b o xs e;rw[HK (by rintro rfl;rw[d]at this;cases this)];exact this
 ·obtain⟨m,this⟩:=I.base.tbls b ps e;exact⟨m,by rw[HK (by rintro rfl;rw[d]at this;cases this)];exact this⟩
 ·rcases BZ.mp hp with hp|hp
  ·obtain⟨i,g,f⟩:=I.pin p (Dq _ hp);exact⟨i,nn g,f⟩
  ·rcases BZ.mp hp with hp|hp
   ·obtain⟨i,g,f⟩:=I.pin p (Ca _ hp);exact⟨i,nn g,f⟩
   ·rw[AM.mp hp];exact⟨e,KW,j,k,λv z=>by cases z⟩
theorem Cr.show{D:AE}{ys:List V}{d:List AB}{n:Nat}{H':Hp}{s':AG}{f:St}(I:Cr X pZ σ H s)(j:H D=some (.lst ys))(r:Cv ys d)(hz:ys.length<=sizeLine)(a:Cr X (pZ++[(D,{cls:=.type "list",data:=.seq d.toArray n})]) f H' s'):
  H' D=none/\Cr X pZ f (upd H' D (.lst ys)) s':=by
 obtain⟨e,h0,k,v,_⟩:=a.pin (D,{cls:=.type "list",data:=.seq d.toArray n}) (Ca _ (Ca _ (AM.mpr rfl)));have up:∀{b:AE} {o:HO},H' b=some o->upd H' D (.lst ys) b=some o:=λe=>oN e h0;refine⟨h0,a.ok,a.os,a.bare,⟨a.base.keep,a.base.slot,λb o e n hx=>?_,a.base.there,λb xs e=>up (a.base.tups b xs e),λb o xs e=>up (a.base.frzs b o xs e),λb ps e=>?_⟩,a.loc,a.cell,?_,λx c e=>?_,λp hp=>?_,λb o q=>?_,a.len⟩
 ·have hb:b≠D:=λz=>by
   have:=I.base.free b o e n hx;rw[z,j]at this;cases this
  rw[Bb hb];exact a.base.free b o e n hx
 ·obtain⟨m,z⟩:=a.base.tbls b ps e;exact⟨m,up z⟩
 ·rw[Bb (CI k)];exact a.free
 ·have hc:c≠D:=λz=>by
   have:=I.freeC x c e;rw[z,j]at this;cases this
  rw[Bb hc];exact a.freeC x c e
 ·have g:p.1≠D:=λz=>by
   have:=(I.pin p hp).2.1;rw[z,j]at this;cases this
  have i:p∈X.pn++ (pZ++[(D,{cls:=.type "list",data:=.seq d.toArray n})]):=by
   rcases BZ.mp hp with h|h
   ·exact Dq _ h
   ·exact Ca _ (Dq _ h)
  obtain⟨u,t,l⟩:=a.pin p i;exact⟨u,by rw[Bb g];exact t,l⟩
 ·by_cases hb:b=D
  ·subst hb;rw[AC]at q;cases q;exact⟨hz,d,n,r,e⟩
  ·rw[Bb hb]at q;exact(a.hok b o q).stay (λ_ _ _ z=>z) (λc z=>up z) λc xs z=>up z
def ro(t:TE):TE:=λσ H Q=>∃D ys,H D=some (.lst ys)/\t σ (Ly H D) λv H'=>H' D=none->Q v (upd H' D (.lst ys))
theorem PY{e:Expr}{t:TE}(g:PE X e t):PE X e (ro t):=by
 intro pZ s σ H Q I h;obtain⟨D,ys,b,q⟩:=h;obtain⟨f,n,r,hz,k⟩:=I.hide b;refine Ei (g _ s σ (Ly H D) _ k q) λu s' a=>?_;obtain⟨v,H',j,c,d⟩:=a;obtain⟨h0,i⟩:=I.show b r hz j;exact⟨v,_,i,c,d h0⟩
end
end L2
namespace L2
open PySem PySem.W PyProof PyProof.Rows PySem.SeqAt
section
variable{X:Cx}
end
end L2
namespace L2
open PySem PySem.W PyProof PyProof.Rows
section
variable{X:Cx}
end
section
variable{X:Cx}
end
end L2
namespace L2
open PySem PySem.Spec PyProof.Rows
def bC(T:AE)(H:Hp):Prop:=H T=some (.tbl #[])/\∀b,H b=none\/(∃o xs,H b=some (.frz o (.lst xs)))\/b=T
theorem gN{T c:AE}{P:Bq}{w:BU}{K:AF}{mg mb:Bc->Option AB}{CX:dO}{k:Nat}{fa a:AE}{fd:Ey}{x:Bc}{sp:Sp}{f:AG}{vs:List AB}{ns:List Int}(A:f.heap.get? T=some (QK #[]))(Z:K.lookup T=none)(a1:Hh f.heap c T)(KX:K.In f.heap)(D:f.heap.Ns Cg mg)(hb:f.heap.Ns Nz mb)(X:∀x:Bc,x≠ "__name__" ->mb x=Co x)(E:f.heap.NoLimit)(hg:f.gens=#[])(ha:f.heap.get? a=some {cls:=.type "list",data:=.seq vs.toArray})(hi:Yb vs ns)(hl:ns.length<=sizeLine)(hr:FD k RF)(F:∀base:Ct,K.In base->base.Ns Cg mg->He P w K mg base CX k fa fd [x] sp)(t:∀(s:AG) (u:AB),BindsTo s fd ⟨[u],[]⟩ [(x,u)])(R:∀H:Hp,bC T H->Cj K H a (ns.map V.int)->sp [.ref a] H (λv _=>v= .bl true) λ_ _ _=>False)(a0:∀H e s',CX.cx [] H f (λ_ _ _=>False) e s'->False)(S:CX.sm=false):
  KJ (model P w) RF (.call (.ref fa) ⟨[.ref a],[]⟩) (λr s'=>r= .ok (.ret (.bool true))/\OldK f.heap s'.heap/\s'.os=f.os/\Yc s'.gens) f:=by
 have rv:=WU hi;have C:=hi.length;have core:∀H:Hp,bC T H->Cj K H a (ns.map V.int)->Md P w H f.heap->(∀b,H b≠none->b=a\/b=T)->(H a≠none->K.lookup a=none)->KJ (model P w) RF (.call (.ref fa) ⟨[.ref a],[]⟩) (λr s'=>r= .ok (.ret (.bool true))/\OldK f.heap s'.heap/\s'.os=f.os/\Yc s'.gens) f:=by
  intro H Y hS hok hA hK;have i:∀{b:AE} {o:Obj},f.heap.get? b=some o->H b=none->(YV f.heap H).get? b=some o:=λe n=>ke e n;have Q:∀{b:AE} {o:Obj} {es:Array DictEntry} {L:Nat},f.heap.get? b=some o->o.data= .dict es L->H b=none:=λ{b o es L} e d=>by
   cases q:H b with
   |none=>rfl
   |some u=>
    rcases hA b (by rw[q];simp)with y|y
    ·subst y;rw[ha]at e;cases e;have d':Data.seq vs.toArray _=Data.dict es L:=d;cases d'
    ·subst y;rw[A]at e;cases e;cases d
  have l:∀{b:AE} {m:Bc->Option AB},f.heap.Ns b m->(YV f.heap H).Ns b m:=λ{b m} G=>(by obtain⟨o,es,L,e,d,r⟩:=G;exact⟨o,es,L,i e (Q e d),d,r⟩);have J:K.In (YV f.heap H):=λb o e=>i (KX b o e) (by
   cases q:H b with
   |none=>rfl
   |some u=>
    rcases hA b (by rw[q];simp)with y|y
    ·subst y;rw[hK (by rw[q];simp)]at e;cases e
    ·rw[y,Z]at e;cases e)
  have hM:Mod K mg (YV f.heap H):=⟨J,l D,⟨mb,l hb,X⟩,let ⟨mc,h1,h2⟩:=E;⟨mc,l h1,h2⟩⟩;have e0:dN P w K mg (YV f.heap H) RF [] f H:=⟨rfl,hM,λb o e=>mO e,Vg (gU _ _),trivial,λb hb=>wo (show b∈ ([]:List AE)from hb) (by simp),hok,.of_eq hg⟩;refine MC ((F _ J (l D)).run RF [] f H ⟨[.ref a],[]⟩ [.ref a] [.ref a] _ _ hr (λ_=>rfl) (λz=>by rw[S]at z;cases z) e0 (t f (.ref a)) (.cons rfl .nil) (R H Y hS)) λr s' h=>?_;cases r with
  |error e=>exact(a0 H e s' h).elim
  |ok fl=>
   cases fl with
   |next=>exact Fg h
   |brk=>exact Fg h
   |cont=>exact Fg h
   |ret u=>
    obtain⟨v,H',os,bare,un,p,r',q⟩:=h;have q':v= .bl true:=q;subst q';obtain rfl:u=EB true:=r';refine⟨rfl,⟨λb o e=>?_,λb o e=>un.there b o e (by simp)⟩,os,bare⟩;cases q:H b with
    |none=>exact .inl (un.keep b o e q (by intro z;exact wo (show b∈ ([]:List AE)from z) (by simp)) (by simp))
    |some u=>
     rcases Y.2 b with z|⟨ob,xs,z⟩|z
     ·rw[q]at z;cases z
     ·have N:=un.frzs b ob _ z;obtain⟨e1,_⟩:=hok b _ z;obtain⟨e2,_⟩:=p b _ N;rw[e]at e1;cases e1;exact .inl e2
     ·subst z;obtain⟨more,N⟩:=un.tbls b _ Y.1;have e2:s'.heap.get? b=some {cls:=.none,data:=.fields (#[] ++more)}:=p b _ N;rw[A]at e;cases e;exact .inr (.inl ⟨(a1.tab A).isCodeTable,rfl,#[],more,rfl,e2⟩)
 have I:a≠T:=λz=>by rw[z,A]at ha;cases ha
 cases U:K.lookup a with
 |some o=>
  have e:=KX a o U;rw[ha]at e;cases e;refine core (λb=>if b=T then some (.tbl #[])else none) ⟨wm rfl,λb=>?_⟩ (.inr ⟨_,vs.toArray,_,U,rfl,rfl,rfl,by rw[Bs,C];exact hl,by simpa using rv⟩) (λb u z=>?_) (λb z=>?_) λz=>wo (wk I) z
  ·by_cases hb:b=T
   ·exact .inr (.inr hb)
   ·exact .inl (wk hb)
  ·by_cases hb:b=T
   ·have j:=(wm hb).symm.trans z;cases j;rw[hb];exact A
   ·have j:=(wk hb).symm.trans z;cases j
  ·by_cases hb:b=T
   ·exact .inr hb
   ·exact wo (wk hb) z
 |none=>
  refine core (λb=>if b=a then some (.frz {cls:=.type "list",data:=.seq vs.toArray} (.lst (ns.map V.int)))else if b=T then some (.tbl #[])else none) ⟨?_,λb=>?_⟩ (.inl (.inr ⟨{cls:=.type "list",data:=.seq vs.toArray},wm rfl⟩)) (λb u z=>?_) (λb z=>?_) λ_=>U
  ·show(if T=a then _ else if T=T then _ else _)=_
   rw[wk (CI I),wm rfl]
  ·by_cases hb:b=a
   ·exact .inr (.inl ⟨_,_,wm hb⟩)
   ·by_cases g:b=T
    ·exact .inr (.inr g)
    ·exact .inl ((wk hb).trans (wk g))
  ·by_cases hb:b=a
   ·have j:=(wm hb).symm.trans z;cases j;subst hb;exact⟨ha,by rw[Ay];exact hl,vs,_,rv,ha⟩
   ·by_cases g:b=T
    ·have j:=((wk hb).trans (wm g)).symm.trans z;cases j;rw[g];exact A
    ·have j:=((wk hb).trans (wk g)).symm.trans z;cases j
  ·by_cases hb:b=a
   ·exact .inl hb
   ·by_cases g:b=T
    ·exact .inr g
    ·exact wo ((wk hb).trans (wk g)) z
end L2
namespace L2
open PySem PySem.W PyProof PyProof.Rows
def FA{b:Type}(lt:Nat->Nat->Bool):KasT b->b
 |.ret a=>a
 |.ask i j k=>FA lt (k (lt i j))
theorem Lc{a b:Type}{lt:Nat->Nat->Bool}{f:a->KasT b}:∀(t:KasT a),FA lt (t.bind f)=FA lt (f (FA lt t))
 |.ret _=>rfl
 |.ask i j k=>Lc (k (lt i j))
theorem ZW{a:Type}{N:Nat}{R:a->Prop}{lt:Nat->Nat->Bool}:∀(t:KasT a),II N R t->R (FA lt t)
 |.ret _,h=>h
 |.ask i j k,⟨_,_,h⟩=>ZW (k (lt i j)) (h _)
theorem iX{a:Type}{N:Nat}{R:a->Prop}{lt:Nat->Nat->Bool}{cmp:Nat->Nat->(Bool->AG->Prop)->AG->Prop}{Q:a->AG->Prop}{s:AG}(hc:∀i j C,i<N->j<N->C (lt i j) s->cmp i j C s):∀(t:KasT a),II N R t->Q (FA lt t) s->t.kasWp cmp Q s
 |.ret _,_,q=>q
 |.ask i j k,⟨x,y,z⟩,q=>hc i j _ x y (iX hc (k (lt i j)) (z _) q)
section
variable(K:Nat->Int)
abbrev MH:Nat->Nat->Bool:=λi j=>decide (K i<K j)
def HE(p:Array Nat)(i:Nat):Int:=K (p.getD i 0)
def bG(p:Array Nat)(n:Nat):Prop:=∀i j,i<j->j<n->HE K p i<HE K p j
def qP(p:Array Nat)(n:Nat):Prop:=∀i j,i<j->j<n->HE K p j<HE K p i
structure MB(N:Nat)(p:Array Nat):Prop where
 ord:Pm N p
 inj:∀i j,i<N->j<N->K i=K j->i=j
variable{K}{N:Nat}{p:Array Nat}
theorem MB.size(h:MB K N p):p.size=N:=by
 have:=h.ord.length_eq;simpa using this
theorem ft{i:Nat}:p.getD i 0=(p[i]?).getD 0:=by
 simp[Array.getD_eq_getD_getElem?]
theorem MB.ne(h:MB K N p){i j:Nat}(hi:i<j)(a:j<N):HE K p i≠HE K p j:=λe=>by
 have h0:0<N:=by lia
 have b:=h.inj _ _ (h.ord.get h0 i) (h.ord.get h0 j) e;have hs:=h.size;have nd:p.toList.Nodup:=h.ord.nodup_iff.mpr List.nodup_range;have c:p.toList[i]?=p.toList[j]?:=by
  have f:p.getD i 0=p[i]:=by simp[SU,hs,show i<N by lia]
  have d:p.getD j 0=p[j]:=by simp[SU,hs,a]
  rw[f,d]at b;simp[hs,a,show i<N by lia,b]
 have:=(List.getElem?_inj (by simp;lia) nd).mp c
 lia
theorem Lj{q:Array Nat}{i j:Nat}(h:p[i]?=q[j]?):HE K p i=HE K q j:=by
 unfold HE;rw[ft,ft,h]
theorem eX{n:Nat}(hn:n<=p.size)(i:Nat):HE K (kas_rev p 0 n) i=if i<n then HE K p (n - 1 - i)else HE K p i:=by
 have e:=getElem?_mirror_all (i:=0) hn i;by_cases h:i<n
 ·rw[wm ⟨Ci _,h⟩]at e;rw[wm h];refine Lj (e.trans ?_);congr 1;lia
 ·rw[wk (by lia)]at e;rw[wk h];exact Lj e
theorem UD{a d:Nat}(hs:a<p.size)(hd:d<=a)(k:Nat):HE K (bubble p a d) k=if k=a - d then HE K p a else if a - d<k/\k<=a then HE K p (k - 1)else HE K p k:=by
 have e:=getElem?_bubble hs d hd k;by_cases h1:k=a - d
 ·rw[wm h1]at e ⊢;exact Lj e
 ·rw[wk h1]at e ⊢;by_cases h2:a - d<k/\k<=a
  ·rw[wm h2]at e ⊢;exact Lj e
  ·rw[wk h2]at e ⊢;exact Lj e
theorem MB.rev(h:MB K N p)(i j:Nat):MB K N (kas_rev p i j):=⟨h.ord.rev _ _,h.inj⟩
theorem MB.bub(h:MB K N p)(i j:Nat):MB K N (bubble p i j):=⟨h.ord.bub _ _,h.inj⟩
theorem bG.more{n:Nat}(hi:bG K p n)(h1:1<=n)(h:HE K p (n - 1) <HE K p n):bG K p (n+1):=λi j a b=>by
 by_cases e:j=n
 ·subst e;by_cases c:i=j - 1
  ·subst c;exact h
  ·exact KG (hi i (j - 1) (by lia) (by lia)) h
 ·exact hi i j a (by lia)
theorem qP.more{n:Nat}(hi:qP K p n)(h1:1<=n)(h:HE K p n<HE K p (n - 1)):qP K p (n+1):=λi j a b=>by
 by_cases e:j=n
 ·subst e;by_cases c:i=j - 1
  ·subst c;exact h
  ·exact KG h (hi i (j - 1) (by lia) (by lia))
 ·exact hi i j a (by lia)
theorem YF(h:MB K N p):∀(f n:Nat),1<=n->n+f<=N->bG K p n->n<=FA (MH K) (JS p f n)/\FA (MH K) (JS p f n)<=n+f/\bG K p (FA (MH K) (JS p f n))/\(FA (MH K) (JS p f n)=n+f\/HE K p (FA (MH K) (JS p f n)) <HE K p (FA (MH K) (JS p f n) - 1))
 |0,n,_,_,hi=>⟨AX _,AX _,hi,.inl rfl⟩
 |f+1,n,h1,d,hi=>by
  by_cases c:HE K p n<HE K p (n - 1)
  ·have e:FA (MH K) (JS p (f+1) n)=n:=by
    show FA (MH K) (if decide (HE K p n<HE K p (n - 1))=true then KasT.ret n else JS p f (n+1))=n
    rw[wm (wg c)];rfl
   rw[e];exact⟨AX _,by lia,hi,.inr c⟩
  ·have e:FA (MH K) (JS p (f+1) n)=FA (MH K) (JS p f (n+1)):=by
    show FA (MH K) (if decide (HE K p n<HE K p (n - 1))=true then KasT.ret n else JS p f (n+1))=_
    rw[wk (by simpa using c)]
   have ne:=h.ne (i:=n - 1) (j:=n) (by lia) (by lia);obtain⟨k,g,b,a⟩:=YF h f (n+1) (by lia) (by lia) (hi.more h1 (by lia));rw[e];exact⟨by lia,by lia,b,by rw[show n+ (f+1)=n+1+f by lia];exact a⟩
theorem ZX(h:MB K N p):∀(f n:Nat),1<=n->n+f<=N->qP K p n->∃m,FA (MH K) (kas_desc f p n 0)=(p,m,0)/\n<=m/\m<=n+f/\qP K p m
 |0,n,_,_,hi=>⟨n,rfl,AX _,AX _,hi⟩
 |f+1,n,h1,k,hi=>by
  have a:FA (MH K) (kas_desc (f+1) p n 0)=FA (MH K) (if decide (HE K p n<HE K p (n - 1))=true then kas_desc f p (n+1) 0
   else KasT.ask (p.getD (n - 1) 0) (p.getD n 0) λd=>if d=true then .ret (p,n,0)else kas_desc f p (n+1) (0+1)):=rfl
  by_cases c:HE K p n<HE K p (n - 1)
  ·rw[wm (wg c)]at a;obtain⟨m,g,o,l,e⟩:=ZX h f (n+1) (by lia) (by lia) (hi.more h1 c);exact⟨m,a.trans g,by lia,by lia,e⟩
  ·rw[wk (by simpa using c)]at a;have ne:=h.ne (i:=n - 1) (j:=n) (by lia) (by lia);have b:HE K p (n - 1) <HE K p n:=by lia
   refine⟨n,a.trans ?_,AX _,by lia,hi⟩;show FA (MH K) (if decide (HE K p (n - 1) <HE K p n)=true then KasT.ret (p,n,0)else kas_desc f p (n+1) (0+1))=_
   rw[wm (wg b)];rfl
theorem gv(h:MB K N p){n:Nat}(h1:1<=n)(e:n<=N)(hd:qP K p n):∃m q,FA (MH K) (RE n N p)=(m,q)/\MB K N q/\bG K q m/\1<=m/\m<=N:=by
 have c:=h.rev 0 n;have hs:=h.size;have hi:bG K (kas_rev p 0 n) n:=λi j a b=>by
  rw[eX (by lia),eX (by lia),wm (by lia),wm b];exact hd _ _ (by lia) (by lia)
 obtain⟨g,f,d,_⟩:=YF c (N - n) n h1 (by lia) hi;refine⟨_,_,?_,c,d,by lia,by lia⟩;unfold RE;rw[Lc];rfl
theorem gw(h:MB K N p)(h1:1<=N):∃m q,FA (MH K) (kas_count N p)=(m,q)/\MB K N q/\bG K q m/\1<=m/\m<=N:=by
 obtain⟨k,o,d,c⟩:=YF h (N - 1) 1 (AX _) (by lia) (λi j a b=>by lia);unfold kas_count;rw[Lc];generalize FA (MH K) (JS p (N - 1) 1)=n at k o d c;by_cases g:n=N
 ·subst g;rw[wm (by simp)];exact⟨_,_,rfl,h,d,h1,AX _⟩
 ·rw[wk (by simpa using g)];by_cases f:n>1
  ·rw[wm f];have e:HE K p 0<HE K p (n - 1):=d 0 (n - 1) (by lia) (by lia);refine⟨n,p,?_,h,d,k,by lia⟩;show FA (MH K) (if decide (HE K p 0<HE K p (n - 1))=true then KasT.ret (n,p)else kas_descPart n N (kas_rev p 0 n))=_
   rw[wm (wg e)];rfl
  ·rw[wk f];obtain rfl:n=1:=by lia
   have e:HE K p 1<HE K p 0:=by
    rcases c with c|c
    ·lia
    ·exact c
   have hd:qP K p 2:=λi j a b=>by
    obtain rfl:j=1:=by lia
    obtain rfl:i=0:=by lia
    exact e
   obtain⟨m,b1,b2,b3,b4⟩:=ZX h (N - 2) 2 (by lia) (by lia) hd;unfold kas_descPart;rw[Lc,b1];have l:FA (MH K) (if (p,m,0).2.2>0 then RE (p,m,0).2.1 N (kas_rev (p,m,0).1 ((p,m,0).2.1 - ((p,m,0).2.2+1)) (p,m,0).2.1)else RE (p,m,0).2.1 N (p,m,0).1)=FA (MH K) (RE m N p):=by
    rw[wk (DZ 0)]
   have b5:m<=N:=by lia
   rw[l];exact gv (n:=m) h (by lia) b5 b4
theorem Rm(h:MB K N p){k:Nat}(q:k<N)(hi:bG K p k):∀(f l r:Nat),l<=r->r<=k->r - l<=f->(∀i,i<l->HE K p i<HE K p k)->(∀i,r<=i->i<k->HE K p k<HE K p i)->∃m,FA (MH K) (XT p k f l r)=m/\m<=k/\(∀i,i<m->HE K p i<HE K p k)/\(∀i,m<=i->i<k->HE K p k<HE K p i)
 |0,l,r,h1,h2,h3,g,d=>⟨l,rfl,by lia,g,λi a b=>d i (by lia) b⟩
 |f+1,l,r,h1,h2,h3,g,d=>by
  by_cases c:l>=r
  ·refine⟨l,?_,by lia,g,λi a b=>d i (by lia) b⟩;show FA (MH K) (if l>=r then _ else _)=l
   rw[wm c];rfl
  ·have n:FA (MH K) (XT p k (f+1) l r)=FA (MH K) (if decide (HE K p k<HE K p ((l+r) /2))=true then XT p k f l ((l+r) /2)else XT p k f ((l+r) /2+1) r):=by
    show FA (MH K) (if l>=r then _ else _)=_
    rw[wk c];rfl
   have up:∀i j,i<j->j<k->HE K p i<HE K p j:=hi;by_cases o:HE K p k<HE K p ((l+r) /2)
   ·rw[wm (wg o)]at n;obtain⟨m,t,s⟩:=Rm h q hi f l ((l+r) /2) (by lia) (by lia) (by lia) g (λi a b=>by
     by_cases e:i=(l+r) /2
     ·rw[e];exact o
     ·exact KG o (up _ _ (by lia) b))
    exact⟨m,n.trans t,s⟩
   ·rw[wk (by simpa using o)]at n;have ne:=h.ne (i:=(l+r) /2) (j:=k) (by lia) q;have u:HE K p ((l+r) /2) <HE K p k:=by lia
    obtain⟨m,t,s⟩:=Rm h q hi f ((l+r) /2+1) r (by lia) h2 (by lia) (λi a=>by
     by_cases e:i=(l+r) /2
     ·rw[e];exact u
     ·exact KG (up _ _ (by lia) (by lia)) u) d
    exact⟨m,n.trans t,s⟩
theorem eJ:∀(f:Nat) (p:Array Nat) (k:Nat),MB K N p->1<=k->k+f<=N->bG K p k->bG K (FA (MH K) (kas_bin f p k)) (k+f)
 |0,p,k,_,_,_,hi=>hi
 |f+1,p,k,h,h1,r,hi=>by
  have l:FA (MH K) (kas_bin (f+1) p k)=FA (MH K) (kas_bin f (bubble p k (k - FA (MH K) (XT p k k 0 k))) (k+1)):=by
   show FA (MH K) (KasT.bind _ _)=_;rw[Lc]
  obtain⟨m,q,t,o,n⟩:=Rm h (k:=k) (by lia) hi k 0 k (Ci _) (AX _) (by lia) (λi a=>by lia) (λi a b=>by lia);rw[l,q,show k+ (f+1)=k+1+f by lia];have hs:=h.size;refine eJ f _ _ (h.bub _ _) (by lia) (by lia) λi j a b=>?_;have up:∀i j,i<j->j<k->HE K p i<HE K p j:=hi;rw[UD (by lia) (by lia),UD (by lia) (by lia),show k - (k - m)=m by lia];by_cases g:j=m
  ·rw[wk (by lia),wk (by lia),wm g];exact o i (by lia)
  ·rw[wk g];by_cases e:i=m
   ·rw[wm e,wm (by lia)];exact n _ (by lia) (by lia)
   ·rw[wk e];by_cases d:m<i/\i<=k
    ·rw[wm d,wm (by lia)];exact up _ _ (by lia) (by lia)
    ·rw[wk d];by_cases c:m<j/\j<=k
     ·rw[wm c];by_cases s:i=j - 1
      ·lia
      ·exact up _ _ (by lia) (by lia)
     ·rw[wk c];exact up _ _ a (by lia)
theorem iY(h1:1<=N)(inj:∀i j,i<N->j<N->K i=K j->i=j):bG K (FA (MH K) (kas_sort N)) N:=by
 unfold kas_sort;rw[Lc];obtain⟨m,q,e,d,a,b,f⟩:=gw (K:=K) (N:=N) (p:=List.toArray (Bm N)) ⟨List.Perm.refl _,inj⟩ h1;rw[e];show bG K (FA (MH K) (if m<N then kas_bin (N - max m 1) q (max m 1)else .ret q)) N
 by_cases c:m<N
 ·rw[wm c,show max m 1=m by lia];have:=eJ (N - m) q m d b (by lia) a;rw[show m+ (N - m)=N by lia]at this;exact this
 ·rw[wk c];obtain rfl:m=N:=by lia
  exact a
theorem bG.rise{p:Array Nat}(h:bG K p p.size): (p.toList.map K).Pairwise (·< ·):=by
 rw[Ft];intro i j hi a b;simp at hi a;have:=h i j b a;unfold HE at this;simpa [SU,hi,a]using this
end
def fO(h:Ct)(v:AB)(i:Int):Prop:=∃(a:AE) (o:Obj) (j:Int) (t u:Tok) (n:Nat),v= .ref a/\h.get? a=some o/\o.cls= .type "tuple" /\o.data= .seq #[.int i t,.int j u] n
section
variable{prog:Bq}{w:BU}{A:CH}{E:AB->AG->Prop}{s:AG}
theorem gB{Q:Bool->AG->Prop}{v u:AB}{i i':Int}(q:fO s.heap v i)(r:fO s.heap u i')(t:i=i'->v=u)(h:Q (decide (i<i')) s):BN (model prog w) A (keyLt' (tuples' true) v u) Q E s:=by
 obtain⟨a,o,j,l,k,n,rfl,p,_,d1⟩:=q;obtain⟨b,o',f,e,d,y,rfl,g,_,d2⟩:=r;refine kat_lt p d1 g d2 ?_;show KatLex prog w A true _ Q [(.int i l,.int i' e),(.int j k,.int f d)] 0 s;refine kat_cons (wpAny_eqBool_int (kat_go (λc=>kat_yes ?_) λ_=>kat_no ?_))
 ·have m:i=i':=by simpa using c
  cases t m;rw[p]at g;cases g;rw[d1]at d2;have x:j=f:=by
   have:=(Data.seq.inj d2).1;simp at this;exact this.2.1
  have hb:decide (i<i')=decide (#[EA i l,EA j k].size< #[EA i' e,EA f d].size):=by
   rw[m];simp
  rw[hb]at h;refine kat_cons (wpAny_eqBool_int (kat_go (λ_=>kat_yes (kat_nil h)) λc=>?_));rw[x]at c;simp at c
 ·show BN _ _ (oneLt' true _ _) _ _ _;exact oneLt_int h
end
section
variable{X:Cx}
theorem Oe:FE X (.builtin "sorted") (λxs H Q=>∃(l:AE) (ts:List AE) (ks:List Int),xs=[.ref l]/\H l=some (.lst (ts.map V.ref))/\ks.length=ts.length/\ks.Nodup/\(∀i<ts.length,∃j,H (ts.getD i 0)=some (.tup [.int (ks.getD i 0),.int j]))/\ts.length<64/\∀(D:AE) (ps:List Nat),H D=none->ps.Perm (Bm ts.length)->(ps.map λi=>ks.getD i 0).Pairwise (·< ·)->Q (.ref D) (upd H D (.lst ((ps.map λi=>ts.getD i 0).map V.ref)))):=by
 intro pZ s σ H xs us Q I r h;obtain⟨l,ts,ks,rfl,hl,d3,b6,k,d8,q⟩:=h;obtain⟨u,rfl,rx⟩:=Ig r;cases (show u=BD l from rx);obtain⟨m,hn,_⟩:=id I.loc;obtain⟨d,r,pl,hz⟩:=I.list (Cj.of hl);have ei:d=ts.map BD:=ZB r;have E:ts.length=d.length:=by rw[ei,Ay]
 have g:∀i,i<ts.length->d.getD i DX= .ref (ts.getD i 0):=λi hi=>by
  rw[ei];simp[hi]
 have a9:∀t∈ts,∃i,i<ts.length/\ts.getD i 0=t:=λt O=>by
  obtain⟨i,hi,e⟩:=JK.mp O;exact⟨i,hi,by simp[hi,e]⟩
 have inj:∀i j,i<d.length->j<d.length->ks.getD i 0=ks.getD j 0->i=j:=λi j hi hj e=>by
  have a3:i<ks.length:=by lia
  have b7:j<ks.length:=by lia
  refine(List.getElem?_inj a3 b6).mp ?_;simpa [a3,b7]using e
 have Y:∀t∈ts,∃i j,H t=some (.tup [.int i,.int j]):=λt O=>by
  obtain⟨i,hi,rfl⟩:=a9 t O;obtain⟨j,e⟩:=k i hi;exact⟨_,_,e⟩
 have b3:∀i,i<d.length->fO s.heap (d.getD i DX) (ks.getD i 0):=λi hi=>by
  obtain⟨j,hp⟩:=k i (by lia);rw[g i (by lia)];obtain⟨_,vs,M,o,e,hc,n,hd⟩:=I.hok _ _ hp;obtain⟨a,b,rfl,⟨t1,U⟩,⟨t2,e2⟩⟩:=el M;subst U e2;exact⟨_,o,_,t1,t2,n,rfl,e,hc,hd⟩
 have P:Ti s.heap d:=λv S=>by
  rw[ei]at S;obtain⟨t,O,rfl⟩:=Bg.mp S;obtain⟨i,j,hp⟩:=Y t O;obtain⟨_,vs,M,o,e,hc,n,hd⟩:=I.hok t _ hp;obtain⟨a,b,rfl,⟨t1,U⟩,⟨t2,e2⟩⟩:=el M;subst U e2;exact⟨t,o,_,_,t1,t2,n,rfl,e,hc,hd⟩
 by_cases h2:d.length<2
 ·obtain⟨e,he⟩:=sortedAll_at s.heap d d.toArray;have U: (Bm ts.length).map (λi=>ts.getD i 0)=ts:=by
   apply List.ext_getElem
   ·simp
   ·intro i h1 h2;simp[h2]
  have q1:=λD T=>q D (Bm ts.length) T (List.Perm.refl _) (by
   rw[Ft];intro i j hi hj d5;simp at hi hj
   lia)
  rw[U]at q1;refine cq pl.isList h2 ⟨.ref (s.heap.objs.size+1),_,I.laid (t':=s.toks) (λ_ _=>sortedAll_old) (Da _) (show Dw X.prog X.w _ _ _ (.lst (ts.map V.ref))from⟨hz,d,e,r,by simpa using he⟩),rfl,q1 _ (I.hok.fresh (Da _))⟩
 ·have A:∀{b:AE} {o:HO},H b=some o->b≠X.env.locals:=λe=>Bt e I.free;refine kat_sorted (m:=m) (L:=X.env.locals) (h₀:=Att.noObjs s.heap) (news:=Att.ledger s.heap X.env.locals X.env.locals) (vs:=d) (Att.fr_all hn) (λp hp=>⟨(Att.mem_ledger.mp (show(p.1,p.2)∈_ from hp)).2.2,(Att.mem_ledger.mp (show(p.1,p.2)∈_ from hp)).1,Att.noObjs_get _ _⟩) pl.isList (by lia) (by lia) λD U h1 F1 N1 a1=>?_;have W:∀b o,b≠X.env.locals->s.heap.get? b=some o->h1.get? b=some o:=λb o n e=>(N1 (b,o) (.tail _ (Att.mem_ledger.mpr ⟨n,n,e⟩))).1;have B:Ti h1 d:=λv S=>by
   obtain⟨a,o,i,j,t,u,n,rfl,e,r⟩:=P v S;refine⟨a,o,i,j,t,u,n,rfl,W a o ?_ e,r⟩;rw[ei]at S;obtain⟨t',O,e'⟩:=Bg.mp S;cases e';obtain⟨i,j,hp⟩:=Y _ O;exact A hp
  refine cP (s:={s with heap:=h1}) B (by lia) ?_;have F:∀i,i<d.length->fO h1 (d.getD i DX) (ks.getD i 0):=λi hi=>by
   obtain⟨a,o,j,t,u,n,ea,e,r⟩:=b3 i hi;refine⟨a,o,j,t,u,n,ea,W a o ?_ e,r⟩;rw[g i (by lia)]at ea;cases ea;obtain⟨j,hp⟩:=k i (by lia);exact A hp
  have h0:0<d.length:=by lia
  have fs:=hh h0;have hp:Pm d.length (FA (MH λi=>ks.getD i 0) (kas_sort d.length)):=ZW _ fs;have G:=iY (K:=λi=>ks.getD i 0) h0 inj;refine iX (N:=d.length) (R:=Pm d.length) (lt:=MH λi=>ks.getD i 0) (λi j C hi hj hC=>?_) _ fs ?_
  ·unfold kas_ask;exact gB (s:={s with heap:=h1}) (F i hi) (F j hj) (λe=>by rw[inj i j hi hj e]) hC
  ·generalize FA (MH λi=>ks.getD i 0) (kas_sort d.length)=p at hp G;refine KasFin.intro F1 N1 (.head λp hp=>BE (a1 p hp)) λh2 c F2 N2=>?_;have kk:∀b o,b≠X.env.locals->s.heap.get? b=some o->h2.get? b=some o:=λb o n e=>(N2 (b,o) (.tail _ (Att.mem_ledger.mpr ⟨n,n,e⟩))).1;have T:=N2 (D,listOf (List.toArray (p.toList.map λi=>d.getD i DX)) c) (.head _);have a6:s.heap.get? D=none:=by
    cases e:s.heap.get? D with
    |none=>rfl
    |some o=>exact wo (a1 (D,o) (Att.mem_ledger.mpr ⟨T.2.1,T.2.1,e⟩)) (DZ _)
   have f:H D=none:=by
    cases e:H D with
    |none=>rfl
    |some u=>
     obtain⟨o,z⟩:=(I.hok D u e).some_of;rw[a6]at z;cases z
   have Z:p.toList.length=ts.length:=by
    have:=hp.length_eq;rw[BB]at this
    lia
   have hr: (p.toList.map λi=>ks.getD i 0).Pairwise (·< ·):=bG.rise (by rw[<-EJ,Z,E];exact G);have et: (p.toList.map λi=>d.getD i DX)=(p.toList.map λi=>ts.getD i 0).map BD:=by
    rw[Bi];refine Dj λi hi=>g i ?_;have:=CG.mp (hp.mem_iff.mp hi)
    lia
   have b4:p.toList.Perm (Bm ts.length):=by rw[E];exact hp
   have q':=q D p.toList f b4 hr;have tl: (p.toList.map λi=>ts.getD i 0).length=ts.length:=by rw[Ay,Z]
   generalize (p.toList.map λi=>ts.getD i 0)=y at et q' tl;refine⟨.ref D,upd H D (.lst (y.map V.ref)),?_,rfl,q'⟩;show Cr X pZ σ (upd H D (.lst (y.map V.ref))) {s with heap:=h2,gens:=s.gens,drawn:=s.drawn,toks:=s.toks};refine I.step (s:=s) (g':=s.gens) (d':=s.drawn) (t':=s.toks) (ch:=[]) (λ_ z=>nomatch z) (λb o nl _ _ e _=>kk b o nl e) (λb o nl _ _ e _=>⟨o.slots,kk b o nl e⟩) (λb o _ e nb=>?_) (λb o _ e=>?_) (λb ys e=>by rw[Bb (Bt e f)];exact e) (λb o u e=>by rw[Bb (Bt e f)];exact e) (λb ps e=>⟨#[],by rw[Bb (Bt e f),e];simp⟩) (λm' b5=>?_) (λb u e=>?_) I.bare
   ·rw[Bb λz=>by rw[z,a6]at e;cases e];exact nb
   ·by_cases hb:b=X.env.locals
    ·obtain⟨o',_,_,e',_⟩:=F2.ns;exact⟨o',by rw[hb];exact e'⟩
    ·exact⟨o,kk b o hb e⟩
   ·obtain⟨o,es,ep,ho,hd,hk,b8⟩:=hn;obtain⟨o',d9,e0,a0,a5,d4,a4⟩:=b5;rw[ho]at a0;cases a0;rw[hd]at a5;cases a5;have:m'=m:=funext λx=>(a4 x).symm.trans (b8 x);rw[this];exact F2.ns
   ·by_cases hb:b=D
    ·subst hb;rw[AC]at e;cases e;refine⟨by rw[Ay,tl,DJ];lia,y.map BD,c,?_,?_⟩
     ·clear et q' tl T;induction y with
      |nil=>exact .nil
      |cons a r ih=>exact .cons rfl ih
     ·have:=T.1;rw[et]at this;exact this
    ·rw[Bb hb]at e;refine(I.hok b u e).stay (λx v J z=>kk x v ?_ z) (λx z=>by rw[Bb (Bt z f)];exact z) λx ys z=>by rw[Bb (Bt z f)];exact z
     rcases J with rfl|J
     ·exact A e
     ·exact A J
end
end L2
namespace L2
open PySem PySem.W PySem.Spec PyProof.Rows
section
variable{X:Cx}
theorem pQ{e:Expr}{t u:TE}(h:PE X e t)(h':PE X e u):PE X e (λσ H Q=>t σ H Q\/u σ H Q):=by
 intro pZ s σ H Q I q;rcases q with q|q
 ·exact h pZ s σ H Q I q
 ·exact h' pZ s σ H Q I q
theorem jj{tg e:Expr}{t u:TI}(h:PI X tg e t)(h':PI X tg e u):PI X tg e (λσ H R=>t σ H R\/u σ H R):=by
 intro pZ s σ H R I q;rcases q with q|q
 ·exact h pZ s σ H R I q
 ·exact h' pZ s σ H R I q
end
def Ze(h:Ct)(vs:List AB):Ct:=((h.push (EG "list" #[] 0)).update h.objs.size (EQ (·++vs.toArray))).push (EG "list" vs.toArray 0)
theorem UP(h:Ct)(vs:List AB): ((h.push (EG "list" #[] 0)).update h.objs.size (EQ (·++vs.toArray))).objs.size=h.objs.size+1:=by
 rw[QT,size_push']
theorem dD(h:Ct)(vs:List AB): (Ze h vs).get? (h.objs.size+1)=some (EG "list" vs.toArray 0):=by
 unfold Ze;rw[<-UP h vs];exact Bo _ rfl
theorem nL{h:Ct}{vs:List AB}{b:AE}{o:Obj}(e:h.get? b=some o): (Ze h vs).get? b=some o:=by
 have a:=Bu e;unfold Ze;rw[HD _ _ _ (by rw[UP];exact BE (ED a)),Heap.get?_update_ne _ _ _ _ (BE a),HD _ _ _ (BE a)];exact e
section
variable{prog:Bq}{w:BU}{A:CH}{E:AB->AG->Prop}{s:AG}{l:AE}{vs:List AB}
theorem bo{Q:List AB->AG->Prop}(c:s.heap.IsTuple l vs.toArray)(d:vs.length<64)(h:Q vs {s with heap:=(s.heap.push (EG "list" #[] 0)).update s.heap.objs.size (EQ (·++vs.toArray))}):BN (model prog w) A (collect (.ref l)) Q E s:=by
 obtain⟨o,ho,hc,n,hd⟩:=c;have b: (s.heap.push (EG "list" #[] 0)).get? l=some o:=AK _ ho;have a: (s.heap.push (EG "list" #[] 0)).get? s.heap.objs.size=some (EG "list" #[] 0):=Bo _ rfl;unfold collect;refine AR (wpAny_runValue (IQ entry_proto_collect' ?_));refine AR (XS (Bx ⟨Code.quiet_builtin _ Ab,IQ entry_list_iadd' ?_⟩));show BN _ _ (Builtin.List.listExtendWith (.ref s.heap.objs.size) (.ref l) (.ref s.heap.objs.size)) _ _ {s with heap:=s.heap.push (EG "list" #[] 0)};unfold Builtin.List.listExtendWith;refine AR (wpAny_typeOf (T:="tuple") ⟨o,b,hc⟩ ?_);rw[wm (by rw[show(IU "tuple"==IU "tuple")=true from rfl];simp)];refine AR (listItems_at b hd (AR (listItems_at (xs:=#[]) (n:=0) a rfl ?_)));rw[wk (by simp)];refine AR (listUpdate_at (xs:=#[]) (n:=0) a rfl ?_ (Ci _) (by
  show(#[] ++vs.toArray).size<=sizeLine+1;rw[DJ];simp;lia))
 refine Bx (AR (wpAny_load (get?_update_seq a _) ?_));show BN _ _ (IX ((#[]:Array AB) ++vs.toArray).toList) Q E _;rw[show((#[]:Array AB) ++vs.toArray).toList=vs by simp];exact Bx h
theorem TD{b:List (Bc×AB)}{Q:AB->AG->Prop}(g:s.heap.IsTuple l vs.toArray)(f:vs.length<64)(d:argsOk "sorted" ⟨[.ref l],b⟩)(c:argsOk "list.sort" ⟨[.ref (s.heap.objs.size+1)],b⟩)(h:BN (model prog w) A.in1.in1 (Builtin.«list.sort» ⟨[.ref (s.heap.objs.size+1)],b⟩) (λfin s'=>∃v,fin= .done (.ret v)/\Q (.ref (s.heap.objs.size+1)) s') E {s with heap:=Ze s.heap vs}):
  BN (model prog w) A (call (.builtin "sorted") [.ref l] b) Q E s:=by
 refine call_function_entry_kw kind_sorted plain_sorted entry_sorted d ?_;unfold Builtin.«sorted»;refine AR (m:=checkCount "sorted" 1 1 _) (Bx ?_);refine AR (bo g f (AR (XS ?_ (by rw[DJ];lia))));show BN _ _ _ _ _ {s with heap:=Ze s.heap vs};rw[UP];refine AR (IJ (wpAny_call_entry_kw slot_list_sort ⟨_,dD _ _,rfl⟩ entry_list_sort ?_ c));exact Ia h (λfin s' a=>(by obtain⟨v,e,q⟩:=a;exact⟨v,e,Bx ⟨_,rfl,q⟩⟩)) λ_ _ x=>x
theorem Yr{ns:List Int}{Q:AB->AG->Prop}(d:s.heap.IsTuple l vs.toArray)(e:Yb vs ns)(c:vs.length<64)(h:∀(b:Array AB) (a:List Int),Yb b.toList a->a.Perm ns->a.Pairwise (·<= ·)->Q (.ref (s.heap.objs.size+1)) {s with heap:=sortedAll s.heap vs b}):
  BN (model prog w) A (call (.builtin "sorted") [.ref l]) Q E s:=TD d c (args_sorted1 _) (args_list_sort _) (list_sort_tree (s:={s with heap:=Ze s.heap vs}) (dD _ _) e c λb a i g f=>⟨_,rfl,h b a i g f⟩)
theorem aO{h₀:Ct}{L:AE}{m:Bc->Option AB}{news:List (AE×Obj)}{b:Bool}{Q:AB->AG->Prop}{kz:List Int}{f:AB}{r:List (Bc×AB)}(F:Fr h₀ L s.heap m)(N:News h₀ L s.heap news)(C:s.heap.IsTuple l vs.toArray)(j:kz.length=vs.length)(n:vs.length<64)(u:argsOk "sorted" ⟨[.ref l],r⟩)(t:∀x,argsOk "list.sort" ⟨[.ref x],r⟩)(B:∀x,Builtin.«list.sort» ⟨[.ref x],r⟩=ksk_tree x f b)(d:∀(i:Nat) (v:AB) (k:Int),vs[i]?=some v->kz[i]?=some k->∀(h:Ct) (tk:Nat) (own:List (AE×Obj)),Fr h₀ L h m->News h₀ L h (news++own)->BN (model prog w) A.in1.in1 (call f [v]) (KskEnd h₀ L m (news++own) k {s with heap:=h,toks:=tk}) (λ_ _=>False) {s with heap:=h,toks:=tk})(h:∀D h' tk a c,Fr h₀ L h' m->News h₀ L h' ((D,EG "list" a c)::news)->(∀q∈news,q.1<D)->KskOut b kz vs a.toList->Q (.ref D) {s with heap:=h',toks:=tk}):
  BN (model prog w) A (call (.builtin "sorted") [.ref l] r) Q E s:=by
 refine TD C n u (t _) ?_;rw[B];have keep:∀b o,s.heap.get? b=some o->(Ze s.heap vs).get? b=some o:=λb o e=>nL e;have y:L<s.heap.objs.size:=F.ns.lt;have g:∀p∈news,p.1<s.heap.objs.size+1:=λp hp=>ED (Bu (N p hp).1);exact ksk_sort (s:={s with heap:=Ze s.heap vs}) (F.kept keep) (N.grown keep) (dD _ _) (IK (ED y)) (Heap.get?_none_of_le (AJ F.above (Nat.le_succ_of_le (Gs y)))) (λp hp=>BE (g p hp)) j n d
  λh' tk a c H G z=>⟨_,rfl,h _ h' tk a c H G g z⟩
end
section
variable{X:Cx}
theorem Qw:FE X (.builtin "sorted") (λxs H Q=>∃(p:AE) (ns:List Int),xs=[.ref p]/\DW X.K H p (ns.map V.int)/\ns.length<64/\∀l,H l=none->Q (.ref l) (upd H l (.lst ((sortI ns).map V.int)))):=by
 intro pZ s σ H xs us Q I r h;obtain⟨p,ns,rfl,k,n,q⟩:=h;obtain⟨u,rfl,j⟩:=Ig r;cases j;obtain⟨b,d,pl,hz⟩:=I.tuple k;have g:b.length=ns.length:=by rw[<-d.length,Ay]
 refine Yr pl (Pd d) (by lia) λa c t i o=>?_;obtain⟨e,m⟩:=sortedAll_at s.heap b a;have en:c=sortI ns:=eq_sortI i o;subst en;refine⟨.ref (s.heap.objs.size+1),_,I.laid (t':=s.toks) (λ_ _=>sortedAll_old) (Da _) (show Dw X.prog X.w _ _ _ (.lst ((sortI ns).map V.int))from⟨?_,a.toList,e,Xs t,by simpa using m⟩),rfl,q _ (I.hok.fresh (Da _))⟩;rw[Ay,i.length_eq,<-Ay (f:=V.int)];exact hz
end
section
variable{X:Cx}{params:KH}{scope:Scope}{y fld q:Bc}{yp ap:FX}{pm:AB}
theorem WH(G:fP params scope y fld q yp ap)(M:X.A.depth<JH){pZ:List (AE×Obj)}{σ:St}{H:Hp}{s:AG}{Q:VK}{l f c:AE}{xs:List V}{ks:List Int}{ctv:AB}(I:Cr X pZ σ H s)(hl:H l=some (.tup xs))(b7:xs.length<64)(a2:ks.length=xs.length)(hx:∀(i:Nat) (v:V) (k:Int),xs[i]?=some v->ks[i]?=some k->∃a C dx fs,v= .ref a/\H a=some (.ins C dx fs)/\NV X.K C/\Go X.K C fld/\fs.lookup fld=some (.int k))(hf:H f=some (aW f (Fw "<lambda>" q params (kW y fld yp ap) scope [] pm c ctv)))(hc:H c=some (Zf c q))(h:∀D ys,H D=none->Mc ks xs ys->Q (.ref D) (upd H D (.lst ys))):
  BN (model X.prog X.w) X.A (call (.builtin "sorted") [.ref l] [(BJ "key",.ref f)]) (EP X pZ σ Q) X.xe s:=by
 obtain⟨m,hn,_⟩:=id I.loc;obtain⟨a9,r,pl,hz⟩:=I.tuple (DW.of hl);have j:=r.length;have J:∀{b:AE} {o:HO},H b=some o->b≠X.env.locals:=λe=>Bt e I.free;have R:∀b o,X.base.get? b=some o->b≠X.env.locals:=λb o e=>BE (BP (Bu e) (AJ I.ok.bsz I.ok.above));have N:∀h':Ct,(∀b o,b≠X.env.locals->s.heap.get? b=some o->h'.get? b=some o)->Md X.prog X.w H h':=λh' F b u e=>
  (I.hok b u e).stay (λx v d z=>F x v (by
   rcases d with rfl|d
   ·exact J e
   ·exact J d) z) (λ_ z=>z) λ_ _ z=>z
 refine aO (b:=false) (f:=.ref f) (m:=m) (L:=X.env.locals) (h₀:=Att.noObjs s.heap) (news:=Att.ledger s.heap X.env.locals X.env.locals) (vs:=a9) (kz:=ks) (Att.fr_all hn) (λp hp=>⟨(Att.mem_ledger.mp (show(p.1,p.2)∈_ from hp)).2.2,(Att.mem_ledger.mp (show(p.1,p.2)∈_ from hp)).1,Att.noObjs_get _ _⟩) pl (by rw[a2,j]) (by rw[<-j];exact b7)
  (ksk_s1 _ _) (λx=>ksk_l1 _ _) (λx=>ksk_t1 _ _) (λi v k hv hk h1 tk own F1 N1=>?_) λD h1 tk P n F1 N1 b3 a0=>?_
 ·have F:∀b o,b≠X.env.locals->s.heap.get? b=some o->h1.get? b=some o:=λb o n e=>(N1 (b,o) (Dq _ (Att.mem_ledger.mpr ⟨n,n,e⟩))).1;have B:=N h1 F;have U:X.K.In h1:=I.ok.mod.kin.keeps λb o e=>F b o (R b o e) (I.bk b o e);have S:h1.NoLimit:=I.ok.mod.nolimit.keeps λb o e=>F b o (R b o e) (I.bk b o e);have hi:i<xs.length:=by rw[j];exact(AO.mp hv).1
  obtain⟨x,Y⟩:∃x,xs[i]?=some x:=⟨_,Az hi⟩;obtain⟨u0,Z,rx⟩:=r.get Y;rw[hv]at Z;cases Z;obtain⟨a,C,dx,fs,rfl,ha,cC,nA,b4⟩:=hx i x k Y hk;obtain rfl:v=BD a:=rx;refine RD (PySem.W.kla_callFunE M (aV B hf) rfl G.co G.gen rfl (bp B hc) ?_);rw[G.bind];refine Bx (UY G.cell (λz hz=>?_) (λh2 b1 b0=>?_) G.kind)
  ·rw[AM.mp hz];exact G.loc
  ·have E:∀b o,h1.get? b=some o->h2.get? b=some o:=λb o e=>b0.extBut b o (BE (Bu e)) (AK _ e);refine⟨S.keeps E,PySem.W.kla_codeExpr (Zj (G.ab _ _) (wpAny_Name (UZ G.kind G.loc b1 (show _=some (BD a)by simp[Ew]) ?_) G.nd))⟩;obtain⟨mA,O,rO,_,_,_⟩:=LX (B.kept E) ha;obtain⟨u,hu,ru⟩:=Lo.some_of (v:=.int k) (o:=mA fld) (by rw[<-b4];exact rO fld);obtain⟨t,rfl⟩:=(show ∃t,u=EA k t from ru);exact YW (U.keeps E) O (cC.get fld) cC.hd nA hu rfl ⟨h2,_,t,rfl,rfl,F1.kept E,N1.grown E⟩
 ·have F:∀b o,b≠X.env.locals->s.heap.get? b=some o->h1.get? b=some o:=λb o n e=>(N1 (b,o) (.tail _ (Att.mem_ledger.mpr ⟨n,n,e⟩))).1;have hD:=N1 (D,EG "list" P n) (.head _);have a5:s.heap.get? D=none:=by
   cases e:s.heap.get? D with
   |none=>rfl
   |some o=>exact wo (b3 (D,o) (Att.mem_ledger.mpr ⟨hD.2.1,hD.2.1,e⟩)) (DZ _)
  have g:H D=none:=by
   cases e:H D with
   |none=>rfl
   |some u=>
    obtain⟨o,z⟩:=(I.hok D u e).some_of;rw[a5]at z;cases z
  obtain⟨ps,pp,po,a8⟩:=a0;obtain⟨qs,pq,rq⟩:=Paired.perm pp.symm (bJ ks r);have vq:=YR rq;have srt:qs.Pairwise λp q=>p.1<=q.1:=by
   have z: (ps.map QO).Pairwise (·<= ·):=Ed.mpr (a8.imp λh=>by simpa using h);rw[<-di rq]at z;exact Ed.mp z
  have T: (qs.map JJ).length=xs.length:=by
   rw[Ay,pq.length_eq,List.length_zip,a2,Nat.min_self]
  refine⟨.ref D,upd H D (.lst (qs.map JJ)),?_,rfl,h D _ g ⟨qs,pq,rfl,srt⟩⟩;refine I.step (g':=s.gens) (d':=s.drawn) (t':=tk) (ch:=[]) (λ_ z=>nomatch z) (λb o nl _ _ e _=>F b o nl e) (λb o nl _ _ e _=>⟨o.slots,F b o nl e⟩) (λb o _ e nb=>?_) (λb o _ e=>?_) (λb ys e=>by rw[Bb (Bt e g)];exact e) (λb o u e=>by rw[Bb (Bt e g)];exact e) (λb ps e=>⟨#[],by rw[Bb (Bt e g),e];simp⟩) (λm' b2=>?_) (λb u e=>?_) I.bare
  ·rw[Bb λz=>by rw[z,a5]at e;cases e];exact nb
  ·by_cases hb:b=X.env.locals
   ·obtain⟨o',_,_,e',_⟩:=F1.ns;exact⟨o',by rw[hb];exact e'⟩
   ·exact⟨o,F b o hb e⟩
  ·obtain⟨o,es,ep,ho,hd,hk,b5⟩:=hn;obtain⟨o',d2,d3,a1,a4,d1,a3⟩:=b2;rw[ho]at a1;cases a1;rw[hd]at a4;cases a4;have:m'=m:=funext λx=>(a3 x).symm.trans (b5 x);rw[this];exact F1.ns
  ·by_cases hb:b=D
   ·subst hb;rw[AC]at e;cases e;refine⟨by rw[T,DJ];lia,P.toList,n,?_,?_⟩
    ·rw[po];exact vq
    ·have:=hD.1;simpa [EG]using this
   ·rw[Bb hb]at e;refine(I.hok b u e).stay (λx v d z=>F x v ?_ z) (λx z=>by rw[Bb (Bt z g)];exact z) λx ys z=>by rw[Bb (Bt z g)];exact z
    rcases d with rfl|d
    ·exact J e
    ·exact J d
def im(K:AF)(T:AE)(b:FX)(q fld:Bc)(te:TE):TE:=λσ H Q=>te σ H λx H1=>HZ H1 T b q/\∃l xs ks,x= .ref l/\H1 l=some (.tup xs)/\xs.length<64/\ks.length=xs.length/\(∀(i:Nat) (v:V) (k:Int),xs[i]?=some v->ks[i]?=some k->∃a C dx fs,v= .ref a/\H1 a=some (.ins C dx fs)/\NV K C/\Go K C fld/\fs.lookup fld=some (.int k))/\∀D ys c,H1 D=none->QF T H1 c->HZ c T b q->c D=some (.lst ys)->Mc ks xs ys->Q (.ref D) c
theorem ag{e:Expr}{te:TE}{T c:AE}{p pos d kpos:FX}(he:PE X e te)(hg:Gl X "sorted")(hm:X.mg "sorted"=none)(J:defaultsOf params X.env=([],[]))(U:closureFor scope X.env=IX [])(B:X.env.code= .ref c)(C:Hh X.base c T)(hB:X.base.BuiltinsAt X.mg T)(hL:fP params scope y fld (X.env.qual++ "<lambda>") yp ap)(w:X.A.depth<JH)(G:BW [e] X.env=[(false,Ea e X.env)]:=by rfl):
  PE X (.Call (.Name "sorted" p) [e] [⟨some "key",.Lambda params (kW y fld yp ap) scope d,kpos⟩] pos) (im X.K T d (X.env.qual++ "<lambda>") fld te):=by
 intro pZ s σ H Q I h;refine CQ (Ku I hg hm (show Co "sorted"=some (.builtin "sorted")by decide+kernel) ?_);have j:Fq pos (BW [e] X.env)=(false,Ea e X.env)::Fq pos (BW [] X.env):=by rw[G];rfl
 refine PyProof.Rows.callWith_kw (e:=e) (rest:=[]) ?_ j (by rw[j];rfl);have a9:PA X [e] (WW te Yl):=Ax he AA G;refine Ei (a9 pos pZ s σ H (λvs H1=>match vs with
  |[x]=>HZ H1 T d (X.env.qual++ "<lambda>")/\∃l xs ks,x= .ref l/\H1 l=some (.tup xs)/\xs.length<64/\ks.length=xs.length/\(∀(i:Nat) (v:V) (k:Int),xs[i]?=some v->ks[i]?=some k->∃a C dx fs,v= .ref a/\H1 a=some (.ins C dx fs)/\NV X.K C/\Go X.K C fld/\fs.lookup fld=some (.int k))/\∀D ys M,H1 D=none->QF T H1 M->HZ M T d (X.env.qual++ "<lambda>")->M D=some (.lst ys)->Mc ks xs ys->Q (.ref D) M
  |_=>False) I h) λus s1 ⟨vs,H1,I1,O,R⟩=>?_
 match vs,R,O with
 |[x],R,O=>
  obtain⟨u,rfl,rx⟩:=Ig O;obtain⟨m,l,xs,ks,rfl,hl,Z,S,hx,q⟩:=R;cases (show u=BD l from rx);have a8:PK X [⟨some "key",.Lambda params (kW y fld yp ap) scope d,kpos⟩] (WW (px T d (X.env.qual++ "<lambda>") params (kW y fld yp ap) scope ((X.mg "__name__").getD .none)) Yl):=eN (Xe J U B C hB) jf;refine Ei (a8 pos pZ s1 σ H1 (λzs H2=>match zs with
   |[.ref f]=>∃E ctv,H1 f=none/\QF T H1 H2/\HZ H2 T d (X.env.qual++ "<lambda>")/\H2 E=some (Zf E (X.env.qual++ "<lambda>"))/\H2 f=some (aW f (Fw "<lambda>" (X.env.qual++ "<lambda>") params (kW y fld yp ap) scope [] ((X.mg "__name__").getD .none) E ctv))
   |_=>False) I1 ⟨m,λf E ctv H' a1 F g a4 a5=>⟨E,ctv,a1,F,g,a4,a5⟩⟩) λws s2 ⟨zs,H2,I2,N,P⟩=>?_
  match zs,P,N with
  |[.ref f],P,N=>
   obtain⟨u,rfl,ru⟩:=Ig N;cases (show u=BD f from ru);obtain⟨E,ctv,a1,F,g,a4,a5⟩:=P;have kp:∀{b:AE} {o:HO},H1 b=some o->(∀ps,o≠ .tbl ps)->H2 b=some o:=λe n=>F _ _ (m.ne e n) e;refine WH (ks:=ks) hL w I2 (kp hl λ_ z=>by cases z) Z S (λi v k h1 h2=>?_) a5 a4 λD ys t ho=>?_
   ·obtain⟨a,C,dx,fs,e1,e2,r⟩:=hx i v k h1 h2;exact⟨a,C,dx,fs,e1,kp e2 (λ_ z=>by cases z),r⟩
   ·have Y:H1 D=none:=by
     cases z:H1 D with
     |none=>rfl
     |some o=>
      by_cases L:D=T
      ·obtain⟨ps,ht⟩:=g.tbl;rw[L,ht]at t;cases t
      ·rw[F _ _ L z]at t;cases t
    refine q D ys _ Y (λb o n eb=>?_) ?_ AC ho
    ·rw[Bb (Bt (F b o n eb) t)];exact F b o n eb
    ·rcases g with g|⟨c2,g,a6⟩
     ·exact .inl (by rw[Bb (Bt g t)];exact g)
     ·exact .inr ⟨c2,by rw[Bb (Bt g t)];exact g,by rw[Bb (Bt a6 t)];exact a6⟩
end
section
variable{X:Cx}{e st:Expr}{te tst:TE}{pos p2:FX}
theorem Cv.rev:∀{xs:List V} {vs:List AB},Cv xs vs->Cv xs.reverse vs.reverse
 |_,_,.nil=>.nil
 |_,_,.cons a r=>by
  rw[GR,GR];have app:∀{xs:List V} {vs:List AB} {ys:List V} {us:List AB},Cv xs vs->Cv ys us->Cv (xs++ys) (vs++us):=λ{xs vs ys us} h h'=>by
   induction h with
   |nil=>exact h'
   |cons a r b=>exact .cons a b
  exact app (Cv.rev r) (.cons a .nil)
def tT(K:AF)(te tst:TE):TE:=λσ H Q=>te σ H λx H1=>tst σ H1 λy H2=>y= .int (-1)/\∃a xs,x= .ref a/\Cj K H2 a xs/\∀l,H2 l=none->Q (.ref l) (upd H2 l (.lst xs.reverse))
theorem jm(z:PE X e te)(g:PE X st tst):PE X (.Subscript e (.Slice none none (some st) p2) pos) (tT X.K te tst):=by
 intro pZ s σ H Q I h;refine Subscript_ (Ei (z pZ s σ H _ I h) λv s1 f=>?_);obtain⟨x,H1,C,m,p⟩:=f;refine wpAny_Slice ?_;rw[evalPart_none];refine Bx ?_;refine Bx ?_;rw[evalPart_some];refine Ei (g pZ s1 σ H1 _ C p) λvs c d=>?_;obtain⟨y,D,B,l,n⟩:=d;obtain⟨rfl,a,xs,rfl,hx,q⟩:=n;obtain⟨t,rfl⟩:=l;cases m;have i:Cr X pZ σ D {c with heap:=c.heap.push {cls:=.type "slice",data:=.fields #[.none,.none,.int (-1) t]}}:=B.kept (t':=c.toks) λb ob q=>AK _ q;obtain⟨u,r,j,hz⟩:=i.list hx;have k:=r.length;show BN (model X.prog X.w) X.A (subscriptTail e (.Slice none none (some st) p2) (.ref a) (.ref c.heap.objs.size)) (EP X pZ σ Q) X.xe {c with heap:=c.heap.push {cls:=.type "slice",data:=.fields #[.none,.none,.int (-1) t]}};refine tail_any (ops:=[.ref a,.ref c.heap.objs.size]) j.isList.typeIs slot_list_getitem.lookup ?_ (by with_unfolding_all rfl);refine wpAny_getItem_list_slice (st:=some (-1)) j.isList (Heap.IsSliceOf.new ..) .none .none (.int _ _) Aa ?_ (by rw[Bs] <;> lia);rw[krv_pick];refine⟨.ref _,_,i.laid (t':=c.toks) (o:=.lst xs.reverse) (λb ob q=>AK _ q) (AX _) ?_,rfl,q _ (i.hok.fresh (AX _))⟩;exact⟨by rw[Kg];exact hz,_,0,Cv.rev r,Bo _ rfl⟩
end
end L2
namespace K9
open PySem PySem.W HL L2
theorem Eg:Co "len"=some (.builtin "len"):=by decide+kernel
theorem Br:Co "isinstance"=some (.builtin "isinstance"):=by decide+kernel
theorem kQ:Co "max"=some (.builtin "max"):=by decide+kernel
theorem kP:Co "min"=some (.builtin "min"):=by decide+kernel
theorem kN:Co "sum"=some (.builtin "sum"):=by decide+kernel
theorem Mb:Co "all"=some (.builtin "all"):=by decide+kernel
theorem qI:Co "ord"=some (.builtin "ord"):=by decide+kernel
theorem Rz:Co "sorted"=some (.builtin "sorted"):=by decide+kernel
theorem Zi:Co "int"=some (.type "int"):=by decide+kernel
theorem Ma:Co "bool"=some (.type "bool"):=by decide+kernel
theorem FU:Co "list"=some (.type "list"):=by decide+kernel
theorem Qz:Co "tuple"=some (.type "tuple"):=by decide+kernel
theorem Iq:Co "str"=some (.type "str"):=by decide+kernel
theorem kO:Co "set"=some (.type "set"):=by decide+kernel
theorem ZR:Bk ["thing"] ["thing"] (AS (top 11)):=Ev
theorem ZT:Bk Ac Ac (AS (top 12)):=Ev
theorem VJ:Bk ["text","signs"] ["text","signs"] (AS (top 13)):=Ev
theorem cH:Bk ["thing"] ["thing"] (AS (top 14)):=Ev
theorem TN:Bk Ad Ad (AS (top 15)):=Ev
theorem PN:Bk ["word","figures"] ["word"] (AS (top 16)):=Ev
theorem VH:Bk ["truth"] ["truth"] (AS (top 17)):=Ev
theorem ZP:Bk ["word"] ["word"] (AS (top 18)):=Ev
theorem Sc:Bk ["line","words"] ["line"] (AS (top 19)):=Ev
theorem cG:Bk Ad Ad (AS (top 28)):=Ev
theorem TM:Bk Ae Ae (AS (top 38)):=Ev
theorem VI:Bk ["fields"] ["fields"] (AS (top 40)):=Ev
theorem TK:Bk ["numbers"] ["numbers"] (AS (top 41)):=Ev
theorem OB:Bk ["things"] ["things"] (AS (top 51)):=Ev
theorem Oz:Bk ["form","least"] ["form"] (AS (top 52)):=Ev
theorem NW:Bk ["fields"] ["fields"] (AS (top 53)):=Ev
theorem Mo:Bk ["form","numbers"] ["form"] (AS (top 54)):=Ev
theorem Rj:Bk Af Af (AS (top 55)):=Ev
theorem cI:Bk Af Af (AS (top 56)):=Ev
theorem ZS:Bk Ae Ae (AS (top 57)):=Ev
theorem VL:Bk ["field","in_choice"] ["field","in_choice"] (AS (top 58)):=Ev
theorem SA:Bk ["field","weights"] ["field","weights"] (AS (top 59)):=Ev
theorem TR:Bk Ag Ag (AS (top 60)):=Ev
theorem ZU:Bk Ag Ag (AS (top 61)):=Ev
theorem GZ:Bk ["forms","weights","place","form","fault"] ["forms"] (AS (top 62)):=Ev
theorem gr:Bk ["book","form"] ["book","form"] (AS (top 64)):=Ev
theorem SB:Bk ["default"] ["default"] (AS (top 65)):=Ev
theorem OA:Bk ["field","words"] Ah (AS (top 66)):=Ev
theorem Km:Bk ["form","sort","lines"] ["form"] (AS (top 67)):=Ev
theorem Kn:Bk ["book","lines","form"] ["book"] (AS (top 68)):=Ev
theorem cF:Bk Ai Ai (AS (top 69)):=Ev
theorem GM:Bk ["words","at","word","behind","number"] Ai (AS (top 70)):=Ev
theorem TQ:Bk ["words","at","found"] Ai (AS (top 71)):=Ev
theorem VM:Bk ["kind","word"] ["kind","word"] (AS (top 72)):=Ev
theorem Gz:Bk ["words","in_choice","number","name","found","kind","tail","default"] ["words","in_choice"] (AS (top 73)):=Ev
theorem Ow:Bk ["drafts","line","words"] ["drafts","line"] (AS (top 75)):=Ev
theorem LM:Bk ["lines","drafts","place","line"] ["lines"] (AS (top 76)):=Ev
theorem NM:Bk ["_law_script","_law_k","_law_cell","_law_more"] ["_law_script","_law_k"] (AS (top 78)):=Ev
theorem iV:Bk Aj Aj (AS (top 79)):=Ev
theorem Jx:Bk ["_law_number_here","_law_many","_law_letters","_law_step","_law_base","_law_border","_law_at","_law_signs"] ["_law_number_here","_law_many"] (AS (top 80)):=Ev
theorem MY:Bk ["_law_number_here","_law_most","_law_signs","_law_plain_here"] ["_law_number_here"] (AS (top 81)):=Ev
theorem Yy:Bk ["_law_number_here","_law_ahead","_law_kind_here"] ["_law_number_here","_law_ahead"] (AS (top 82)):=Ev
theorem iW:Bk ["_law_kind_here"] ["_law_kind_here"] (AS (top 83)):=Ev
theorem cJ:Bk Ak Ak (AS (top 84)):=Ev
theorem MZ:Bk ["_law_number_here","_law_mark","_law_name","_law_ahead","_law_weights","_law_is_choice","_law_kind_here","_law_must","_law_field_here"] ["_law_number_here","_law_mark","_law_name","_law_ahead","_law_weights","_law_is_choice"] (AS (top 85)):=Ev
theorem mh:Bk Al Al (AS (top 86)):=Ev
theorem ZQ:Bk Am Am (AS (top 87)):=Ev
theorem EW:Bk ["_law_script","_law_base","_law_most","_law_many","_law_names_here","_law_spec_here","_law_weights","_law_k","_law_one","_law_is_choice","_law_count","_law_marks","_law_told","_law_rows","_law_j","_law_field_here","_law_form"] ["_law_script","_law_base","_law_most"] (AS (top 88)):=Ev
theorem Yx:Bk An An (AS (top 89)):=Ev
theorem Iw:Bk ["_law_field_here","_law_spec_here","_law_kind_here","_law_blank_here","_law_made_here"] Ao (AS (top 90)):=Ev
theorem HP:Bk ["_law_form","_law_spec_here","_law_bit","_law_fields","_law_gone"] ["_law_form","_law_spec_here","_law_bit"] (AS (top 91)):=Ev
theorem iU:Bk An An (AS (top 93)):=Ev
theorem Yw:Bk ["_law_field_here","_law_spec_here","_law_told","_law_line_here"] Ao (AS (top 94)):=Ev
theorem PP:Bk ["_law_spec_here","_law_lines_here","_law_form"] Ap (AS (top 95)):=Ev
theorem Oy:Bk ["_law_field_here","_law_due","_law_spec_here","_law_told"] ["_law_field_here","_law_due","_law_spec_here"] (AS (top 96)):=Ev
theorem HN:Bk ["_law_form","_law_due","_law_spec_here","_law_field_here","_law_other","_law_marks","_law_others"] ["_law_form","_law_due","_law_spec_here"] (AS (top 97)):=Ev
theorem Tb:Bk ["_law_book","_law_spec_here","_law_weights","_law_form","_law_due"] ["_law_book","_law_spec_here"] (AS (top 98)):=Ev
theorem LL:Bk ["_law_script","_law_spec_here","_law_bit","_law_handed","_law_book","_law_due","_law_lines_here","_law_again","_law_told"] ["_law_script"] (AS (top 99)):=Ev
theorem VZ:Bk Aq Aq (AS (Cf (top 29) 1)):=Ev
theorem Rl:Bk Aq Aq (AS (Cf (top 29) 2)):=Ev
theorem Wa:Bk Aq Aq (AS (Cf (top 29) 6)):=Ev
theorem VR:Bk Aq Aq (AS (Cf (top 30) 0)):=Ev
theorem TW:Bk Ar Ar (AS (Cf (top 30) 2)):=Ev
theorem TX:Bk Aq Aq (AS (Cf (top 30) 3)):=Ev
theorem Wf:Bk Aq Aq (AS (Cf (top 31) 0)):=Ev
theorem TZ:Bk Ar Ar (AS (Cf (top 31) 1)):=Ev
theorem Ua:Bk Aq Aq (AS (Cf (top 31) 2)):=Ev
theorem VN:Bk Aq Aq (AS (Cf (top 32) 0)):=Ev
theorem TU:Bk Ar Ar (AS (Cf (top 32) 1)):=Ev
theorem TV:Bk Aq Aq (AS (Cf (top 32) 2)):=Ev
theorem Yz:Bk As As (AS (Cf (top 33) 0)):=Ev
theorem VO:Bk Aq Aq (AS (Cf (top 33) 2)):=Ev
theorem VP:Bk Ar Ar (AS (Cf (top 33) 4)):=Ev
theorem VQ:Bk Aq Aq (AS (Cf (top 33) 5)):=Ev
theorem YA:Bk As As (AS (Cf (top 34) 0)):=Ev
theorem VS:Bk Aq Aq (AS (Cf (top 34) 2)):=Ev
theorem VT:Bk Ar Ar (AS (Cf (top 34) 4)):=Ev
theorem VU:Bk Aq Aq (AS (Cf (top 34) 5)):=Ev
theorem YB:Bk ["self","item"] ["self","item"] (AS (Cf (top 35) 0)):=Ev
theorem VW:Bk Aq Aq (AS (Cf (top 35) 2)):=Ev
theorem Rk:Bk Aq Aq (AS (Cf (top 35) 3)):=Ev
theorem VX:Bk Ar Ar (AS (Cf (top 35) 5)):=Ev
theorem VY:Bk Aq Aq (AS (Cf (top 35) 6)):=Ev
theorem TY:Bk At At (AS (Cf (top 36) 0)):=Ev
theorem SC:Bk Aq Aq (AS (Cf (top 36) 2)):=Ev
theorem OZ:Bk Aq Aq (AS (Cf (top 36) 3)):=Ev
theorem SD:Bk Ar Ar (AS (Cf (top 36) 5)):=Ev
theorem Wb:Bk Au Au (AS (Cf (top 39) 0)):=Ev
theorem YC:Bk Av Av (AS (Cf (top 42) 0)):=Ev
theorem PQ:Bk Aq Aq (AS (Cf (top 42) 1)):=Ev
theorem Lb:Bk ["self","number","field"] ["self","number"] (AS (Cf (top 42) 2)):=Ev
theorem La:Bk ["self","name","field"] At (AS (Cf (top 42) 3)):=Ev
theorem NX:Bk Aq Aq (AS (Cf (top 42) 4)):=Ev
theorem NZ:Bk Aq Aq (AS (Cf (top 44) 0)):=Ev
theorem YD:Bk ["self","forms"] ["self","forms"] (AS (Cf (top 63) 0)):=Ev
theorem Mp:Bk ["self","name","form"] At (AS (Cf (top 63) 1)):=Ev
theorem YE:Bk Aq Aq (AS (Cf (top 63) 2)):=Ev
theorem We:Bk ["self","choice","name"] ["self","choice","name"] (AS (Cf (top 74) 0)):=Ev
theorem Wc:Bk Aq Aq (AS (Cf (top 74) 1)):=Ev
theorem IF:Bk ["self","words","field"] ["self","words"] (AS (Cf (top 74) 2)):=Ev
theorem NY:Bk ["self","numbers"] ["self","numbers"] (AS (Cf (top 74) 3)):=Ev
abbrev vZ(K:FL)(c:AE):Prop:=∀{H:Hp} {a dx:AE} {fs:List (Bc×V)},H a=some (.ins c dx fs)->Jl K H (.ref a) (.ref c)
section
variable{K:FL}{mg:Bc->Option AB}(T:Tx K mg)
include T
theorem Tx.hZ{c:Nat}(i:Nat)(h:KI lL.cl i=some c):vZ K c:=λe=>.ins e (T.cB i h) (T.cC i h) (Ba (T.mn (i:=0))) (Ba (T.cn (i:=0))) (T.cr i h)
theorem Tx.Fy:mg "len"=none:=T.y 0 rfl
theorem Tx.JT:mg "range"=none:=T.y 1 rfl
theorem Tx.Bv:mg "isinstance"=none:=T.y 2 rfl
theorem Tx.oh:mg "max"=none:=T.y 3 rfl
theorem Tx.og:mg "min"=none:=T.y 4 rfl
theorem Tx.nZ:mg "sum"=none:=T.y 5 rfl
theorem Tx.Pn:mg "all"=none:=T.y 6 rfl
theorem Tx.MK:mg "sorted"=none:=T.y 8 rfl
theorem Tx.RO:mg "enumerate"=none:=T.y 9 rfl
theorem Tx.nY:mg "zip"=none:=T.y 10 rfl
theorem Tx.dP:mg "int"=none:=T.y 11 rfl
theorem Tx.OW:mg "bool"=none:=T.y 12 rfl
theorem Tx.Ho:mg "list"=none:=T.y 13 rfl
theorem Tx.SV:mg "tuple"=none:=T.y 14 rfl
theorem Tx.KM:mg "str"=none:=T.y 15 rfl
theorem Tx.oa:mg "set"=none:=T.y 16 rfl
theorem Tx.ID:Dm K mg "is_whole" 80 ["thing"]:=T.d1 0 rfl λ_ _ _ _ _ _ _=>rfl
theorem Tx.EC:Dm K mg "is_among" 87 Ac:=T.d3 1 rfl λ_ _ _ _ _ _ _ _ _=>rfl
theorem Tx.Oq:Dm K mg "is_made_of" 92 ["text","signs"]:=T.d2 2 rfl λ_ _ _ _ _ _ _ _=>rfl
theorem Tx.Gw:Dm K mg "is_name" 99 ["thing"]:=T.d1 3 rfl λ_ _ _ _ _ _ _=>rfl
theorem Tx.Gv:Dm K mg "number_text" 106 Ad:=T.d1 4 rfl λ_ _ _ _ _ _ _=>rfl
theorem Tx.Je:Dm K mg "number_of" 113 ["word"]:=T.d1 5 rfl λ_ _ _ _ _ _ _=>rfl
theorem Tx.Ot:Dm K mg "are_unlike" 655 ["things"]:=T.d1 13 rfl λ_ _ _ _ _ _ _=>rfl
theorem Tx.Px:L2.bH K "are_unlike" "are_unlike" (top 51) 655 (Fe K 655):=T.df 13 rfl
theorem Tx.KQ:Dm K mg "is_thing_kind" 679 Af:=T.d2 17 rfl λ_ _ _ _ _ _ _ _=>rfl
theorem Tx.RX:Dm K mg "is_blank" 693 Ae:=T.d2 19 rfl λ_ _ _ _ _ _ _ _=>rfl
theorem Tx.Mi:Dm K mg "field_weight" 707 ["field","weights"]:=T.d2 21 rfl λ_ _ _ _ _ _ _ _=>rfl
theorem Tx.MP:Dm K mg "form_weight" 712 Ag:=T.d2 22 rfl λ_ _ _ _ _ _ _ _=>rfl
theorem Tx.Iu:Dm K mg "book_lines" 792 ["book"]:=T.d1 29 rfl λ_ _ _ _ _ _ _=>rfl
theorem Tx.Lw:Dm K mg "word_at" 799 Ai:=T.d2 30 rfl λ_ _ _ _ _ _ _ _=>rfl
theorem Tx.KO:Dm K mg "thing_kind_at" 806 Ai:=T.d2 31 rfl λ_ _ _ _ _ _ _ _=>rfl
theorem Tx.NJ:Dm K mg "_law_number" 886 ["_law_script","_law_k"]:=T.d2 37 rfl λ_ _ _ _ _ _ _ _=>rfl
theorem Tx.Zz:Dm K mg "_law_mixed" 893 Aj:=T.d2 38 rfl λ_ _ _ _ _ _ _ _=>rfl
theorem Tx.Tp:Dm K mg "_law_names" 898 ["_law_number_here","_law_many"]:=T.d2 39 rfl λ_ _ _ _ _ _ _ _=>rfl
theorem Tx.Pw:Dm K mg "_law_blank" 919 ["_law_kind_here"]:=T.d1 42 rfl λ_ _ _ _ _ _ _=>rfl
theorem Tx.dY:Dm K mg "_law_load" 940 Al:=T.d2 45 rfl λ_ _ _ _ _ _ _ _=>rfl
theorem Tx.RW:Dm K mg "_law_weight" 945 Am:=T.d2 46 rfl λ_ _ _ _ _ _ _ _=>rfl
theorem Tx.Pu:Dm K mg "_law_kind_made" 957 An:=T.d2 48 rfl λ_ _ _ _ _ _ _ _=>rfl
theorem Tx.To:Dm K mg "_law_words" 979 An:=T.d2 51 rfl λ_ _ _ _ _ _ _ _=>rfl
theorem Tx.Yh:Dm K mg "_law_same" 1008 ["_law_book","_law_spec_here"]:=T.d2 56 rfl λ_ _ _ _ _ _ _ _=>rfl
theorem Tx.oi:L2.bH K "law" "law" (top 99) 1013 (Fe K 1013):=T.df 57 rfl
theorem Tx.Lx:Er K (Fe K 162) Aq []:=b1 (T.mf 0 rfl) λ_ _ _ _ _ _ _=>rfl
theorem Tx.Ga:Er K (Fe K 169) Aq []:=b1 (T.mf 1 rfl) λ_ _ _ _ _ _ _=>rfl
theorem Tx.Py:Er K (Fe K 197) Aq []:=b1 (T.mf 2 rfl) λ_ _ _ _ _ _ _=>rfl
theorem Tx.RY:Er K (Fe K 324) As []:=b2 (T.mf 12 rfl) λ_ _ _ _ _ _ _ _=>rfl
theorem Tx.RP:isFn K (.ref 324)=true:=(T.mB2 12 rfl).2
theorem Tx.RZ:Er K (Fe K 431) ["self","item"] []:=b2 (T.mf 19 rfl) λ_ _ _ _ _ _ _ _=>rfl
theorem Tx.RQ:isFn K (.ref 431)=true:=(T.mB2 19 rfl).2
theorem Tx.Ou:Er K (Fe K 490) At []:=b2 (T.mf 24 rfl) λ_ _ _ _ _ _ _ _=>rfl
theorem Tx.Oo:isFn K (.ref 490)=true:=(T.mB2 24 rfl).2
theorem Tx.Ml:Er K (Fe K 598) ["self","number"] []:=b2 (T.mf 29 rfl) λ_ _ _ _ _ _ _ _=>rfl
theorem Tx.Mj:Er K (Fe K 605) At []:=b2 (T.mf 30 rfl) λ_ _ _ _ _ _ _ _=>rfl
theorem Tx.Jv:Er K (Fe K 610) Aq []:=b1 (T.mf 31 rfl) λ_ _ _ _ _ _ _=>rfl
theorem Tx.Sa:Er K (Fe K 738) ["self","forms"] []:=b2 (T.mf 33 rfl) λ_ _ _ _ _ _ _ _=>rfl
theorem Tx.RS:isFn K (.ref 738)=true:=(T.mB2 33 rfl).2
theorem Tx.MT:Er K (Fe K 745) At []:=b2 (T.mf 34 rfl) λ_ _ _ _ _ _ _ _=>rfl
theorem Tx.MM:fv K 379=fx "__init__" "Text.__init__" (Cf (top 34) 0) (.ref 372):=Ba (T.en (i:=0))
theorem Tx.JW:isFn K (.ref 379)=true:=(T.kds 0 rfl).2
theorem Tx.Jd:fv K 552=fx "__init__" "Field.__init__" (Cf (top 39) 0) (.ref 545):=Ba (T.en (i:=1))
theorem Tx.FQ:isFn K (.ref 552)=true:=(T.kds 1 rfl).2
theorem Tx.MO:fv K 584=fx "__init__" "Form.__init__" (Cf (top 42) 0) (.ref 577):=Ba (T.en (i:=2))
theorem Tx.Hy:isFn K (.ref 584)=true:=(T.kds 2 rfl).2
theorem Tx.Pq:mg "Truth"=some (.ref 242):=T.mc 1 rfl
theorem Tx.Tn:mg "Count"=some (.ref 275):=T.mc 2 rfl
theorem Tx.Tl:mg "Whole"=some (.ref 308):=T.mc 3 rfl
theorem Tx.Ye:mg "Upto"=some (.ref 362):=T.mc 4 rfl
theorem Tx.Lv:mg "Text"=some (.ref 415):=T.mc 5 rfl
theorem Tx.Yg:mg "List"=some (.ref 474):=T.mc 6 rfl
theorem Tx.KN:mg "Nested"=some (.ref 528):=T.mc 7 rfl
theorem Tx.GY:mg "Field"=some (.ref 555):=T.mc 8 rfl
theorem Tx.NH:mg "Record"=some (.ref 627):=T.mc 9 rfl
theorem Tx.NI:mg "Choice"=some (.ref 646):=T.mc 10 rfl
theorem Tx.dX:mg "Book"=some (.ref 755):=T.mc 11 rfl
theorem Tx.MR:NV K 242:=T.cB 1 rfl
theorem Tx.Zx:IY K 242=true:=(T.mks 0 rfl).1
theorem Tx.Zu:FI K (.ref 242)=true:=(T.mks 0 rfl).2
theorem Tx.Ps:DK K (.ref 242) "__init__"=some (some (.builtin "object.__init__")):=T.fw 0 rfl
theorem Tx.MS:NV K 275:=T.cB 2 rfl
theorem Tx.Zy:IY K 275=true:=(T.mks 1 rfl).1
theorem Tx.Zv:FI K (.ref 275)=true:=(T.mks 1 rfl).2
theorem Tx.Pt:DK K (.ref 275) "__init__"=some (some (.builtin "object.__init__")):=T.fw 1 rfl
theorem Tx.MQ:NV K 308:=T.cB 3 rfl
theorem Tx.Zw:IY K 308=true:=(T.mks 2 rfl).1
theorem Tx.Zt:FI K (.ref 308)=true:=(T.mks 2 rfl).2
theorem Tx.Pr:DK K (.ref 308) "__init__"=some (some (.builtin "object.__init__")):=T.fw 2 rfl
theorem Tx.JY:NV K 362:=T.cB 4 rfl
theorem Tx.dU:IY K 362=true:=(T.mks 3 rfl).1
theorem Tx.dQ:FI K (.ref 362)=true:=(T.mks 3 rfl).2
theorem Tx.RT:DK K (.ref 362) "__init__"=some (some (.ref 324)):=T.fnd 16 rfl
theorem Tx.JU:DK K (.ref 362) "most"=some none:=T.fo 0 rfl
theorem Tx.Jf:NV K 415:=T.cB 5 rfl
theorem Tx.SX:IY K 415=true:=(T.mks 4 rfl).1
theorem Tx.SW:FI K (.ref 415)=true:=(T.mks 4 rfl).2
theorem Tx.JX:DK K (.ref 415) "__init__"=some (some (.ref 379)):=T.fnd 21 rfl
theorem Tx.IB:DK K (.ref 415) "most"=some none:=T.fo 1 rfl
theorem Tx.JZ:NV K 474:=T.cB 6 rfl
theorem Tx.dV:IY K 474=true:=(T.mks 5 rfl).1
theorem Tx.dR:FI K (.ref 474)=true:=(T.mks 5 rfl).2
theorem Tx.RU:DK K (.ref 474) "__init__"=some (some (.ref 431)):=T.fnd 26 rfl
theorem Tx.JV:DK K (.ref 474) "item"=some none:=T.fo 2 rfl
theorem Tx.GL:NV K 528:=T.cB 7 rfl
theorem Tx.WQ:IY K 528=true:=(T.mks 6 rfl).1
theorem Tx.WP:FI K (.ref 528)=true:=(T.mks 6 rfl).2
theorem Tx.Op:DK K (.ref 528) "__init__"=some (some (.ref 490)):=T.fnd 31 rfl
theorem Tx.GX:DK K (.ref 528) "name"=some none:=T.fo 3 rfl
theorem Tx.Ce:NV K 555:=T.cB 8 rfl
theorem Tx.Ju:IY K 555=true:=(T.mks 7 rfl).1
theorem Tx.Jt:FI K (.ref 555)=true:=(T.mks 7 rfl).2
theorem Tx.FR:DK K (.ref 555) "__init__"=some (some (.ref 552)):=T.fnd 36 rfl
theorem Tx.DM:DK K (.ref 555) "number"=some none:=T.fo 4 rfl
theorem Tx.EU:DK K (.ref 555) "name"=some none:=T.fo 5 rfl
theorem Tx.DN:DK K (.ref 555) "kind"=some none:=T.fo 6 rfl
theorem Tx.EV:DK K (.ref 555) "must"=some none:=T.fo 7 rfl
theorem Tx.DU:DK K (.ref 555) "default"=some none:=T.fo 8 rfl
theorem Tx.KR:NV K 627:=T.cB 10 rfl
theorem Tx.QZ:IY K 627=true:=(T.mks 8 rfl).1
theorem Tx.QX:FI K (.ref 627)=true:=(T.mks 8 rfl).2
theorem Tx.Kj:DK K (.ref 627) "__init__"=some (some (.ref 584)):=T.fnd 37 rfl
theorem Tx.KS:NV K 646:=T.cB 11 rfl
theorem Tx.Ra:IY K 646=true:=(T.mks 9 rfl).1
theorem Tx.QY:FI K (.ref 646)=true:=(T.mks 9 rfl).2
theorem Tx.Kk:DK K (.ref 646) "__init__"=some (some (.ref 584)):=T.fnd 42 rfl
theorem Tx.Hi:NV K 755:=T.cB 12 rfl
theorem Tx.dW:IY K 755=true:=(T.mks 10 rfl).1
theorem Tx.dS:FI K (.ref 755)=true:=(T.mks 10 rfl).2
theorem Tx.RV:DK K (.ref 755) "__init__"=some (some (.ref 738)):=T.fnd 47 rfl
theorem Tx.Mh:hX K 755 "form_of" 745:=T.me 49 34 rfl rfl
theorem Tx.FP:DK K (.ref 755) "forms"=some none:=T.fo 18 rfl
theorem Tx.ML:DK K (.ref 755) "weights"=some none:=T.fo 19 rfl
theorem Tx.Em:NV K 863:=T.cB 13 rfl
theorem Tx.Js:DK K (.ref 863) "choice"=some none:=T.fo 20 rfl
theorem Tx.Lu:DK K (.ref 863) "name"=some none:=T.fo 21 rfl
theorem Tx.HJ:DK K (.ref 863) "fields"=some none:=T.fo 22 rfl
theorem Tx.Jc:DK K (.ref 863) "gone"=some none:=T.fo 23 rfl
theorem Tx.Sx:JR K (.type "NoneType") (.type "bool")=some false:=rfl
theorem Tx.Tk:JR K (.type "NoneType") (.type "int")=some false:=rfl
theorem Tx.Tj:JR K (.type "NoneType") (.type "str")=some false:=rfl
theorem Tx.Sw:JR K (.type "NoneType") (.type "list")=some false:=rfl
theorem Tx.QW:JR K (.type "NoneType") (.type "tuple")=some false:=rfl
theorem Tx.Zs:JR K (.type "bool") (.type "bool")=some true:=rfl
theorem Tx.bI:JR K (.type "bool") (.type "int")=some true:=rfl
theorem Tx.fQ:JR K (.type "str") (.type "str")=some true:=rfl
theorem Tx.Yd:JR K (.type "tuple") (.type "list")=some false:=rfl
theorem Tx.Vt:JR K (.type "tuple") (.type "tuple")=some true:=rfl
theorem Tx.FM:JR K (.type "list") (.type "list")=some true:=rfl
theorem Tx.Pp:JR K (.type "list") (.type "tuple")=some false:=rfl
theorem Tx.On:∃t,mg "MOST_NUMBER"=some (.int 115792089237316195423570985008687907853269984665640564039457584007913129639935 t):=T.ui 2 rfl
theorem Tx.Po:∃t,mg "MOST_SIGNS"=some (.int 100 t):=T.ui 4 rfl
theorem Tx.ee:iv ((Jw K 372).map List.head?)=some 100:=Ba (T.in_ (i:=1))
theorem Tx.dZ: (Jw K 372).map (λl=>(l.length:Int))=some 1:=Ba (T.in_ (i:=2))
theorem Tx.Tq: (Jw K 545).map lz=some 10:=Ba (T.in_ (i:=3))
theorem Tx.eh: (Jw K 577).map lz=some 11:=Ba (T.in_ (i:=4))
omit T in
theorem sG(h:oB lL K=true):tF K 563 561=true:=UV (f:=id) (l:=bB K) 0 ((AI _ _).mp ((AI _ _).mp ((AI _ _).mp ((AI _ _).mp ((AI _ _).mp h).2).2).2).2).2 rfl
theorem Tx.Sy{nm a:Bc}{b:KH}{bd:List JI}{sc:Scope}{d kV doc pm cdv ct:AB}{an:Option AE}(e:Fe K 564=fnOf nm a b bd sc d kV doc pm an cdv ct):cdv= .ref dE:=by
 have h:=qA (c:=dE) ((Ba (T.in_ (i:=0))));rw[e]at h;exact h
end
end K9
namespace K9
open PySem PySem.W HL L2 PyProof.Rows
abbrev jd:=BX
abbrev rM:=PySem.Challenge.rw_formkin_k08_books_written
def pk:List (Gk×V):=[(.inr "yes",.bl true),(.inr "no",.bl false)]
theorem ig{T c:AE}{l:PySem.W.OpenLaw}{n k:Nat}{q:Bq}{loose:List Bc}{XP: (Bc->Option AB)->Ct->Prop}{YP:BU->Ct->Prop}{d:DefRec}{K:AF}{CX:dO}{sp:AF->Sp}{x:Bc}(hn:l.most=some n)(B:n<=sizeLine)(D:d.params.defaults=[])(L:FD k RF)(N:∀(w:BU) (h:Ct),YP w h->K.In h/\h.get? T=some (QK #[])/\Hh h c T/\K.lookup T=none)(F:∀(w:BU) (mg:Bc->Option AB) (y:AE) (h:Ct),YP w h->h.Ns Cg mg->mg d.name=some (.ref y)->∃fd:Ey,(∀(s:AG) (u:AB),BindsTo s fd ⟨[u],[]⟩ [(x,u)])/\∀base:Ct,K.In base->base.Ns Cg mg->He l.prog w K mg base CX k y fd [x] (sp K))(z:∀(K:AF) (H:Hp) (a:AE) (ns:List Int),ns.length<=n->(∀i∈ns,Fh i<=1048576)->bC T H->Cj K H a (ns.map V.int)->sp K [.ref a] H (λv _=>v= .bl true) λ_ _ _=>False)(I:∀(H:Hp) (s:AG) (e:AB) (s':AG),CX.cx [] H s (λ_ _ _=>False) e s'->False)(A:CX.sm=false):
  PySem.W.WalkO q loose XP YP l.row.toRowW d [] (λf vs=>PySem.call f vs):=by
 refine Att.attach_call hn D λw s_ r mg mb y o pm cd doc a vs ns G Y ho hd M C t m j hg p=>?_;obtain⟨S,O,J,E⟩:=N w _ Y;obtain⟨fd,hb,R⟩:=F w mg y _ Y G.T.g C;exact gN O E J S G.T.g G.T.b G.T.builtins G.T.nolimit hg t m (AJ j B) L R hb (λH Q P=>z K H a ns j p Q P) (λH e s'=>I H r e s') A
theorem qY{K:FL}{h:Ct}{mg:Bc->Option AB}{s:AG}{w:BU}(e:Ii ul s.heap=K)(y:tE s=tG jd w)(X:K.In h)(G:h.Ns Cg mg):Tx K mg:=by
 subst e;refine⟨wn (λx=>x.1.1) y,wn (λx=>x.1.2.1) y,wn (λx=>x.1.2.2.1) y,wn (λx=>x.1.2.2.2.1) y,wn (λx=>x.1.2.2.2.2.1) y,wn (λx=>x.1.2.2.2.2.2.1) y,λx v e=>?_⟩;cases v with
 |none=>exact mg_none_of X G e
 |some v=>exact mg_of X G e
theorem qW{q:Bq}{loose:List Bc}{XP: (Bc->Option AB)->Ct->Prop}{d:DefRec}(Q:d.params.defaults=[])(hn:d.name="law"){k:Nat}(S:FD k RF){sp:FL->Sp}(F:∀(w:BU) (K:FL) (mg:Bc->Option AB) (base:Ct),Tx K mg->K.In base->KD jd w K 73 pk->He jd w K mg base Zr k 1013 (Fe K 1013) ["_law_script"] (sp K))(B:∀(K:FL) (mg:Bc->Option AB),Tx K mg->∀(s:AG) (u:AB),BindsTo s (Fe K 1013) ⟨[u],[]⟩ [("_law_script",u)])(J:∀(K:FL) (H:Hp) (a:AE) (ns:List Int),ns.length<=63->(∀i∈ns,Fh i<=1048576)->bC Vu H->Cj K H a (ns.map V.int)->sp K [.ref a] H (λv _=>v= .bl true) λ_ _ _=>False):
  WalkX q loose XP tE (tG jd) rM.row.toRowW d [] (λf vs=>PySem.call f vs):=by
 intro w s_ j mg mb G y a o pm cd doc Z kV ho hd R W O hg args b bs L Oc r N hwl P;refine ig (T:=Vu) (c:=dE) (l:=rM) (n:=63) (k:=k) (x:="_law_script") (K:=Ii ul s_.heap) (CX:=Zr) (sp:=sp) (YP:=λt h=>t=w/\(Ii ul s_.heap).In h/\h.get? Vu=some (tabObj #[])) (q:=q) (loose:=loose) (XP:=XP) (d:=d) rfl Aa Q S (λ_ h Y=>⟨Y.2.1,Y.2.2,oR Y.2.1 (sG (wn (λx=>x.1.2.1) y)),dt _ _ Ab⟩) (λt E X h Y G2 p=>?_) J (λ_ _ _ _ z=>z) rfl w s_ j mg mb G ⟨rfl,Frag.In.keeps (km ul s_.heap) L.keeps,L.keeps _ _ (pr (wn (λx=>x.1.2.2.2.2.2.2) y))⟩ a o pm cd doc Z kV ho hd R W O hg args b bs Oc r N hwl P;obtain⟨rfl,KX,_⟩:=Y;have T:=qY rfl y KX G2;have U:KD jd t (Ii ul s_.heap) 73 pk:=sx (l:=[("yes",true),("no",false)]) (wn (λx=>x.2) y) Aa Ab;have e:E "law"=some (.ref 1013):=(T.d1 57 rfl λ_ _ _ _ _ _ _=>rfl).m;rw[hn,e]at p;obtain rfl:1013=X:=by simpa using p
 exact⟨Fe (Ii ul s_.heap) 1013,B _ _ T,λbase h1 h2=>F t _ _ base ⟨T.A,T.B,T.C,T.D,T.M,T.I,λx v e=>T.g x v e⟩ h1 U⟩
def vd:DefRec:=⟨"law",IA (top 99),Hl (top 99),AS (top 99),⟨677,0,695,85⟩⟩
theorem holds{k:Nat}(f:FD k RF){sp:FL->Sp}(F:∀(w:BU) (K:FL) (mg:Bc->Option AB) (base:Ct),Tx K mg->K.In base->KD jd w K 73 pk->He jd w K mg base Zr k 1013 (Fe K 1013) ["_law_script"] (sp K))(B:∀(K:FL) (mg:Bc->Option AB),Tx K mg->∀(s:AG) (u:AB),BindsTo s (Fe K 1013) ⟨[u],[]⟩ [("_law_script",u)])(c:∀(K:FL) (H:Hp) (a:AE) (ns:List Int),ns.length<=63->(∀i∈ns,Fh i<=1048576)->bC Vu H->Cj K H a (ns.map V.int)->sp K [.ref a] H (λv _=>v= .bl true) λ_ _ _=>False):rM.Holds:=by
 refine k08.law_of λb=>?_;refine holds_openX (r:=rM.row) (q:=view jd keep) (loose:=lo) (Xt:=λs=>xlAt (view jd keep) [] s&&recOk [] s) (XP:=XL (view jd keep) []) (Yf:=tE) (Ya:=tG jd) (d:=vd) (kwd:=[]) (N:=60100) left (λs e=>xl_of s (JP.mp e).1) XL.keeps (by kernel_rfl) (by kernel_rfl) (by kernel_rfl) (λs e=>recFacts_of (JP.mp e).2) (by rfl) b Ab ⟨rfl,rfl,rfl,rfl,rfl,Ab⟩ ?hw ?hc
 case hw=>w_witness2
 case hc=>exact qW rfl rfl f F B c
end K9
namespace K9
open PySem L2
open HL (Fe)
seal L2.PE L2.PS L2.XQ L2.PA L2.PT L2.PW L2.PG L2.qT L2.PI L2.PO
variable{P:Bq}{w:BU}{K:AF}{mg:Bc->Option AB}{base:Ct}
def vt:HO->Bool
 |.tbl _=>true
 |_=>false
def Sm(H H':Hp):Prop:=∀a o,H a=some o->vt o=false->H' a=some o
theorem Sm.refl(H:Hp):Sm H H:=λ_ _ e _=>e
theorem Sm.trans{H H' c:Hp}(a:Sm H H')(b:Sm H' c):Sm H c:=λx o e n=>b x o (a x o e n) n
theorem Sm.of{H H':Hp}(s:Be H H'):Sm H H':=λx o e _=>s x o e
def vv:HO->Bool
 |.tbl _=>false
 |.ins C _ _=>!(C==555||C==613||C==627||C==646||C==755)
 |_=>true
def Sn(H H':Hp):Prop:=∀a o,H a=some o->vv o=true->H' a=some o
theorem Sm.sn{H H':Hp}(s:Sm H H'):Sn H H':=λa o e n=>s a o e (by cases o <;> first|rfl|cases n)
def uv:HO->Bool
 |.tbl _=>false
 |.ins C _ _=>!(C==613||C==627||C==646||C==755)
 |_=>true
def Sf(H H':Hp):Prop:=∀a o,H a=some o->uv o=true->H' a=some o
theorem Sm.sf{H H':Hp}(s:Sm H H'):Sf H H':=λa o e n=>s a o e (by cases o <;> first|rfl|cases n)
theorem Sf.sn{H H':Hp}(s:Sf H H'):Sn H H':=λa o e n=>s a o e (by
 cases o with
 |ins C dx fs=>
  have b: (!(C==555||C==613||C==627||C==646||C==755))=true:=n;show(!(C==613||C==627||C==646||C==755))=true;simp only[Bool.not_or,AI]at b ⊢;exact⟨⟨⟨b.1.1.1.2,b.1.1.2⟩,b.1.2⟩,b.2⟩
 |_=>first|rfl|cases n)
theorem Sf.upd{H:Hp}{x:AE}{o u:HO}(hx:H x=some o)(n:uv o=false):Sf H (upd H x u):=λa v e m=>by
 rw[Bb]
 ·exact e
 ·rintro rfl;rw[hx]at e;cases e;rw[n]at m;cases m
theorem Sn.upd{H:Hp}{x:AE}{o u:HO}(hx:H x=some o)(n:vv o=false):Sn H (upd H x u):=λa v e m=>by
 rw[Bb]
 ·exact e
 ·rintro rfl;rw[hx]at e;cases e;rw[n]at m;cases m
abbrev uK:Bc:="own_fields" ++ ".<locals>." ++ "<lambda>"
abbrev uL:FX:=⟨225,34,225,60⟩
abbrev Lm(H:Hp):Prop:=HZ H Vu uL uK
inductive Dt where
 |non|bl (b:Bool)|int (i:Int)|str (z:Bc)|lst (l:List Dt)|dct
mutual
def Th(H:Hp):Dt->V->Prop
 |.non,v=>v= .non
 |.bl b,v=>v= .bl b
 |.int i,v=>v= .int i
 |.str z,v=>v= .str z/\z.length<=1000
 |.lst l,v=>∃a xs,v= .ref a/\H a=some (.lst xs)/\Zq H l xs/\l.length<=1000
 |.dct,v=>∃a,v= .ref a/\H a=some (.dK [])
def Zq(H:Hp):List Dt->List V->Prop
 |[],xs=>xs=[]
 |d::l,xs=>∃x ys,xs=x::ys/\Th H d x/\Zq H l ys
end
mutual
theorem Th.sn{H H':Hp}(s:Sn H H'):∀(d:Dt) (v:V),Th H d v->Th H' d v
 |.non,_,h=>h
 |.bl _,_,h=>h
 |.int _,_,h=>h
 |.str _,_,h=>h
 |.lst l,_,⟨a,xs,e,h,k,z⟩=>⟨a,xs,e,s _ _ h rfl,Zq.sn s l xs k,z⟩
 |.dct,_,⟨a,e,h⟩=>⟨a,e,s _ _ h rfl⟩
theorem Zq.sn{H H':Hp}(s:Sn H H'):∀(l:List Dt) (xs:List V),Zq H l xs->Zq H' l xs
 |[],_,h=>h
 |d::l,_,⟨x,ys,e,h,k⟩=>⟨x,ys,e,Th.sn s d x h,Zq.sn s l ys k⟩
end
theorem Th.sm{H H':Hp}(s:Sm H H')(d:Dt)(v:V)(h:Th H d v):Th H' d v:=Th.sn s.sn d v h
theorem Zq.sm{H H':Hp}(s:Sm H H')(l:List Dt)(xs:List V)(h:Zq H l xs):Zq H' l xs:=Zq.sn s.sn l xs h
theorem Zq.len{H:Hp}:∀{l:List Dt} {xs:List V},Zq H l xs->xs.length=l.length
 |[],_,h=>by rw[show _=[]from h];rfl
 |d::l,_,⟨x,ys,e,_,k⟩=>by rw[e,Cd,Cd,Zq.len k]
theorem Zq.at{H:Hp}:∀{l:List Dt} {xs:List V},Zq H l xs->∀(i:Nat) x,xs[i]?=some x->∃d,l[i]?=some d/\Th H d x
 |[],_,h,i,x,e=>by rw[show _=[]from h]at e;simp at e
 |d::l,_,⟨y,ys,a,h,k⟩,0,x,e=>by rw[a]at e;simp at e;exact⟨d,rfl,e ▸ h⟩
 |d::l,_,⟨y,ys,a,h,k⟩,i+1,x,e=>by rw[a]at e;simp at e;obtain⟨d',c,b⟩:=Zq.at k i x e;exact⟨d',by simpa using c,b⟩
def qR:Dt->String
 |.non=>"NoneType" |.bl _=>"bool" |.int _=>"int" |.str _=>"str" |.lst _=>"list" |.dct=>"dict"
theorem Th.ty{K:AF}{H:Hp}:∀{d:Dt} {v:V},Th H d v->Jl K H v (.type (qR d))
 |.non,_,h=>by rw[show _=V.non from h];exact .non
 |.bl b,_,h=>by rw[show _=V.bl b from h];exact .bl b
 |.int i,_,h=>by rw[show _=V.int i from h];exact .int i
 |.str z,_,h=>by rw[show _=V.str z from h.1];exact .str z
 |.lst l,_,⟨a,xs,e,h,k,_⟩=>by rw[e];exact .lst h
 |.dct,_,⟨a,e,h⟩=>by rw[e];exact .dK h
def HS:Dt->Bool|.bl _=>true|_=>false
def YU:Dt->Bool|.bl _=>true|.int _=>true|_=>false
def YT:Dt->Bool|.str _=>true|_=>false
def Qn:Dt->Bool|.lst _=>true|_=>false
def QE:Dt->Int->Int->Bool
 |.int i,a,b=>decide (a<=i) &&decide (i<=b)
 |_,_,_=>false
inductive Kx where
 |truth|count|whole|bare
 |upto (d:Dt)|text (d:Dt)|form (d:Dt)
 |list (k:Kx)|thing (d:Dt)
def Of(H:Hp):Kx->V->Prop
 |.truth,v=>∃a dx,v= .ref a/\H a=some (.ins 242 dx [])
 |.count,v=>∃a dx,v= .ref a/\H a=some (.ins 275 dx [])
 |.whole,v=>∃a dx,v= .ref a/\H a=some (.ins 308 dx [])
 |.bare,v=>∃a dx,v= .ref a/\H a=some (.ins 200 dx [])
 |.upto d,v=>∃a dx u,v= .ref a/\H a=some (.ins 362 dx [("most",u)])/\Th H d u
 |.text d,v=>∃a dx u,v= .ref a/\H a=some (.ins 415 dx [("most",u)])/\Th H d u
 |.form d,v=>∃a dx u,v= .ref a/\H a=some (.ins 528 dx [("name",u)])/\Th H d u
 |.list k,v=>∃a dx u,v= .ref a/\H a=some (.ins 474 dx [("item",u)])/\Of H k u
 |.thing d,v=>Th H d v
theorem Of.sn{H H':Hp}(s:Sn H H'):∀{k:Kx} {v:V},Of H k v->Of H' k v
 |.truth,_,⟨a,dx,e,h⟩=>⟨a,dx,e,s _ _ h rfl⟩
 |.count,_,⟨a,dx,e,h⟩=>⟨a,dx,e,s _ _ h rfl⟩
 |.whole,_,⟨a,dx,e,h⟩=>⟨a,dx,e,s _ _ h rfl⟩
 |.bare,_,⟨a,dx,e,h⟩=>⟨a,dx,e,s _ _ h rfl⟩
 |.upto d,_,⟨a,dx,u,e,h,k⟩=>⟨a,dx,u,e,s _ _ h rfl,Th.sn s d u k⟩
 |.text d,_,⟨a,dx,u,e,h,k⟩=>⟨a,dx,u,e,s _ _ h rfl,Th.sn s d u k⟩
 |.form d,_,⟨a,dx,u,e,h,k⟩=>⟨a,dx,u,e,s _ _ h rfl,Th.sn s d u k⟩
 |.list k,_,⟨a,dx,u,e,h,j⟩=>⟨a,dx,u,e,s _ _ h rfl,j.sn s⟩
 |.thing d,v,h=>Th.sn s d v h
theorem Of.sm{H H':Hp}(s:Sm H H'){k:Kx}{v:V}(h:Of H k v):Of H' k v:=h.sn s.sn
def Kx.cls:Kx->AE
 |.truth=>242|.count=>275|.whole=>308|.bare=>200|.upto _=>362|.text _=>415|.form _=>528|.list _=>474|.thing _=>0
def Kx.isK:Kx->Bool
 |.thing _=>false
 |_=>true
theorem Of.ins{H:Hp}:∀{k:Kx} {v:V},k.isK=true->Of H k v->∃a dx fs,v= .ref a/\H a=some (.ins k.cls dx fs)/\∀m:Bc,m≠ "most" ->m≠ "name" ->m≠ "item" ->fs.lookup m=none:=by
 intro k v b h;cases k with
 |thing d=>cases b
 |list k=>obtain⟨a,dx,u,e,h,_⟩:=h;exact⟨a,dx,_,e,h,λm h1 h2 h3=>by simp[Ew,beq_eq_false_iff_ne.mpr h3]⟩
 |upto n=>obtain⟨a,dx,u,e,h,_⟩:=h;exact⟨a,dx,_,e,h,λm h1 h2 h3=>by simp[Ew,beq_eq_false_iff_ne.mpr h1]⟩
 |text n=>obtain⟨a,dx,u,e,h,_⟩:=h;exact⟨a,dx,_,e,h,λm h1 h2 h3=>by simp[Ew,beq_eq_false_iff_ne.mpr h1]⟩
 |form z=>obtain⟨a,dx,u,e,h,_⟩:=h;exact⟨a,dx,_,e,h,λm h1 h2 h3=>by simp[Ew,beq_eq_false_iff_ne.mpr h2]⟩
 |truth=>obtain⟨a,dx,e,h⟩:=h;exact⟨a,dx,_,e,h,λm _ _ _=>rfl⟩
 |count=>obtain⟨a,dx,e,h⟩:=h;exact⟨a,dx,_,e,h,λm _ _ _=>rfl⟩
 |whole=>obtain⟨a,dx,e,h⟩:=h;exact⟨a,dx,_,e,h,λm _ _ _=>rfl⟩
 |bare=>obtain⟨a,dx,e,h⟩:=h;exact⟨a,dx,_,e,h,λm _ _ _=>rfl⟩
def Vm(r:V):Sp:=λvs H Q _=>∃v,vs=[v]/\Q r H
def Yk(H:Hp)(Q:VK)(xs:List V):Prop:=∀l H',H l=none->Be H H'->H' l=some (.lst xs)->Q (.ref l) H'
theorem dj(T:Tx K mg)(d:Dt):BR K (.type (qR d)) (.type "bool")=some (HS d):=by
 cases d <;> first|exact T.Sx|exact T.Zs|exact T.q_int_bool|exact T.q_str_bool|exact T.q_list_bool|exact T.q_dict_bool
theorem uO(T:Tx K mg)(d:Dt):BR K (.type (qR d)) (.type "int")=some (YU d):=by
 cases d <;> first|exact T.Tk|exact T.bI|exact T.q_int_int|exact T.q_str_int|exact T.q_list_int|exact T.q_dict_int
theorem YS(T:Tx K mg)(d:Dt):BR K (.type (qR d)) (.type "str")=some (YT d):=by
 cases d <;> first|exact T.Tj|exact T.q_bool_str|exact T.q_int_str|exact T.fQ|exact T.q_list_str|exact T.q_dict_str
theorem jU(T:Tx K mg)(d:Dt):BR K (.type (qR d)) (.type "list")=some (Qn d):=by
 cases d <;> first|exact T.Sw|exact T.q_bool_list|exact T.q_int_list|exact T.q_str_list|exact T.FM|exact T.q_dict_list
theorem uM(T:Tx K mg)(d:Dt):BR K (.type (qR d)) (.type "tuple")=some false:=by
 cases d <;> first|exact T.QW|exact T.q_bool_tuple|exact T.q_int_tuple|exact T.q_str_tuple|exact T.Pp|exact T.q_dict_tuple
abbrev Zp:Bc:="abcdefghijklmnopqrstuvwxyz"
abbrev MN:Int:=115792089237316195423570985008687907853269984665640564039457584007913129639935
abbrev MW:Int:=57896044618658097711785492504343953926634992332820282019728792003956564819967
def ka(y:Bc)(c:Nat):Bool:=!(EM y ⟨#[c]⟩ 0 y.length 1).isEmpty
def Qh(z y:Bc):Bool:=z.cps.toList.all (ka y)
def uR(y:Bc):V->Bool
 |.str z=>ka y (z.cps.getD 0 0)
 |_=>false
theorem vw{X:Cx}{x y:Bc}{t:Tok}{pos:FX}(hm:X.mg x=some (.str y t))(hg:Gl X x:=by rfl)(hd: (x==("__debug__" :Bc))=false:=by decide):PE X (.Name x pos) (tC (.str y)):=YI hg hm ⟨t,rfl⟩ hd
theorem eU{a b:Type}(l:List a)(f:a->b)(g:b->Bool)(h:a->Bool)(e:∀x∈l,g (f x)=h x): (l.map f).all g=l.all h:=by
 induction l with
 |nil=>rfl
 |cons x l c=>rw[Bf,GK,GK,e x (BQ ..),c λy d=>e y (BG _ d)]
def sQ(f:V->Bool):V->V:=λv=>.bl (f v)
theorem pG(y z:Bc): ((iP z).map (uR y)).all id=Qh z y:=by
 rw[iP,Bi];exact eU _ _ _ _ λc _=>rfl
def Fa(z:Bc):Bool:=(decide (1<=z.length) &&decide (z.length<=12)) &&Qh z Zp
def EH:Dt->Bool
 |.str z=>Fa z
 |_=>false
def Kl(c:Nat):Bool:=(decide ((32:Int)<= (c:Int)) &&decide ((c:Int)<=126)) &&decide (¬ (c:Int)=37)
def ZL:Sp:=λvs H Q _=>∃x d,vs=[x]/\Th H d x/\Q (.bl (YU d&& !HS d)) H
def ZM:Sp:=λvs H Q _=>∃x d a b,vs=[x,.int a,.int b]/\Th H d x/\Q (.bl (QE d a b)) H
def VB:Sp:=λvs H Q _=>∃z y,vs=[.str z,.str y]/\z.length<=1000/\∀H',Be H H'->Q (.bl (Qh z y)) H'
def cf:Sp:=λvs H Q _=>∃x d,vs=[x]/\Th H d x/\∀H',Be H H'->Q (.bl (EH d)) H'
def ce:Sp:=λvs H Q _=>∃c:Nat,vs=[.int c]/\Q (.bl (Kl c)) H
theorem Kb(T:Tx K mg):HL.Et P w K mg base 1 80 ["thing"] ZL:=by
 refine(T.df 0 rfl).ok ZR (λvs H Q E h=>?_) (λcdv A outer s H vs Q E a h=>?_)
 ·obtain⟨x,d,rfl,_⟩:=h;rfl
 ·obtain⟨x,d,rfl,hx,q⟩:=h;refine⟨_,AD (AN (Io (Bl (BC K rfl) rfl T.Bv Br (Ax (pv 0) (Ax (QV T.dP Zi) AA))) (Im (jp (Bl (BC K rfl) rfl T.Bv Br (Ax (pv 0) (Ax (QV T.OW Ma) AA))))))),?_⟩;refine⟨_,rfl,x,.ty "int",_,_,_,rfl,hx.ty,rfl,uO T d,_,rfl,FT (λh=>?_) (λh=>?_)⟩
  ·rw[h,CN]at q;exact⟨_,rfl,x,.ty "bool",_,_,_,rfl,hx.ty,rfl,dj T d,_,rfl,q⟩
  ·have h':YU d=false:=by simpa using h
   rw[h',Cu]at q;exact q
theorem EZ(T:Tx K mg):HL.Et P w K mg base 2 87 Ac ZM:=by
 have a:=@Kb P w K mg base T;refine(T.df 1 rfl).ok ZT (λvs H Q E h=>?_) (λcdv A outer s H vs Q E b h=>?_)
 ·obtain⟨x,d,l,m,rfl,_⟩:=h;rfl
 ·obtain⟨x,d,l,m,rfl,hx,q⟩:=h;refine⟨_,AD (AN (Io (AW a (b.mono Aa) T.ID (Ax (pv 0) AA)) (Im (ak Xg Xg (pv 1) (pv 0) (pv 2))))),?_⟩;refine⟨_,rfl,x,d,rfl,hx,_,rfl,?_⟩;cases d with
  |int i=>
   obtain rfl:x=V.int i:=hx;refine CY ⟨_,rfl,_,rfl,_,_,rfl,rfl,_,rfl,FT (λh1=>?_) (λh1=>?_)⟩
   ·refine⟨_,rfl,_,_,rfl,rfl,?_⟩;rw[show QE (.int i) l m=decide (i<=m)by show(decide (l<=i) &&_)=_;rw[h1,CN]]at q;exact q
   ·have h2:decide (l<=i)=false:=by simpa using h1
    rw[show QE (.int i) l m=false by show(decide (l<=i) &&_)=_;rw[h2,Cu]]at q;exact q
  |_=>exact Ch q
theorem vX: ((["sign"]:List Bc) ++ (["signs"]:List Bc)).Nodup:=by decide+kernel
theorem pX: ((["sign"]:List Bc) ++ ([]:List Bc)).Nodup:=by decide+kernel
theorem OD(T:Tx K mg):HL.Et P w K mg base 1 92 ["text","signs"] VB:=by
 refine(T.df 2 rfl).ok VJ (λvs H Q E h=>?_) (λcdv A outer s H vs Q E d h=>?_)
 ·obtain⟨z,y,rfl,_⟩:=h;rfl
 ·obtain⟨z,y,rfl,hz,q⟩:=h;refine⟨_,AD (AN (Bl (Ff rfl) rfl T.Pn Mb (Ax (CJ (ts:=["sign"]) (xs:=["signs"]) (js:=[1]) rfl ⟨rfl,rfl,Ab,Ab,CZ rfl⟩ (.cons rfl (.inl rfl) rfl .nil) Ab (ji (pv 0)) (λC s_ H_ fp=>Cb (X:=Di _ _ _ C s_ H_ fp) (i:=0) vX rfl (Bn rfl) (Cw rfl)) (λC s_ H_ fp=>CT (X:=Di _ _ _ C s_ H_ fp)) (λC s_ H_ fp=>EY (X:=Di _ _ _ C s_ H_ fp) gD (pv 0) (pv 1) rfl)) AA))),?_⟩;refine⟨_,rfl,z,rfl,Ry (Wk.str z) (by rw[Ta];exact hz) (sQ (uR y)) (λx hx H2 R s2 a=>?_) (λD H2 f s2 b=>?_)⟩
  ·obtain⟨c,hc,rfl⟩:=Bg.mp hx;exact⟨Sub.set rfl,_,rfl,_,rfl,_,_,rfl,rfl,a H2 λ_ _ e=>e⟩
  ·refine⟨D,(iP z).map (uR y),rfl,by rw[Bi];exact b,?_⟩;rw[pG];exact q _ s2
theorem GG(T:Tx K mg):HL.Et P w K mg base 3 99 ["thing"] cf:=by
 have b:=@EZ P w K mg base T;have a:=@OD P w K mg base T;obtain⟨_,f⟩:=(T.ui 0 rfl);obtain⟨_,c⟩:=(T.us 0 rfl);refine(T.df 3 rfl).ok cH (λvs H Q E h=>?_) (λcdv A outer s H vs Q E g h=>?_)
 ·obtain⟨x,d,rfl,_⟩:=h;rfl
 ·obtain⟨x,d,rfl,hx,q⟩:=h;refine⟨_,AV (BH (CK (BI (Bl (BC K rfl) rfl T.Bv Br (Ax (pv 0) (Ax (QV T.KM Iq) AA))))) (AD (AN DA))
    Bd)
   (AD (AN (Io (AW b (g.mono Aa) T.EC (Ax (Bl Jj (by rfl) T.Fy Eg (Ax (pv 0) AA)) (Ax AH (Ax (af f) AA)))) (Im (AW a (g.mono Aa) T.Oq (Ax (pv 0) (Ax (vw c) AA))))))),?_⟩
  refine⟨_,rfl,x,.ty "str",_,_,_,rfl,hx.ty,rfl,YS T d,_,rfl,?_⟩;cases d with
  |str z=>
   obtain⟨rfl,hz⟩:=hx;have i:QE (.int (z.length:Int)) 1 12=(decide (1<=z.length) &&decide (z.length<=12)):=by
    show(decide ((1:Int)<= (z.length:Int)) &&decide ((z.length:Int)<=12))=_;congr 1 <;> exact decide_eq_decide.mpr (by lia)
   refine Ch ⟨_,rfl,z,rfl,AJ hz Aa,_,.int _,_,_,rfl,rfl,_,rfl,FT (λh=>?_) (λh=>?_)⟩
   ·refine⟨_,rfl,z,Zp,rfl,hz,λH' s=>?_⟩;have e:=q H' s;rw[i]at h;rw[show EH (.str z)=Qh z Zp by show(_&&_)=_;rw[h,CN]]at e;exact e
   ·have e:=q H (Be.refl _);rw[i]at h;have h': (decide (1<=z.length) &&decide (z.length<=12))=false:=by simpa using h
    rw[show EH (.str z)=false by show(_&&_)=_;rw[h',Cu]]at e;exact e
  |_=>exact CY (q _ (Be.refl _))
theorem cW(T:Tx K mg):HL.Et P w K mg base 1 141 Ad ce:=by
 obtain⟨k,h1⟩:=(T.ui 6 rfl);obtain⟨j,h2⟩:=(T.ui 7 rfl);obtain⟨i,h3⟩:=(T.ui 8 rfl);refine(T.df 9 rfl).ok cG (λvs H Q E h=>?_) (λcdv A outer s H vs Q E l h=>?_)
 ·obtain⟨c,rfl,_⟩:=h;rfl
 ·obtain⟨c,rfl,q⟩:=h;refine⟨_,AD (AN (Io (ak Xg Xg (af h1) (pv 0) (af h2)) (Im (EY Ih (pv 0) (af h3) (Bw _))))),?_⟩;have d:Kl c=((decide ((32:Int)<= (c:Int)) &&decide ((c:Int)<=126)) &&decide (¬ (c:Int)=37)):=rfl;refine⟨_,rfl,_,_,rfl,rfl,_,rfl,FT (λa=>?_) (λa=>?_)⟩
  ·rw[a,CN]at d;refine⟨_,_,rfl,rfl,_,rfl,FT (λb=>?_) (λb=>?_)⟩
   ·rw[b,CN]at d;refine⟨_,rfl,rfl,?_⟩;rw[d]at q;have e: (!decide (V.int (c:Int)=V.int 37))=decide (¬ (c:Int)=37):=by
     by_cases z: (c:Int)=37
     ·simp[z]
     ·have:¬V.int (c:Int)=V.int 37:=λy=>z (V.int.inj y);simp[z,this]
    rw[<-e]at q;exact q
   ·have f:decide ((c:Int)<=126)=false:=by simpa using b
    rw[f,Cu]at d;rw[d]at q;exact q
  ·have g:decide ((32:Int)<= (c:Int))=false:=by simpa using a
   rw[g,Cu,Cu]at d;rw[d]at q;exact⟨_,rfl,Ch q⟩
theorem FC(T:Tx K mg):HL.Et P w K mg base 1 169 Aq (Vm (.bl true)):=by
 refine(T.mf 1 rfl).ok Rl (λvs H Q E h=>?_) (λcdv A outer s H vs Q E a h=>?_)
 ·obtain⟨v,rfl,_⟩:=h;rfl
 ·obtain⟨v,rfl,q⟩:=h;exact⟨_,AD (AN DA),q⟩
theorem Rs(T:Tx K mg):HL.Et P w K mg base 1 452 Aq (Vm (.bl false)):=by
 refine(T.mf 21 rfl).ok Rk (λvs H Q E h=>?_) (λcdv A outer s H vs Q E a h=>?_)
 ·obtain⟨v,rfl,_⟩:=h;rfl
 ·obtain⟨v,rfl,q⟩:=h;exact⟨_,AD (AN DA),q⟩
theorem Pc(T:Tx K mg):HL.Et P w K mg base 1 511 Aq (Vm (.bl false)):=by
 refine(T.mf 26 rfl).ok OZ (λvs H Q E h=>?_) (λcdv A outer s H vs Q E a h=>?_)
 ·obtain⟨v,rfl,_⟩:=h;rfl
 ·obtain⟨v,rfl,q⟩:=h;exact⟨_,AD (AN DA),q⟩
theorem OE(T:Tx K mg):HL.Et P w K mg base 1 197 Aq (Vm (.non)):=by
 refine(T.mf 2 rfl).ok Wa (λvs H Q E h=>?_) (λcdv A outer s H vs Q E a h=>?_)
 ·obtain⟨v,rfl,_⟩:=h;rfl
 ·obtain⟨v,rfl,q⟩:=h;exact⟨_,AD (AN CO),q⟩
theorem Uq(T:Tx K mg):HL.Et P w K mg base 1 239 Aq (Vm (.bl false)):=by
 refine(T.mf 5 rfl).ok TX (λvs H Q E h=>?_) (λcdv A outer s H vs Q E a h=>?_)
 ·obtain⟨v,rfl,_⟩:=h;rfl
 ·obtain⟨v,rfl,q⟩:=h;exact⟨_,AD (AN DA),q⟩
theorem Us(T:Tx K mg):HL.Et P w K mg base 1 272 Aq (Vm (.int 0)):=by
 refine(T.mf 8 rfl).ok Ua (λvs H Q E h=>?_) (λcdv A outer s H vs Q E a h=>?_)
 ·obtain⟨v,rfl,_⟩:=h;rfl
 ·obtain⟨v,rfl,q⟩:=h;exact⟨_,AD (AN AH),q⟩
theorem Uo(T:Tx K mg):HL.Et P w K mg base 1 305 Aq (Vm (.int 0)):=by
 refine(T.mf 11 rfl).ok TV (λvs H Q E h=>?_) (λcdv A outer s H vs Q E a h=>?_)
 ·obtain⟨v,rfl,_⟩:=h;rfl
 ·obtain⟨v,rfl,q⟩:=h;exact⟨_,AD (AN AH),q⟩
theorem Ww(T:Tx K mg):HL.Et P w K mg base 1 359 Aq (Vm (.int 0)):=by
 refine(T.mf 15 rfl).ok VQ (λvs H Q E h=>?_) (λcdv A outer s H vs Q E a h=>?_)
 ·obtain⟨v,rfl,_⟩:=h;rfl
 ·obtain⟨v,rfl,q⟩:=h;exact⟨_,AD (AN AH),q⟩
theorem Wz(T:Tx K mg):HL.Et P w K mg base 1 412 Aq (Vm (.str "")):=by
 refine(T.mf 18 rfl).ok VU (λvs H Q E h=>?_) (λcdv A outer s H vs Q E a h=>?_)
 ·obtain⟨v,rfl,_⟩:=h;rfl
 ·obtain⟨v,rfl,q⟩:=h;exact⟨_,AD (AN AQ),q⟩
theorem Qd(T:Tx K mg):HL.Et P w K mg base 1 591 Aq (Vm (.bl false)):=by
 refine(T.mf 28 rfl).ok PQ (λvs H Q E h=>?_) (λcdv A outer s H vs Q E a h=>?_)
 ·obtain⟨v,rfl,_⟩:=h;rfl
 ·obtain⟨v,rfl,q⟩:=h;exact⟨_,AD (AN DA),q⟩
theorem Ob(T:Tx K mg):HL.Et P w K mg base 1 643 Aq (Vm (.bl true)):=by
 refine(T.mf 32 rfl).ok NZ (λvs H Q E h=>?_) (λcdv A outer s H vs Q E a h=>?_)
 ·obtain⟨v,rfl,_⟩:=h;rfl
 ·obtain⟨v,rfl,q⟩:=h;exact⟨_,AD (AN DA),q⟩
theorem HF.mono{P:Bq}{w:BU}{K:AF}{mg:Bc->Option AB}{base:Ct}{j k:Nat}{m:Bc}{C:AE}{sp:Sp}(d:HF P w K mg base j m C sp)(h:j<=k):HF P w K mg base k m C sp:=⟨d.c,let ⟨f,fd,ps,a,b,c⟩:=d.ex;⟨f,fd,ps,a,b.mono h,c⟩⟩
def GT:Kx->Dt
 |.truth=>.bl false
 |.text _=>.str ""
 |.list _=>.lst []
 |.form _=>.non
 |.bare=>.non
 |.thing _=>.non
 |_=>.int 0
def LO:Kx->Bool
 |.list _=>false
 |.form _=>false
 |_=>true
def Ez:Kx->Dt->Bool
 |.truth,d=>HS d
 |.count,d=>QE d 0 MN
 |.whole,d=>QE d (-MW - 1) MW
 |.upto (.int n),d=>QE d 0 n
 |.text (.int n),.str z=>!decide ((z.length:Int) >n) &&z.cps.toList.all Kl
 |.list k,.lst l=>!decide ((l.length:Int) >20) &&l.all (Ez k)
 |.form _,_=>true
 |_,_=>false
def Kx.flat:Kx->Bool
 |.list _=>false
 |_=>true
def Kx.fine:Kx->Prop
 |.upto d=>∃n,d= .int n
 |.text d=>∃n,d= .int n
 |.list k=>k.flat=true/\k.fine
 |.bare=>False
 |.thing _=>False
 |_=>True
theorem Kx.fine.isK{k:Kx}(h:k.fine):k.isK=true:=by
 cases k <;> first|rfl|exact h.elim
def Fl(H:Hp)(v:V):Prop:=∀m,v= .ref m->∀xs,H m≠some (.lst xs)
theorem Fl.back{H H':Hp}(s:Be H H'){v:V}(h:Fl H' v):Fl H v:=λm e xs z=>h m e xs (s _ _ z)
def Yq(k:Kx):Sp:=λvs H Q _=>∃v,vs=[v]/\∀u H',Be H H'->Th H' (GT k) u->Fl H u->Q u H'
def Jg(k:Kx):Sp:=λvs H Q _=>∃v x d,vs=[v,x]/\Of H k v/\Th H d x/\∀H',Be H H'->Q (.bl (Ez k d)) H'
def Yp(C:AE)(f:Bc):Sp:=λvs H Q _=>∃x dx v,vs=[.ref x,v]/\H x=some (.ins C dx [])/\Q .non (upd H x (.ins C dx [(f,v)]))
theorem mQ: ((["thing"]:List Bc) ++ (Aq:List Bc)).Nodup:=by decide+kernel
theorem HF.imp{k:Nat}{m:Bc}{C:AE}{sp e:Sp}(d:HF P w K mg base k m C sp)(h:∀vs H Q E,e vs H Q E->sp vs H Q E):HF P w K mg base k m C e:=⟨d.c,let ⟨f,fd,ps,a,b,c⟩:=d.ex;⟨f,fd,ps,a,b.imp h,c⟩⟩
theorem JG{r:V}{k:Kx}(h:∀H:Hp,Th H (GT k) r)(b:∀m,r≠ .ref m:=by intro m z;cases z):∀vs H Q E,Yq k vs H Q E->Vm r vs H Q E:=λvs H Q E a=>(by obtain⟨v,e,q⟩:=a;exact⟨v,e,q r H (Be.refl _) (h H) (λm e=>wo e (b m))⟩)
theorem WC(T:Tx K mg){k:Kx}:HL.Et P w K mg base 1 471 Aq (Yq (.list k)):=by
 refine(T.mf 23 rfl).ok VY (λvs H Q E h=>?_) (λcdv A outer s H vs Q E b h=>?_)
 ·obtain⟨v,rfl,_⟩:=h;rfl
 ·obtain⟨v,rfl,q⟩:=h;exact⟨_,AD (AN (CP AA)),⟨zl 0,λl a=>q (.ref l) _ (By a) ⟨l,[],rfl,AC,rfl,Ci _⟩ (λm e xs z=>by cases e;rw[a]at z;cases z)⟩⟩
theorem kJ(T:Tx K mg){k:Kx}(a:k.isK=true):HF P w K mg base 1 "blank" k.cls (Yq k):=by
 cases k with
 |truth=>exact HF.imp ⟨T.MR,_,_,_,(T.me 4 5 rfl rfl),Uq T,(HL.b1 (T.mf 5 rfl) λ_ _ _ _ _ _ _=>rfl)⟩ (JG λ_=>rfl)
 |count=>exact HF.imp ⟨T.MS,_,_,_,(T.me 9 8 rfl rfl),Us T,(HL.b1 (T.mf 8 rfl) λ_ _ _ _ _ _ _=>rfl)⟩ (JG λ_=>rfl)
 |whole=>exact HF.imp ⟨T.MQ,_,_,_,(T.me 14 11 rfl rfl),Uo T,(HL.b1 (T.mf 11 rfl) λ_ _ _ _ _ _ _=>rfl)⟩ (JG λ_=>rfl)
 |bare=>exact HF.imp ⟨(T.cB 0 rfl),_,_,_,(T.me 0 2 rfl rfl),OE T,T.Py⟩ (JG λ_=>rfl)
 |upto n=>exact HF.imp ⟨T.JY,_,_,_,(T.me 20 15 rfl rfl),Ww T,(HL.b1 (T.mf 15 rfl) λ_ _ _ _ _ _ _=>rfl)⟩ (JG λ_=>rfl)
 |text n=>exact HF.imp ⟨T.Jf,_,_,_,(T.me 25 18 rfl rfl),Wz T,(HL.b1 (T.mf 18 rfl) λ_ _ _ _ _ _ _=>rfl)⟩ (JG λ_=>⟨rfl,Ci _⟩)
 |form z=>exact HF.imp ⟨T.GL,_,_,_,(T.me 35 2 rfl rfl),OE T,T.Py⟩ (JG λ_=>rfl)
 |list k=>exact⟨T.JZ,_,_,_,(T.me 30 23 rfl rfl),WC T,(HL.b1 (T.mf 23 rfl) λ_ _ _ _ _ _ _=>rfl)⟩
 |thing d=>cases a
theorem kI(T:Tx K mg){k:Kx}(a:k.fine):HF P w K mg base 1 "is_plain" k.cls (Vm (.bl (LO k))):=by
 cases k with
 |truth=>exact⟨T.MR,_,_,_,(T.me 2 1 rfl rfl),FC T,T.Ga⟩
 |count=>exact⟨T.MS,_,_,_,(T.me 7 1 rfl rfl),FC T,T.Ga⟩
 |whole=>exact⟨T.MQ,_,_,_,(T.me 12 1 rfl rfl),FC T,T.Ga⟩
 |upto n=>exact⟨T.JY,_,_,_,(T.me 18 1 rfl rfl),FC T,T.Ga⟩
 |text n=>exact⟨T.Jf,_,_,_,(T.me 23 1 rfl rfl),FC T,T.Ga⟩
 |form z=>exact⟨T.GL,_,_,_,(T.me 33 26 rfl rfl),Pc T,(HL.b1 (T.mf 26 rfl) λ_ _ _ _ _ _ _=>rfl)⟩
 |list k=>exact⟨T.JZ,_,_,_,(T.me 28 21 rfl rfl),Rs T,(HL.b1 (T.mf 21 rfl) λ_ _ _ _ _ _ _=>rfl)⟩
 |bare=>exact a.elim
 |thing d=>exact a.elim
theorem Qb(T:Tx K mg):HL.Et P w K mg base 1 324 As (Yp 362 "most"):=by
 refine(T.mf 12 rfl).ok Yz (λvs H Q E h=>?_) (λcdv A outer s H vs Q E a h=>?_)
 ·obtain⟨x,dx,v,rfl,_⟩:=h;rfl
 ·obtain⟨x,dx,v,rfl,hx,q⟩:=h;exact⟨_,AD (Gn (pv 0) (pv 1) rfl),⟨_,rfl,_,rfl,x,_,dx,_,rfl,hx,T.JY,T.JU,Aa,q⟩⟩
theorem Qc(T:Tx K mg):HL.Et P w K mg base 1 431 ["self","item"] (Yp 474 "item"):=by
 refine(T.mf 19 rfl).ok YB (λvs H Q E h=>?_) (λcdv A outer s H vs Q E a h=>?_)
 ·obtain⟨x,dx,v,rfl,_⟩:=h;rfl
 ·obtain⟨x,dx,v,rfl,hx,q⟩:=h;exact⟨_,AD (Gn (pv 0) (pv 1) rfl),⟨_,rfl,_,rfl,x,_,dx,_,rfl,hx,T.JZ,T.JV,Aa,q⟩⟩
theorem Ng(T:Tx K mg):HL.Et P w K mg base 1 490 At (Yp 528 "name"):=by
 refine(T.mf 24 rfl).ok TY (λvs H Q E h=>?_) (λcdv A outer s H vs Q E a h=>?_)
 ·obtain⟨x,dx,v,rfl,_⟩:=h;rfl
 ·obtain⟨x,dx,v,rfl,hx,q⟩:=h;exact⟨_,AD (Gn (pv 0) (pv 1) rfl),⟨_,rfl,_,rfl,x,_,dx,_,rfl,hx,T.GL,T.GX,Aa,q⟩⟩
theorem Ji(T:Tx K mg):He P w K mg base Zr 1 379 (Fe K 379) As (Yp 415 "most"):=by
 obtain⟨oc,od,sl,kV,doc,pm,an,cdv,ct,e,lk,a⟩:=HL.HU T.MM;rw[e];refine aX lk a YA (λvs H Q E h=>?_) (λA outer s H vs Q E b h=>?_)
 ·obtain⟨x,dx,v,rfl,_⟩:=h;rfl
 ·obtain⟨x,dx,v,rfl,hx,q⟩:=h;exact⟨_,XQ.nox (AD (Gn (pv 0) (pv 1) rfl)),⟨_,rfl,_,rfl,x,_,dx,_,rfl,hx,T.Jf,T.IB,Aa,q⟩⟩
theorem QA(T:Tx K mg):Er K (Fe K 379) As []:=by
 obtain⟨oc,od,sl,kV,doc,pm,an,cdv,ct,e,lk,b⟩:=HL.HU T.MM;obtain⟨o,t,n,h1,h2⟩:=HL.eG T.ee T.dZ;rw[e];intro s us X a;rw[CA]at a ⊢;obtain⟨u,v,rfl⟩:=oq a;exact Fi rfl (X _ _ h1) h2 rfl rfl
theorem QB(T:Tx K mg):∃t,Er K (Fe K 379) As [.int 100 t]:=by
 obtain⟨oc,od,sl,kV,doc,pm,an,cdv,ct,e,lk,c⟩:=HL.HU T.MM;obtain⟨o,t,n,h1,h2⟩:=HL.eG T.ee T.dZ;refine⟨t,?_⟩;rw[e];intro s us X b;have a:us.length=1:=by rw[AZ]at b;exact KF b
 obtain⟨u,rfl⟩:=ot a;exact Fi rfl (X _ _ h1) h2 rfl rfl
theorem Up(T:Tx K mg):HL.Et P w K mg base 1 232 Ar (Jg .truth):=by
 refine(T.mf 4 rfl).ok TW (λvs H Q E h=>?_) (λcdv A outer s H vs Q E b h=>?_)
 ·obtain⟨v,x,d,rfl,_⟩:=h;rfl
 ·obtain⟨v,x,d,rfl,a,hx,q⟩:=h;refine⟨_,AD (AN (Bl (BC K rfl) rfl T.Bv Br (Ax (pv 1) (Ax (QV T.OW Ma) AA)))),?_⟩;exact⟨_,rfl,x,.ty "bool",_,_,_,rfl,hx.ty,rfl,dj T d,q H λ_ _ e=>e⟩
theorem Ur(T:Tx K mg):HL.Et P w K mg base 3 265 Ar (Jg .count):=by
 have G:=@EZ P w K mg base T;obtain⟨t,b⟩:=T.On;refine(T.mf 7 rfl).ok TZ (λvs H Q E h=>?_) (λcdv A outer s H vs Q E a h=>?_)
 ·obtain⟨v,x,d,rfl,_⟩:=h;rfl
 ·obtain⟨v,x,d,rfl,c,hx,q⟩:=h;refine⟨_,AD (AN (AW G (a.mono Aa) T.EC (Ax (pv 1) (Ax AH (Ax (af b) AA))))),?_⟩;exact⟨_,rfl,x,d,_,_,rfl,hx,q H λ_ _ e=>e⟩
theorem Um(T:Tx K mg):HL.Et P w K mg base 3 298 Ar (Jg .whole):=by
 have G:=@EZ P w K mg base T;obtain⟨t,a⟩:=(T.ui 3 rfl);refine(T.mf 10 rfl).ok TU (λvs H Q E h=>?_) (λcdv A outer s H vs Q E b h=>?_)
 ·obtain⟨v,x,d,rfl,_⟩:=h;rfl
 ·obtain⟨v,x,d,rfl,c,hx,q⟩:=h;refine⟨_,AD (AN (AW G (b.mono Aa) T.EC (Ax (pv 1) (Ax (Bz cR (PX Lz (af a)) AH) (Ax (af a) AA))))),?_⟩;exact⟨_,rfl,_,rfl,_,_,rfl,rfl,x,d,_,_,rfl,hx,q H λ_ _ e=>e⟩
theorem Wv(T:Tx K mg){n:Int}:HL.Et P w K mg base 3 352 Ar (Jg (.upto (.int n))):=by
 have G:=@EZ P w K mg base T;refine(T.mf 14 rfl).ok VP (λvs H Q E h=>?_) (λcdv A outer s H vs Q E c h=>?_)
 ·obtain⟨v,x,d,rfl,_⟩:=h;rfl
 ·obtain⟨v,x,d,rfl,⟨a,dx,u,rfl,ha,b⟩,hx,q⟩:=h;obtain rfl:u=V.int n:=b;refine⟨_,AD (AN (AW G (c.mono Aa) T.EC (Ax (pv 1) (Ax AH (Ax (BF (pv 0) rfl) AA))))),?_⟩;exact⟨_,rfl,_,rfl,a,_,dx,_,_,rfl,ha,T.JY,T.JU,rfl,x,d,_,_,rfl,hx,q H λ_ _ e=>e⟩
theorem SI(T:Tx K mg){z:Dt}:HL.Et P w K mg base 1 525 Ar (Jg (.form z)):=by
 refine(T.mf 27 rfl).ok SD (λvs H Q E h=>?_) (λcdv A outer s H vs Q E b h=>?_)
 ·obtain⟨v,x,d,rfl,_⟩:=h;rfl
 ·obtain⟨v,x,d,rfl,a,hx,q⟩:=h;exact⟨_,AD (AN DA),q H λ_ _ e=>e⟩
def eE:V->Bool
 |.str z=>Kl (z.cps.getD 0 0)
 |_=>false
theorem gn(z:Bc): ((iP z).map eE).all id=z.cps.toList.all Kl:=by
 rw[iP,Bi];exact eU _ _ _ _ λc _=>rfl
theorem Wy(T:Tx K mg){n:Int}:HL.Et P w K mg base 2 405 Ar (Jg (.text (.int n))):=by
 have G:=@cW P w K mg base T;refine(T.mf 17 rfl).ok VT (λvs H Q E h=>?_) (λcdv A outer s H vs Q E g h=>?_)
 ·obtain⟨v,x,d,rfl,_⟩:=h;rfl
 ·obtain⟨v,x,d,rfl,⟨a,dx,u,rfl,ha,f⟩,hx,q⟩:=h;obtain rfl:u=V.int n:=f;refine⟨_,AV (BH (PW.pt (GA (CK (BI (Bl (BC K rfl) rfl T.Bv Br (Ax (pv 1) (Ax (QV T.KM Iq) AA))))) (FS (Bp Uf (Bl Jj (by rfl) T.Fy Eg (Ax (pv 1) AA)) (BF (pv 0) rfl) (Bw _))))) (AD (AN DA)) Bd) (AD (AN (Bl (Ff rfl) rfl T.Pn Mb (Ax (CJ (ts:=["sign"]) (xs:=[]) (js:=[]) rfl ⟨rfl,rfl,Ab,Ab,CZ rfl⟩ .nil Ab (ji (pv 1)) (λC s_ H_ fp=>Cb (X:=Di _ _ _ C s_ H_ fp) (i:=0) pX rfl (Bn rfl) (Cw rfl)) (λC s_ H_ fp=>CT (X:=Di _ _ _ C s_ H_ fp)) (λC s_ H_ fp=>AW (X:=Di _ _ _ C s_ H_ fp) G (g.mono Aa) (T.d1 9 rfl λ_ _ _ _ _ _ _=>rfl) (Ax (Bl kM rfl (T.y 7 rfl) qI (Ax (pv 0) AA)) AA))) AA)))),?_⟩;refine⟨_,rfl,x,.ty "str",_,_,_,rfl,hx.ty,rfl,YS T d,_,rfl,?_⟩;cases d with
  |str z=>
   obtain⟨rfl,hz⟩:=hx;refine Ch ⟨_,rfl,z,rfl,AJ hz Aa,_,rfl,a,_,dx,_,_,rfl,ha,T.Jf,T.IB,rfl,_,_,rfl,rfl,_,rfl,FT (λh=>?_) (λh=>?_)⟩
   ·have e:Ez (.text (.int n)) (.str z)=false:=by
     rw[Ez];rw[h];rfl
    rw[e]at q;exact q H λ_ _ e=>e
   ·have h':decide ((z.length:Int) >n)=false:=by simpa using h
    have e:Ez (.text (.int n)) (.str z)=((iP z).map eE).all id:=by
     rw[Ez];rw[h',gn];rfl
    rw[e]at q;refine⟨_,rfl,z,rfl,Ry (Wk.str z) (by rw[Ta];exact hz) (sQ eE) (λy b H2 R s2 j=>?_) (λD H2 l s2 k=>?_)⟩
    ·obtain⟨c,hc,rfl⟩:=Bg.mp b;exact⟨Sub.set rfl,_,rfl,_,rfl,rfl,c,rfl,j H2 λ_ _ e=>e⟩
    ·refine⟨D,(iP z).map eE,rfl,?_,q _ s2⟩;rw[Bi];exact k
  |_=>
   have e:∀d,YT d=false->Ez (.text (.int n)) d=false:=λd hd=>by cases d <;> first|rfl|cases hd
   rw[e _ rfl]at q;exact CY (q H λ_ _ e=>e)
theorem fJ(T:Tx K mg){k:Kx}(hf:k.flat=true)(a:k.fine):HF P w K mg base 3 "suits" k.cls (Jg k):=by
 cases k with
 |truth=>exact HF.mono ⟨T.MR,_,_,_,(T.me 3 4 rfl rfl),Up T,(HL.b2 (T.mf 4 rfl) λ_ _ _ _ _ _ _ _=>rfl)⟩ Aa
 |count=>exact⟨T.MS,_,_,_,(T.me 8 7 rfl rfl),Ur T,(HL.b2 (T.mf 7 rfl) λ_ _ _ _ _ _ _ _=>rfl)⟩
 |whole=>exact⟨T.MQ,_,_,_,(T.me 13 10 rfl rfl),Um T,(HL.b2 (T.mf 10 rfl) λ_ _ _ _ _ _ _ _=>rfl)⟩
 |upto n=>obtain⟨n,rfl⟩:=a;exact⟨T.JY,_,_,_,(T.me 19 14 rfl rfl),Wv T,(HL.b2 (T.mf 14 rfl) λ_ _ _ _ _ _ _ _=>rfl)⟩
 |text n=>obtain⟨n,rfl⟩:=a;exact HF.mono ⟨T.Jf,_,_,_,(T.me 24 17 rfl rfl),Wy T,(HL.b2 (T.mf 17 rfl) λ_ _ _ _ _ _ _ _=>rfl)⟩ Aa
 |form z=>exact HF.mono ⟨T.GL,_,_,_,(T.me 34 27 rfl rfl),SI T,(HL.b2 (T.mf 27 rfl) λ_ _ _ _ _ _ _ _=>rfl)⟩ Aa
 |list k=>cases hf
 |bare=>exact a.elim
 |thing d=>exact a.elim
theorem Jn{a:Type}(l:List a)(p:a->Bool)(f:Nat->Bool)(h:∀i d,l[i]?=some d->f i=p d): ((Bm l.length).map f).all id=l.all p:=by
 have e: (Bm l.length).map f=l.map p:=by
  apply Vj;intro i;rw[AT,AT];by_cases hi:i<l.length
  ·rw[HI hi,Az hi];exact wn some (h i _ (Az hi))
  ·rw[Cz (by rw[BB];lia),Cz (by lia)];rfl
 rw[e,List.all_map];rfl
theorem WB(T:Tx K mg){k:Kx}(hf:k.flat=true)(n:k.fine):HL.Et P w K mg base 4 464 Ar (Jg (.list k)):=by
 obtain⟨t,J⟩:=(T.ui 5 rfl);refine(T.mf 22 rfl).ok VX (λvs H Q E h=>?_) (λcdv A outer s H vs Q E F h=>?_)
 ·obtain⟨v,x,d,rfl,_⟩:=h;rfl
 ·obtain⟨v,x,d,rfl,⟨a,dx,u,rfl,ha,z⟩,hx,q⟩:=h;refine⟨_,AV (BH (PW.pt (GA (CK (BI (Bl (BC K rfl) rfl T.Bv Br (Ax (pv 1) (Ax (QV T.Ho FU) AA))))) (FS (Bp Uf (Bl Cs (by rfl) T.Fy Eg (Ax (pv 1) AA)) (af J) (Bw _))))) (AD (AN DA)) Bd) (AD (AN (Bl (Ff rfl) rfl T.Pn Mb (Ax (CJ (ts:=["thing"]) (xs:=Aq) (js:=[0]) rfl ⟨rfl,rfl,Ab,Ab,CZ rfl⟩ (.cons rfl (.inl rfl) rfl .nil) Ab (CU (pv 1)) (λC s_ H_ fp=>Cb (X:=Di _ _ _ C s_ H_ fp) (i:=0) mQ rfl (Bn rfl) (Cw rfl)) (λC s_ H_ fp=>CT (X:=Di _ _ _ C s_ H_ fp)) (λC s_ H_ fp=>JB (X:=Di _ _ _ C s_ H_ fp) (P:=P) (w:=w) (K:=K) (mg:=mg) (base:=base) (k:=3) rfl rfl rfl rfl rfl (LQ (X:=Di _ _ _ C s_ H_ fp) K rfl (pv 1) rfl) (F.mono Aa) CL (Ax (pv 0) AA))) AA)))),?_⟩;refine⟨_,rfl,x,.ty "list",_,_,_,rfl,hx.ty,rfl,jU T d,_,rfl,?_⟩;cases d with
  |lst l=>
   obtain⟨p,xs,rfl,hp,f,G⟩:=hx;have c:=f.len;refine Ch ⟨_,rfl,p,_,rfl,.inl (Cj.of hp),_,_,rfl,rfl,_,rfl,?_⟩;rw[c];refine FT (λh=>?_) (λh=>?_)
   ·have e:Ez (.list k) (.lst l)=false:=by
     rw[Ez];rw[h];rfl
    rw[e]at q;exact q H λ_ _ e=>e
   ·have h':decide ((l.length:Int) >20)=false:=by simpa using h
    have e:Ez (.list k) (.lst l)=l.all (Ez k):=by
     rw[Ez];rw[h'];rfl
    rw[e]at q;refine⟨_,rfl,p,rfl,⟨_,Cj.of hp⟩,Dc (Wk.list (Cj.of hp)) (by rw[c];exact G) (λj=>.bl (match l[j]? with|some d=>Ez k d|none=>false)) (λj y r H2 R s2 I=>?_) (λD H2 O s2 L=>?_)⟩
    ·obtain⟨d,hd,B⟩:=f.at j y r;have g:=z.sm (Sm.of s2);obtain⟨b,M,fs,rfl,hb,m⟩:=g.ins n.isK;refine⟨Sub.set rfl,_,rfl,a,_,dx,_,_,rfl,s2 _ _ ha,T.JZ,T.JV,rfl,b,_,M,fs,_,rfl,hb,m _ Aa Aa Aa,fJ T hf n,_,rfl,_,y,d,rfl,g,Th.sm (Sm.of s2) d y B,λN o=>?_⟩;have:=I N o;rw[hd]at this;exact this
    ·refine⟨D,(Bm xs.length).map λj=>(match l[j]? with|some d=>Ez k d|none=>false),rfl,?_,?_⟩
     ·rw[Bi];exact L
     ·rw[c,Jn l (Ez k) _ (λi d hd=>by rw[hd])];exact q _ s2
  |_=>
   have e:∀d,Qn d=false->Ez (.list k) d=false:=λd hd=>by cases d <;> first|rfl|cases hd
   rw[e _ rfl]at q;exact CY (q H λ_ _ e=>e)
theorem kH(T:Tx K mg){k:Kx}(a:k.fine):HF P w K mg base 4 "suits" k.cls (Jg k):=by
 by_cases hf:k.flat=true
 ·exact HF.mono (fJ T hf a) Aa
 ·cases k with
  |list k=>exact⟨T.JZ,_,_,_,(T.me 29 22 rfl rfl),WB T a.1 a.2,(HL.b2 (T.mf 22 rfl) λ_ _ _ _ _ _ _ _=>rfl)⟩
  |_=>exact wo rfl hf
def Kx.isOf:Kx->Nat->Bool
 |.truth,n=>n==0||n==1
 |.count,n=>n==0||n==2
 |.whole,n=>n==0||n==3
 |.bare,n=>n==0
 |.upto _,n=>n==0||n==4
 |.text _,n=>n==0||n==5
 |.form _,n=>n==0||n==7
 |.list _,n=>n==0||n==6
 |.thing _,_=>false
def Kx.may:Kx->Prop
 |.thing d=>d= .non\/∃z,d= .str z
 |.list k=>k.may
 |_=>True
noncomputable def wc:List AE:=[200,242,275,308,362,415,474,528]
theorem aP(T:Tx K mg){H:Hp}{k:Kx}{v:V}(hm:k.may)(h:Of H k v):∃t,Jl K H v t/\BR K t (.ref 200)=some (k.isOf 0)/\BR K t (.ref 242)=some (k.isOf 1)/\BR K t (.ref 275)=some (k.isOf 2)/\BR K t (.ref 308)=some (k.isOf 3)/\BR K t (.ref 362)=some (k.isOf 4)/\BR K t (.ref 415)=some (k.isOf 5)/\BR K t (.ref 474)=some (k.isOf 6)/\BR K t (.ref 528)=some (k.isOf 7):=by
 cases k with
 |truth=>obtain⟨a,dx,rfl,ha⟩:=h;exact⟨_,(T.hZ 1 rfl) ha,(T.q 8 rfl),(T.q 9 rfl),(T.q 10 rfl),(T.q 11 rfl),(T.q 12 rfl),(T.q 13 rfl),(T.q 14 rfl),(T.q 15 rfl)⟩
 |count=>obtain⟨a,dx,rfl,ha⟩:=h;exact⟨_,(T.hZ 2 rfl) ha,(T.q 16 rfl),(T.q 17 rfl),(T.q 18 rfl),(T.q 19 rfl),(T.q 20 rfl),(T.q 21 rfl),(T.q 22 rfl),(T.q 23 rfl)⟩
 |whole=>obtain⟨a,dx,rfl,ha⟩:=h;exact⟨_,(T.hZ 3 rfl) ha,(T.q 24 rfl),(T.q 25 rfl),(T.q 26 rfl),(T.q 27 rfl),(T.q 28 rfl),(T.q 29 rfl),(T.q 30 rfl),(T.q 31 rfl)⟩
 |bare=>obtain⟨a,dx,rfl,ha⟩:=h;exact⟨_,(T.hZ 0 rfl) ha,(T.q 0 rfl),(T.q 1 rfl),(T.q 2 rfl),(T.q 3 rfl),(T.q 4 rfl),(T.q 5 rfl),(T.q 6 rfl),(T.q 7 rfl)⟩
 |upto d=>obtain⟨a,dx,u,rfl,ha,_⟩:=h;exact⟨_,(T.hZ 4 rfl) ha,(T.q 32 rfl),(T.q 33 rfl),(T.q 34 rfl),(T.q 35 rfl),(T.q 36 rfl),(T.q 37 rfl),(T.q 38 rfl),(T.q 39 rfl)⟩
 |text d=>obtain⟨a,dx,u,rfl,ha,_⟩:=h;exact⟨_,(T.hZ 5 rfl) ha,(T.q 40 rfl),(T.q 41 rfl),(T.q 42 rfl),(T.q 43 rfl),(T.q 44 rfl),(T.q 45 rfl),(T.q 46 rfl),(T.q 47 rfl)⟩
 |form d=>obtain⟨a,dx,u,rfl,ha,_⟩:=h;exact⟨_,(T.hZ 7 rfl) ha,(T.q 56 rfl),(T.q 57 rfl),(T.q 58 rfl),(T.q 59 rfl),(T.q 60 rfl),(T.q 61 rfl),(T.q 62 rfl),(T.q 63 rfl)⟩
 |list d=>obtain⟨a,dx,u,rfl,ha,_⟩:=h;exact⟨_,(T.hZ 6 rfl) ha,(T.q 48 rfl),(T.q 49 rfl),(T.q 50 rfl),(T.q 51 rfl),(T.q 52 rfl),(T.q 53 rfl),(T.q 54 rfl),(T.q 55 rfl)⟩
 |thing d=>
  rcases hm with rfl|⟨z,rfl⟩
  ·exact⟨_,Th.ty h,(T.qt 0 rfl),(T.qt 1 rfl),(T.qt 2 rfl),(T.qt 3 rfl),(T.qt 4 rfl),(T.qt 5 rfl),(T.qt 6 rfl),(T.qt 7 rfl)⟩
  ·exact⟨_,Th.ty h,(T.qt 9 rfl),(T.qt 10 rfl),(T.qt 11 rfl),(T.qt 12 rfl),(T.qt 13 rfl),(T.qt 14 rfl),(T.qt 15 rfl),(T.qt 16 rfl)⟩
theorem sB(k:Kx):k.isOf 0=k.isK:=by cases k <;> rfl
def cQ(k:Kx):Dt->Dt
 |.non=>GT k
 |d=>d
def TB:Sp:=λvs H Q _=>∃a b k d,vs=[a,b]/\Kx.may k/\Of H k a/\Th H d b/\∀u H',Be H H'->Th H' (cQ k d) u->Fl H u->Q u H'
theorem rf{H:Hp}{d:Dt}{v:V}(h:Th H d v)(c:Qn d=false):Fl H v:=λm e xs z=>by
 subst e;cases d with
 |non=>cases h
 |bl b=>cases h
 |int i=>cases h
 |str z=>cases h.1
 |lst l=>cases c
 |dct=>obtain⟨a,e,h⟩:=h;cases e;rw[h]at z;cases z
theorem Uj(T:Tx K mg):HL.Et P w K mg base 2 537 Ae TB:=by
 refine(T.df 10 rfl).ok TM (λvs H Q E h=>?_) (λcdv A outer s H vs Q E v h=>?_)
 ·obtain⟨j,g,k,d,rfl,_⟩:=h;rfl
 ·obtain⟨j,g,k,d,rfl,hm,o,hd,q⟩:=h;refine⟨_,AV (BH (PW.pt (Gm (Bp Kq (pv 1) CO (Bw _)) (Fv (BI (Bl (BC K rfl) rfl T.Bv Br (Ax (pv 0) (Ax (YK (T.mc 0 rfl)) AA))))))) (AD (AN (DS (P:=P) (w:=w) (K:=K) (mg:=mg) (base:=base) (k:=1) rfl rfl rfl rfl rfl (pv 0) (v.mono Aa) CL))) Bd) (AV (BH (BI (Bl (BC K rfl) rfl T.Bv Br (Ax (pv 1) (Ax (QV T.Ho FU) AA)))) (AD (AN (Ee HX rfl T.Ho FU (Ax (pv 1) AA)))) Bd) (AD (AN (pv 1)))),?_⟩;obtain⟨t,ty,n,_⟩:=aP T hm o;rw[sB]at n;refine⟨_,rfl,rfl,_,rfl,?_⟩;by_cases hn:g= .non
  ·obtain rfl:d= .non:=by
    cases d with
    |non=>rfl
    |bl b=>rw[hn]at hd;cases hd
    |int i=>rw[hn]at hd;cases hd
    |str z=>rw[hn]at hd;cases hd.1
    |lst l=>obtain⟨a,xs,e,_⟩:=hd;rw[hn]at e;cases e
    |dct=>obtain⟨a,e,_⟩:=hd;rw[hn]at e;cases e
   subst hn;refine HR rfl ⟨_,rfl,j,.ref 200,_,_,_,rfl,ty,rfl,n,_,rfl,?_⟩;cases f:k.isK with
   |true=>
    obtain⟨a,dx,fs,rfl,ha,hf⟩:=o.ins f;refine CY ⟨_,rfl,a,_,dx,fs,_,rfl,ha,hf _ Aa Aa Aa,kJ T f,_,rfl,λu H' s' r hf=>?_⟩;exact q u H' s' r hf
   |false=>
    refine Ch ⟨_,rfl,.non,.ty "list",_,_,_,rfl,(show Th H .non .non from rfl).ty,rfl,jU T .non,_,rfl,Ch ⟨_,rfl,q .non H (Be.refl _) ?_ (λm e=>by cases e)⟩⟩;cases k with
    |thing d=>exact rfl
    |_=>cases f
  ·have c:cQ k d=d:=by
    cases d with
    |non=>exact wo hd hn
    |_=>rfl
   rw[c]at q;refine Dk hn ⟨_,rfl,g,.ty "list",_,_,_,rfl,hd.ty,rfl,jU T d,_,rfl,?_⟩;cases d with
   |lst l=>
    obtain⟨a,xs,rfl,ha,hx,x⟩:=hd;refine CY ⟨_,rfl,a,xs,rfl,.inl (Cj.of ha),λp hp=>q (.ref p) _ (By hp) ⟨p,xs,rfl,AC,Zq.sm (Sm.of (By hp)) _ _ hx,x⟩ (λm e xs z=>by cases e;rw[hp]at z;cases z)⟩
   |_=>exact Ch ⟨_,rfl,q _ H (Be.refl _) hd (rf hd rfl)⟩
structure Fx where
 num:Dt
 nam:Dt
 kind:Kx
 must:Dt
 dfl:Dt
def Ms(H:Hp)(f:Fx)(v:V):Prop:=∃a dx n z k m d,v= .ref a/\H a=some (.ins 555 dx [("number",n),("name",z),("kind",k),("must",m),("default",d)])/\Th H f.num n/\Th H f.nam z/\Of H f.kind k/\Th H f.must m/\Th H f.dfl d
theorem Ms.sf{H H':Hp}(s:Sf H H'){f:Fx}{v:V}:Ms H f v->Ms H' f v:=λb=>by
 obtain⟨a,dx,n,z,k,m,d,e,h,h1,h2,h3,g,c⟩:=b;exact⟨a,dx,n,z,k,m,d,e,s _ _ h rfl,Th.sn s.sn _ _ h1,Th.sn s.sn _ _ h2,h3.sn s.sn,Th.sn s.sn _ _ g,Th.sn s.sn _ _ c⟩
inductive Ex where
 |fld (f:Fx)
 |thing (d:Dt)
def Ex.may:Ex->Prop
 |.fld f=>f.kind.may
 |.thing d=>d= .non\/∃z,d= .str z
def XR(H:Hp):Ex->V->Prop
 |.fld f,v=>Ms H f v
 |.thing d,v=>Th H d v
theorem XR.sf{H H':Hp}(s:Sf H H'):∀{e:Ex} {v:V},XR H e v->XR H' e v
 |.fld _,_,h=>Ms.sf s h
 |.thing d,v,h=>Th.sn s.sn d v h
theorem XR.sm{H H':Hp}(s:Sm H H'){e:Ex}{v:V}(h:XR H e v):XR H' e v:=XR.sf s.sf h
abbrev Es(H:Hp):List Ex->List V->Prop:=Paired (XR H)
theorem Es.sf{H H':Hp}(s:Sf H H'){es:List Ex}{xs:List V}(h:Es H es xs):Es H' es xs:=Paired.mapP h λ_ _ z=>XR.sf s z
theorem Es.sm{H H':Hp}(s:Sm H H'){es:List Ex}{xs:List V}(h:Es H es xs):Es H' es xs:=Es.sf s.sf h
def tP(x:AE)(H H':Hp):Prop:=∀b o,b≠x->H b=some o->H' b=some o
def PL:Sp:=λvs H Q _=>∃x dx n z a m b k d,vs=[.ref x,n,z,a,m,b]/\H x=some (.ins 555 dx [])/\Kx.may k/\Of H k a/\Th H d b/\∀u H',tP x H H'->H' x=some (.ins 555 dx [("number",n),("name",z),("kind",a),("must",m),("default",u)])->Th H' (cQ k d) u->Fl H u->Q .non H'
theorem Fo(T:Tx K mg):He P w K mg base Zr 3 552 (Fe K 552) Au PL:=by
 have G:=@Uj P w K mg base T;obtain⟨oc,od,sl,kV,doc,pm,an,cdv,ct,e,lk,c⟩:=HL.HU T.Jd;rw[e];refine aX lk c Wb (λvs H Q E h=>?_) (λA outer s H vs Q E j h=>?_)
 ·obtain⟨x,dx,n,z,a,m,g,k,d,rfl,_⟩:=h;rfl
 ·obtain⟨x,dx,n,z,a,m,g,k,d,rfl,hx,hm,l,hd,q⟩:=h;refine⟨_,XQ.nox (AV (Gn (pv 0) (pv 1) rfl) (AV (Gn (pv 0) (pv 2) rfl) (AV (Gn (pv 0) (pv 3) rfl) (AV (Gn (pv 0) (pv 4) rfl) (AD (Gn (pv 0) (AW G (j.mono Aa) (T.d2 10 rfl λ_ _ _ _ _ _ _ _=>rfl) (Ax (pv 3) (Ax (pv 5) AA))) rfl)))))),?_⟩;refine⟨_,rfl,_,rfl,x,_,dx,_,rfl,hx,T.Ce,T.DM,Aa,?_⟩;have s1:Sn H (upd H x (.ins 555 dx [("number",n)])):=Sn.upd hx rfl;refine⟨_,rfl,_,rfl,x,_,dx,_,rfl,AC,T.Ce,T.EU,by show 1<1000;decide,?_⟩;rw[Iv];refine⟨_,rfl,_,rfl,x,_,dx,_,rfl,AC,T.Ce,T.DN,by show 2<1000;decide,?_⟩;rw[Iv];refine⟨_,rfl,_,rfl,x,_,dx,_,rfl,AC,T.Ce,T.EV,by show 3<1000;decide,?_⟩;rw[Iv];have s4:Sn H (upd H x (.ins 555 dx [("number",n),("name",z),("kind",a),("must",m)])):=Sn.upd hx rfl;refine⟨_,rfl,_,rfl,a,g,k,d,rfl,hm,l.sn s4,Th.sn s4 _ _ hd,λu H' s' i hf=>?_⟩;refine⟨_,rfl,x,_,dx,_,rfl,s' _ _ AC,T.Ce,T.DU,by show 4<1000;decide,?_⟩;refine q u _ (λb o f p=>?_) AC (Th.sn (Sn.upd (s' _ _ AC) rfl) _ _ i) (λm e xs z=>hf m e xs (by rw[Bb (λy=>by rw[y,hx]at z;cases z)];exact z));rw[Bb f];refine s' _ _ ?_;rw[Bb f];exact p
theorem Kw(T:Tx K mg):Er K (Fe K 552) Au []:=by
 obtain⟨oc,od,sl,kV,doc,pm,an,cdv,ct,e,lk,g⟩:=HL.HU T.Jd;obtain⟨o,n,h1,h2⟩:=HL.iS T.Tq;rw[e];intro s us X f;rw[CA]at f ⊢;obtain⟨u,v,a,b,c,d,rfl⟩:=oj f;exact Fi rfl (X _ _ h1) h2 rfl rfl
theorem OM(T:Tx K mg):Er K (Fe K 552) Au [.none]:=by
 obtain⟨oc,od,sl,kV,doc,pm,an,cdv,ct,e,lk,g⟩:=HL.HU T.Jd;obtain⟨o,n,h1,h2⟩:=HL.iS T.Tq;rw[e];intro s us X f;have d:us.length=5:=by rw[AZ]at f;exact KF f
 obtain⟨u,v,a,b,c,rfl⟩:=qX d;exact Fi rfl (X _ _ h1) h2 rfl rfl
theorem ON(T:Tx K mg):Er K (Fe K 552) Au [.bool false,.none]:=by
 obtain⟨oc,od,sl,kV,doc,pm,an,cdv,ct,e,lk,f⟩:=HL.HU T.Jd;obtain⟨o,n,h1,h2⟩:=HL.iS T.Tq;rw[e];intro s us X d;have c:us.length=4:=by rw[AZ]at d;exact KF (KF d)
 obtain⟨u,v,a,b,rfl⟩:=om c;exact Fi rfl (X _ _ h1) h2 rfl rfl
def QH(H0 H:Hp)(f:Fx)(v:V):Prop:=∃a dx n z k m d,v= .ref a/\H a=some (.ins 555 dx [("number",n),("name",z),("kind",k),("must",m),("default",d)])/\Th H f.num n/\Th H f.nam z/\Of H f.kind k/\Th H f.must m/\Th H f.dfl d/\Fl H0 d
theorem QH.isF{H0 H:Hp}{f:Fx}{v:V}:QH H0 H f v->Ms H f v:=λb=>by
 obtain⟨a,dx,n,z,k,m,d,e,h,h1,h2,h3,g,c,_⟩:=b;exact⟨a,dx,n,z,k,m,d,e,h,h1,h2,h3,g,c⟩
theorem QH.back{H0 H1 H:Hp}(s:Be H0 H1){f:Fx}{v:V}:QH H1 H f v->QH H0 H f v:=λb=>by
 obtain⟨a,dx,n,z,k,m,d,e,h,h1,h2,h3,i,g,c⟩:=b;exact⟨a,dx,n,z,k,m,d,e,h,h1,h2,h3,i,g,c.back s⟩
theorem LU{H:Hp}{Q:VK}{x dx:AE}{n z c m i:V}{f:Fx}{d:Dt}(hx:H x=none)(g:H dx=none)(hne:dx≠x)(hm:f.kind.may)(h1:Th H f.num n)(h2:Th H f.nam z)(h3:Of H f.kind c)(l:Th H f.must m)(k:Th H d i)(p:f.dfl=cQ f.kind d)(q:∀v H',Be H H'->QH H H' f v->Q v H'):PL (.ref x::[n,z,c,m,i]) (upd (upd H dx (.own x)) x (.ins 555 dx [])) (λv H2=>v= .non/\Q (.ref x) H2) E0:=by
 have b:Be H (upd (upd H dx (.own x)) x (.ins 555 dx [])):=by
  refine(By g).trans (By ?_);rw[Bb (CI hne)];exact hx
 refine⟨x,dx,n,z,c,m,i,f.kind,d,rfl,AC,hm,h3.sm (Sm.of b),Th.sm (Sm.of b) _ _ k,λu H' r e j hf=>⟨rfl,?_⟩⟩;have s1:Be H H':=λa o h=>r a o (λz=>by rw[z,hx]at h;cases h) (b a o h);refine q _ _ s1 ⟨x,dx,n,z,c,m,u,rfl,e,Th.sm (Sm.of s1) _ _ h1,Th.sm (Sm.of s1) _ _ h2,h3.sm (Sm.of s1),Th.sm (Sm.of s1) _ _ l,?_,hf.back b⟩;rw[p];exact j
theorem Hz{c b:Type}{R:c->b->Prop}:∀{l:List c} {m:List b},Paired R l m->∀(i:Nat) y,m[i]?=some y->∃x,l[i]?=some x/\R x y
 |_,_,.nil,i,y,e=>by simp at e
 |_,_,.cons a r,0,y,e=>by simp at e;exact⟨_,rfl,e ▸ a⟩
 |_,_,.cons a r,i+1,y,e=>by simp at e;obtain⟨x,h1,h2⟩:=Hz r i y e;exact⟨x,by simpa using h1,h2⟩
theorem Sm.lam{H H':Hp}(h:Lm H)(s:QF Vu H H'):Sm H H':=λa o e n=>s a o (h.ne e λps z=>by rw[z]at n;cases n) e
theorem Lm.same{H H':Hp}(h:Lm H)(s:Be H H'):Lm H':=by
 rcases h with h|⟨c,h1,h2⟩
 ·exact .inl (s _ _ h)
 ·exact .inr ⟨c,s _ _ h1,s _ _ h2⟩
def bK(d:Dt):Bool:=YU d&& !HS d
def Re:Ex->Bool
 |.fld f=>bK f.num
 |.thing _=>false
theorem fT{d:Dt}(h:bK d=true):∃i,d= .int i:=by
 cases d with
 |int i=>exact⟨i,rfl⟩
 |_=>cases h
def lx:Ex->Int
 |.fld f=>(match f.num with|.int i=>i|_=>0)
 |.thing _=>0
theorem NO: ((Ah:List Bc) ++ ([]:List Bc)).Nodup:=by decide+kernel
def XN(H:Hp)(l:AE)(xs:List V):Prop:=H l=some (.lst xs)\/H l=some (.tup xs)
theorem XN.same{H H':Hp}{l:AE}{xs:List V}(s:Be H H'):XN H l xs->XN H' l xs
 |.inl h=>.inl (s _ _ h)
 |.inr h=>.inr (s _ _ h)
theorem XN.sq{K:AF}{H:Hp}{l:AE}{xs:List V}:XN H l xs->Cj K H l xs\/DW K H l xs
 |.inl h=>.inl (Cj.of h)
 |.inr h=>.inr (DW.of h)
theorem Wk.tup{K:AF}{H1:Hp}{l:AE}{xs:List V}(h:DW K H1 l xs):Wk (vo K l) H1 xs where
 go:=λH i s hi=>⟨_,xs[i],s.seqT h,Az hi⟩
 stop:=λH i s hi=>⟨_,s.seqT h,by lia⟩
 yld:=λH i x H' s hi y=>⟨y.1,y.2 _ (s.seqT h)⟩
theorem XN.it{K:AF}{te:TE}{σ:L2.St}{H:Hp}{R:It->Hp->Prop}{l:AE}{xs:List V}(h:XN H l xs)(a:∀Q:VK,Q (.ref l) H->te σ H Q)(b:∀J,Wk J H xs->R J H):oP K te σ H R\/sE K te σ H R:=by
 rcases h with h|h
 ·exact .inl (a _ ⟨l,rfl,⟨_,Cj.of h⟩,b _ (Wk.list (Cj.of h))⟩)
 ·exact .inr (a _ ⟨l,rfl,⟨_,DW.of h⟩,b _ (Wk.tup (DW.of h))⟩)
theorem XN.srt{K:AF}{T:AE}{b:FX}{q fld:Bc}{te:TE}{σ:L2.St}{H:Hp}{Q:VK}{l:AE}{xs:List V}(h:XN H l xs)(d:∀Q:VK,Q (.ref l) H->te σ H Q)(e:HZ H T b q)(f:∃ks,xs.length<64/\ks.length=xs.length/\(∀(i:Nat) (v:V) (k:Int),xs[i]?=some v->ks[i]?=some k->∃a C dx fs,v= .ref a/\H a=some (.ins C dx fs)/\NV K C/\Go K C fld/\fs.lookup fld=some (.int k))/\∀D ys c,H D=none->QF T H c->HZ c T b q->c D=some (.lst ys)->Mc ks xs ys->Q (.ref D) c):io K T b q fld te σ H Q\/im K T b q fld te σ H Q:=by
 obtain⟨ks,r⟩:=f;rcases h with h|h
 ·exact .inl (d _ ⟨e,l,xs,ks,rfl,h,r⟩)
 ·exact .inr (d _ ⟨e,l,xs,ks,rfl,h,r⟩)
def qK(es a:List Ex):Prop:=(∀e∈es,Re e=true)->(a.map lx).Pairwise (·<= ·)
theorem kw{H:Hp}:∀{es:List Ex} {xs:List V},Es H es xs->Paired (λ(e:Ex) (q:Int×V)=>XR H e q.2/\lx e=q.1) es ((es.map lx).zip xs)
 |_,_,.nil=>.nil
 |_,_,.cons a r=>.cons ⟨a,rfl⟩ (kw r)
theorem UK{H:Hp}:∀{es:List Ex} {qs:List (Int×V)},Paired (λ(e:Ex) (q:Int×V)=>XR H e q.2/\lx e=q.1) es qs->Es H es (qs.map JJ)/\es.map lx=qs.map QO
 |_,_,.nil=>⟨.nil,rfl⟩
 |_,_,.cons a r=>⟨.cons a.1 (UK r).1,by rw[Bf,Bf,a.2,(UK r).2]⟩
def Vz:Sp:=λvs H Q _=>∃v,vs=[v]/\((∃d,Th H d v/\Qn d=false/\∀H',Be H H'->Q .non H')\/(∃l xs es,v= .ref l/\XN H l xs/\Es H es xs/\(∀e∈es,Ex.may e)/\xs.length<64/\Lm H/\∀D ys a H',Sm H H'->Lm H'->H' D=some (.lst ys)->Es H' a ys->a.Perm es->qK es a->Q (.ref D) H'))
theorem jV{t a b:AB}{x y:Bool}(h1:BR K t a=some x)(h2:BR K t b=some y):DE K t [a,b]=some (x||y):=by
 unfold DE;rw[h1];cases x with
 |true=>rfl
 |false=>
  show DE K t [b]=_;unfold DE;rw[h2];cases y with
  |true=>rfl
  |false=>rfl
theorem uP{t a b c:AB}{x y z:Bool}(h1:BR K t a=some x)(h2:BR K t b=some y)(h3:BR K t c=some z):DE K t [a,b,c]=some (x||y||z):=by
 unfold DE;rw[h1];cases x with
 |true=>rfl
 |false=>
  show DE K t [b,c]=_;rw[jV h2 h3,Bool.false_or]
theorem qj(T:Tx K mg){H:Hp}{e:Ex}{v:V}(hm:e.may)(h:XR H e v):∃t,Jl K H v t/\BR K t (.ref 555)=some (match e with|.fld _=>true|.thing _=>false):=by
 cases e with
 |fld f=>obtain⟨a,dx,n,z,k,m,d,rfl,ha,_⟩:=h;exact⟨_,(T.hZ 8 rfl) ha,(T.q 70 rfl)⟩
 |thing d=>
  rcases hm with rfl|⟨z,rfl⟩
  ·exact⟨_,Th.ty h,(T.qt 8 rfl)⟩
  ·exact⟨_,Th.ty h,(T.qt 17 rfl)⟩
theorem XN.kit(T:Tx K mg){H:Hp}{l:AE}{xs:List V}(h:XN H l xs):∃t,Jl K H (.ref l) t/\DE K t [.type "list",.type "tuple"]=some true:=by
 rcases h with h|h
 ·exact⟨_,.lst h,jV T.FM T.Pp⟩
 ·exact⟨_,.tup h,jV T.Yd T.Vt⟩
theorem Wn(T:Tx K mg)(kb:K.In base):He P w K mg base Zr 3 564 (Fe K 564) ["fields"] Vz:=by
 have G:=@Kb P w K mg base T;obtain⟨oc,od,sl,kV,doc,pm,an,cdv,ct,e,lk,a8⟩:=HL.HU (T.de 11 rfl);have M:cdv= .ref dE:=T.Sy e;have hB:base.BuiltinsAt mg Vu:=HL.sP kb (HL.UV (f:=id) 1 T.mb rfl) (T.g _ _ (T.nr 14 rfl)) Aa Aa Aa;have hC:Hh base dE Vu:=HL.oR kb (HL.UV (f:=id) 0 T.mb rfl);rw[e];refine aX lk a8 VI (λvs H Q E h=>?_) (λA outer s H vs Q E hr h=>?_)
 ·obtain⟨v,rfl,_⟩:=h;rfl
 ·obtain⟨v,rfl,h⟩:=h;refine⟨_,XQ.nox (AV (BH (CK (BI (Bl (Qx K rfl) rfl T.Bv Br (Ax (pv 0) (Ax (DG (Ax (QV T.Ho FU) (Ax (QV T.SV Qz) AA))) AA))))) (AD (AN CO)) Bd) (AV (BH (BI (Bl (Ff rfl) rfl T.Pn Mb (Ax (CJ (ts:=Ah) (xs:=[]) (js:=[]) rfl ⟨rfl,rfl,Ab,Ab,CZ rfl⟩ .nil Ab (jj (CU (pv 0)) (Rq (pv 0))) (λC s_ H_ fp=>Cb (X:=Di _ _ _ C s_ H_ fp) (i:=0) NO rfl (Bn rfl) (Cw rfl)) (λC s_ H_ fp=>CT (X:=Di _ _ _ C s_ H_ fp)) (λC s_ H_ fp=>Io (X:=Di _ _ _ C s_ H_ fp) (Bl (BC K rfl) rfl T.Bv Br (Ax (pv 0) (Ax (YK T.GY) AA))) (Im (AW (X:=Di _ _ _ C s_ H_ fp) G (hr.mono Aa) T.ID (Ax (LQ (X:=Di _ _ _ C s_ H_ fp) K rfl (pv 0) rfl) AA))))) AA))) (AD (AN (pQ (cO (y:="field") (fld:="number") (c:=dE) (T:=Vu) (pv 0) rfl T.MK rfl rfl M hC hB ⟨λ_ _ _ _=>rfl,rfl,rfl,rfl,Ab,rfl,λ_ _=>rfl,Aa⟩ hr.depth) (ag (y:="field") (fld:="number") (c:=dE) (T:=Vu) (pv 0) rfl T.MK rfl rfl M hC hB ⟨λ_ _ _ _=>rfl,rfl,rfl,rfl,Ab,rfl,λ_ _=>rfl,Aa⟩ hr.depth)))) Bd) (AD (AN (Ee HX rfl T.Ho FU (Ax (pv 0) AA)))))),?_⟩;refine⟨_,rfl,zl 2,λtp a1=>?_⟩;have s1:Be H (upd H tp (.tup (["list","tuple"].map V.ty))):=By a1;rcases h with⟨d,hd,hn,q⟩|⟨l,xs,es,rfl,hl,O,hm,hz,hL,q⟩
  ·refine⟨v,tp,_,_,["list","tuple"],rfl,AC,(Th.sm (Sm.of s1) _ _ hd).ty,jV (jU T d) (uM T d),_,rfl,?_⟩;rw[hn];exact CY (q _ s1)
  ·have F:=hl.same s1;obtain⟨S,a0,a6⟩:=F.kit T;refine⟨.ref l,tp,S,_,["list","tuple"],rfl,AC,a0,a6,_,rfl,Ch ?_⟩;refine F.it (λQ q=>⟨_,rfl,q⟩) λJ WJ=>Dc WJ (by lia) (λj=>.bl (match es[j]? with|some e=>Re e|none=>false)) (λj y Z H2 R s2 hR=>?_) (λD H2 hD s2 e2=>?_)
   ·obtain⟨e,I,Y⟩:=Hz O j y Z;have x:=XR.sm (Sm.of (s1.trans s2)) Y;have a4:=hm e (AY I);obtain⟨t,ty,kt⟩:=qj T a4 x;have r:=hR H2 λ_ _ e=>e;rw[I]at r;refine⟨Sub.set rfl,_,rfl,y,.ref 555,_,_,_,rfl,ty,rfl,kt,_,rfl,?_⟩;cases e with
    |fld f=>
     obtain⟨a,dx,n,z,k,m,d,rfl,ha,h1,_⟩:=x;exact CY ⟨_,rfl,a,_,dx,_,_,rfl,ha,T.Ce,T.DM,rfl,n,f.num,rfl,h1,r⟩
    |thing d=>exact Ch r
   ·refine⟨D,(Bm xs.length).map λj=>(match es[j]? with|some e=>Re e|none=>false),rfl,by rw[Bi];exact e2,_,rfl,?_⟩;have b:es.length=xs.length:=O.length;have o:=s1.trans s2;have L:=Es.sm (Sm.of o) O;rw[<-b,Jn es Re _ (λi d hd=>by rw[hd])];refine FT (λh=>?_) (λh=>?_)
    ·have hw:∀e∈es,Re e=true:=BM.mp h;have a7: (es.map lx).length=xs.length:=by rw[Ay];exact b
     refine(hl.same o).srt (λQ q=>⟨_,rfl,q⟩) (hL.same o) ⟨es.map lx,hz,a7,(λi v k h1 h2=>?_),λD2 ys H4 c3 sT a9 U ho=>?_⟩
     ·obtain⟨e,I,Z⟩:=Hz L i v h1;have B:=hw e (AY I);rw[AT,I]at h2;obtain rfl:lx e=k:=Ba h2;cases e with
      |thing d=>cases B
      |fld f=>
       obtain⟨i',hi⟩:=fT (show bK f.num=true from B);obtain⟨a,dx,n,z,kk,m,d,rfl,ha,N,_⟩:=Z;have ek:lx (.fld f)=i':=by show(match f.num with|.int i=>i|_=>0)=i';rw[hi]
       rw[hi]at N;obtain rfl:n=V.int i':=N;rw[ek];exact⟨a,_,dx,_,rfl,ha,T.Ce,T.DM,rfl⟩
     ·have sm:Sm H2 H4:=Sm.lam (hL.same o) sT;obtain⟨qs,pq,rfl,a3⟩:=ho;obtain⟨b1,pe,re⟩:=L2.Paired.perm pq.symm (kw (Es.sm sm L));obtain⟨r1,r2⟩:=UK re;exact q D2 _ b1 H4 ((Sm.of o).trans sm) a9 U r1 pe λ_=>by rw[r2];exact Ed.mpr a3
    ·refine⟨_,rfl,l,xs,rfl,(hl.same o).sq,λp hp=>?_⟩;have s4:=o.trans (By (u:=.lst xs) hp);exact q p xs es _ (Sm.of s4) (hL.same s4) AC (Es.sm (Sm.of s4) O) (.refl _) λhw=>wo (BM.mpr hw) h
open PySem.W (sortI)
theorem aE: ((Ad:List Bc) ++ ([]:List Bc)).Nodup:=by decide+kernel
def Tz:Sp:=λvs H Q _=>∃v,vs=[v]/\((v= .non/\Yk H Q [])\/∃(l:AE) (ns:List Int),v= .ref l/\XN H l (ns.map V.int)/\ns.length<64/\Yk H Q ((sortI ns).map V.int))
theorem la{a:Type}(l:List a): (l.map λ_=>true).all id=true:=by
 induction l with
 |nil=>rfl
 |cons x l b=>rw[Bf,GK,b];rfl
theorem Ui(T:Tx K mg):HL.Et P w K mg base 2 569 ["numbers"] Tz:=by
 have G:=@Kb P w K mg base T;refine(T.df 12 rfl).ok TK (λvs H Q E h=>?_) (λcdv A outer s H vs Q E m h=>?_)
 ·obtain⟨v,rfl,_⟩:=h;rfl
 ·obtain⟨v,rfl,h⟩:=h;refine⟨_,AV (BH (Bp Kq (pv 0) CO (Bw _)) (AD (AN (CP AA))) Bd) (AV (BH (CK (BI (Bl (Qx K rfl) rfl T.Bv Br (Ax (pv 0) (Ax (DG (Ax (QV T.Ho FU) (Ax (QV T.SV Qz) AA))) AA))))) (AD (AN CO)) Bd) (AV (BH (BI (Bl (Ff rfl) rfl T.Pn Mb (Ax (CJ (ts:=Ad) (xs:=[]) (js:=[]) rfl ⟨rfl,rfl,Ab,Ab,CZ rfl⟩ .nil Ab (jj (CU (pv 0)) (Rq (pv 0))) (λC s_ H_ fp=>Cb (X:=Di _ _ _ C s_ H_ fp) (i:=0) aE rfl (Bn rfl) (Cw rfl)) (λC s_ H_ fp=>CT (X:=Di _ _ _ C s_ H_ fp)) (λC s_ H_ fp=>AW (X:=Di _ _ _ C s_ H_ fp) G (m.mono Aa) T.ID (Ax (pv 0) AA))) AA))) (AD (AN (Bl (Ll.or Qw) rfl T.MK Rz (Ax (pv 0) AA)))) Bd) (AD (AN (Ee HX rfl T.Ho FU (Ax (pv 0) AA)))))),?_⟩;refine⟨_,rfl,rfl,_,rfl,?_⟩;rcases h with⟨rfl,q⟩|⟨l,ns,rfl,a,hz,q⟩
  ·exact HR rfl ⟨zl 0,λp hp=>q p _ hp (By hp) AC⟩
  ·refine Dk (by intro z;cases z) ⟨_,rfl,zl 2,λtp g=>?_⟩;have s1:Be H (upd H tp (.tup (["list","tuple"].map V.ty))):=By g;have b:=a.same s1;obtain⟨c,f,j⟩:=b.kit T;refine⟨.ref l,tp,c,_,["list","tuple"],rfl,AC,f,j,_,rfl,Ch ?_⟩;refine b.it (λQ q=>⟨_,rfl,q⟩) λJ r=>Ry r (by rw[Ay];lia) (λ_=>.bl true) (λy k H2 R s2 n=>?_) (λD H2 t s2 o=>?_)
   ·obtain⟨i,hi,rfl⟩:=Bg.mp k;exact⟨Sub.set rfl,_,rfl,.int i,.int i,rfl,rfl,n H2 λ_ _ e=>e⟩
   ·have d:=s1.trans s2;refine⟨D,(ns.map V.int).map λ_=>true,rfl,by rw[Bi];exact o,_,rfl,?_⟩;rw[la];have fin:∀p,H2 p=none->Q (.ref p) (upd H2 p (.lst ((sortI ns).map V.int))):=λp hp=>q p _ (d.free hp) (d.trans (By hp)) AC;refine CY ⟨_,rfl,?_⟩;rcases a.same d with a|a
    ·exact .inl ⟨l,ns,rfl,Cj.of a,hz,fin⟩
    ·exact .inr ⟨l,ns,rfl,DW.of a,hz,fin⟩
structure Gx where
 choice:Bool
 nam:Dt
 fields:Option (List Ex)
 gone:List Int
def nG(c:Bool):AE:=if c then 646 else 627
def Zn(H:Hp):Option (List Ex)->V->Prop
 |none,v=>v= .non
 |some es,v=>∃l xs,v= .ref l/\H l=some (.lst xs)/\Es H es xs
def Jm(H:Hp)(g:Gx)(v:V):Prop:=∃a dx z f l,v= .ref a/\H a=some (.ins (nG g.choice) dx [("name",z),("fields",f),("gone",.ref l)])/\Th H g.nam z/\Zn H g.fields f/\H l=some (.lst (g.gone.map V.int))
theorem Zn.sf{H H':Hp}(s:Sf H H'):∀{o:Option (List Ex)} {v:V},Zn H o v->Zn H' o v
 |none,_,h=>h
 |some _,_,⟨l,xs,e,h,r⟩=>⟨l,xs,e,s _ _ h rfl,Es.sf s r⟩
theorem Zn.sm{H H':Hp}(s:Sm H H'){o:Option (List Ex)}{v:V}(h:Zn H o v):Zn H' o v:=h.sf s.sf
theorem Jm.sm{H H':Hp}(s:Sm H H'){g:Gx}{v:V}:Jm H g v->Jm H' g v:=λb=>by
 obtain⟨a,dx,z,f,l,e,h,h1,h2,h3⟩:=b;exact⟨a,dx,z,f,l,e,s _ _ h rfl,Th.sm s _ _ h1,h2.sm s,s _ _ h3 rfl⟩
def dM(H:Hp):Option (List Ex)->V->Prop
 |none,v=>∃d,Th H d v/\Qn d=false
 |some es,v=>∃l xs,v= .ref l/\XN H l xs/\Es H es xs/\(∀e∈es,Ex.may e)/\xs.length<64
def XO:Option (List Ex)->Option (List Ex)->Prop
 |none,none=>True
 |some a,some b=>a.Perm b/\qK b a
 |_,_=>False
def dL(H:Hp)(ns:List Int)(v:V):Prop:=(v= .non/\ns=[])\/∃l,v= .ref l/\XN H l (ns.map V.int)/\ns.length<64
def tr(x:AE)(H H':Hp):Prop:=∀b o,b≠x->H b=some o->vt o=false->H' b=some o
theorem XN.sf{H H':Hp}{l:AE}{xs:List V}(s:Sf H H'):XN H l xs->XN H' l xs
 |.inl h=>.inl (s _ _ h rfl)
 |.inr h=>.inr (s _ _ h rfl)
theorem dM.sf{H H':Hp}(s:Sf H H'):∀{o:Option (List Ex)} {v:V},dM H o v->dM H' o v
 |none,_,⟨d,h,n⟩=>⟨d,Th.sn s.sn _ _ h,n⟩
 |some _,_,⟨l,xs,e,h,r,m,z⟩=>⟨l,xs,e,h.sf s,Es.sf s r,m,z⟩
theorem dL.sf{H H':Hp}(s:Sf H H'){ns:List Int}{v:V}:dL H ns v->dL H' ns v
 |.inl h=>.inl h
 |.inr ⟨l,e,h,z⟩=>.inr ⟨l,e,h.sf s,z⟩
theorem Lm.put{H:Hp}(h:Lm H){x C dx:AE}{fs:List (Bc×V)}{u:HO}(hx:H x=some (.ins C dx fs)):Lm (upd H x u):=by
 have ne:∀{b:AE} {o:HO},H b=some o->(∀C dx fs,o≠ .ins C dx fs)->upd H x u b=some o:=λe n=>by
  rw[Bb]
  ·exact e
  ·rintro rfl;rw[hx]at e;exact n _ _ _ (Ba e).symm
 rcases h with h|⟨c,h1,h2⟩
 ·exact .inl (ne h λ_ _ _ z=>by cases z)
 ·exact .inr ⟨c,ne h1 (λ_ _ _ z=>by cases z),ne h2 (λ_ _ _ z=>by cases z)⟩
def ev(C:AE):Sp:=λvs H Q _=>∃x dx z fv a o ns,vs=[.ref x,z,fv,a]/\H x=some (.ins C dx [])/\dM H o fv/\dL H ns a/\Lm H/\∀u l o' H',tr x H H'->Lm H'->H' x=some (.ins C dx [("name",z),("fields",u),("gone",.ref l)])->Zn H' o' u->XO o' o->H' l=some (.lst ((sortI ns).map V.int))->Q .non H'
structure nW(K:AF)(C:AE):Prop where
 cl:NV K C
 n1:Go K C "name"
 n2:Go K C "fields"
 n3:Go K C "gone"
 pf:∀dx fs,uv (.ins C dx fs)=false
theorem NS(T:Tx K mg):nW K 627:=⟨T.KR,(T.fo 12 rfl),(T.fo 13 rfl),(T.fo 14 rfl),λ_ _=>rfl⟩
theorem NT(T:Tx K mg):nW K 646:=⟨T.KS,(T.fo 15 rfl),(T.fo 16 rfl),(T.fo 17 rfl),λ_ _=>rfl⟩
theorem IS(T:Tx K mg)(c:Bool):nW K (nG c):=by
 cases c
 ·exact NS T
 ·exact NT T
theorem GN(T:Tx K mg)(N:K.In base){C:AE}(f:nW K C):He P w K mg base Zr 4 584 (Fe K 584) Av (ev C):=by
 have X:=@Wn P w K mg base T N;have W:=@Ui P w K mg base T;obtain⟨oc,od,sl,kV,doc,pm,an,cdv,ct,e,lk,F⟩:=HL.HU T.MO;rw[e];refine aX lk F YC (λvs H Q E h=>?_) (λA outer s H vs Q E M h=>?_)
 ·obtain⟨x,dx,z,fv,J,o,ns,rfl,_⟩:=h;rfl
 ·obtain⟨x,dx,z,fv,J,o,ns,rfl,hx,hf,hg,R,q⟩:=h;refine⟨_,XQ.nox (AV (Gn (pv 0) (pv 1) rfl) (Bh (Gn (pv 0) (AW X (M.mono Aa) (T.d1 11 rfl λ_ _ _ _ _ _ _=>rfl) (Ax (pv 2) AA)) rfl) (AD (Gn (pv 0) (AW W (M.mono Aa) (T.d1 12 rfl λ_ _ _ _ _ _ _=>rfl) (Ax (pv 3) AA)) rfl)))),?_⟩;refine⟨_,rfl,_,rfl,x,_,dx,_,rfl,hx,f.cl,f.n1,Aa,?_⟩;have s1:Sf H (upd H x (.ins C dx [("name",z)])):=Sf.upd hx (f.pf _ _);have p:Lm (upd H x (.ins C dx [("name",z)])):=R.put hx;have c:∀{H1:Hp} {u:V},H1 x=some (.ins C dx [("name",z)])->Sf H1 (upd H1 x (.ins C dx [("name",z),("fields",u)])):=λh=>Sf.upd h (f.pf _ _);refine Cq (λk H'=>k=[some (.ref x),some z,some fv,some J]/\∃u o',tr x H H'/\Lm H'/\H' x=some (.ins C dx [("name",z),("fields",u)])/\Zn H' o' u/\XO o' o/\dL H' ns J) ?_ ?_
  ·cases o with
   |none=>
    obtain⟨d,hd,hn⟩:=hf;refine⟨_,rfl,_,rfl,.inl ⟨d,Th.sn s1.sn _ _ hd,hn,λH' s'=>?_⟩⟩;have a:=s' _ _ AC;refine⟨_,rfl,x,C,dx,_,rfl,a,f.cl,f.n2,by show 1<1000;decide,rfl,.non,none,λb o i r tb=>?_,(p.same s').put a,AC,rfl,trivial,((hg.sf s1).sf (Sm.of s').sf).sf (c a)⟩;rw[Bb i];exact s' _ _ (by rw[Bb i];exact r)
   |some es=>
    obtain⟨l,xs,rfl,n,O,hm,hz⟩:=hf;refine⟨_,rfl,_,rfl,.inr ⟨l,xs,es,rfl,n.sf s1,Es.sf s1 O,hm,hz,p,λD ys L H' s' I S B hp hri=>?_⟩⟩;have a:=s' _ _ AC rfl;refine⟨_,rfl,x,C,dx,_,rfl,a,f.cl,f.n2,by show 1<1000;decide,rfl,.ref D,some L,λb o i r tb=>?_,I.put a,AC,⟨D,ys,rfl,c a _ _ S rfl,Es.sf (c a) B⟩,⟨hp,hri⟩,((hg.sf s1).sf s'.sf).sf (c a)⟩;rw[Bb i];exact s' _ _ (by rw[Bb i];exact r) tb
  ·rintro k H1 ⟨rfl,u,o',U,G,j,y,hp,v⟩;have key:∀l H2,Be H1 H2->H2 l=some (.lst ((sortI ns).map V.int))->Q .non (upd H2 x (.ins C dx [("name",z),("fields",u),("gone",.ref l)])):=λl H2 g t=>by
    have m:=g _ _ j;have s4:Sf H2 (upd H2 x (.ins C dx [("name",z),("fields",u),("gone",.ref l)])):=Sf.upd m (f.pf _ _);refine q u l o' _ (λb o i r tb=>?_) ((G.same g).put m) AC ((y.sf (Sm.of g).sf).sf s4) hp (s4 _ _ t rfl);rw[Bb i];exact g _ _ (U b o i r tb)
   rcases v with⟨rfl,rfl⟩|⟨l,rfl,n,hz⟩
   ·exact⟨_,rfl,_,rfl,.inl ⟨rfl,λl H2 n g t=>⟨_,rfl,x,C,dx,_,rfl,g _ _ j,f.cl,f.n3,by show 2<1000;decide,key l H2 g t⟩⟩⟩
   ·exact⟨_,rfl,_,rfl,.inr ⟨l,ns,rfl,n,hz,λl H2 n g t=>⟨_,rfl,x,C,dx,_,rfl,g _ _ j,f.cl,f.n3,by show 2<1000;decide,key l H2 g t⟩⟩⟩
theorem Jk(T:Tx K mg):Er K (Fe K 584) Av []:=by
 obtain⟨oc,od,sl,kV,doc,pm,an,cdv,ct,e,lk,d⟩:=HL.HU T.MO;obtain⟨o,n,h1,h2⟩:=HL.oy T.eh;rw[e];intro s us X c;rw[CA]at c ⊢;obtain⟨u,v,a,b,rfl⟩:=om c;exact Fi rfl (X _ _ h1) h2 rfl rfl
theorem QC(T:Tx K mg):Er K (Fe K 584) Av [.none]:=by
 obtain⟨oc,od,sl,kV,doc,pm,an,cdv,ct,e,lk,d⟩:=HL.HU T.MO;obtain⟨o,n,h1,h2⟩:=HL.oy T.eh;rw[e];intro s us X c;have b:us.length=3:=by rw[AZ]at c;exact KF c
 obtain⟨u,v,a,rfl⟩:=oo b;exact Fi rfl (X _ _ h1) h2 rfl rfl
theorem Jo{H:Hp}{Q:VK}{x dx:AE}{z fv h:V}{c:Bool}{nm:Dt}{o:Option (List Ex)}{ns:List Int}(hx:H x=none)(f:H dx=none)(hne:dx≠x)(h1:Th H nm z)(h2:dM H o fv)(h3:dL H ns h)(k:Lm H)(q:∀v o' H',Sm H H'->Lm H'->XO o' o->Jm H' ⟨c,nm,o',sortI ns⟩ v->Q v H'):ev (nG c) (.ref x::[z,fv,h]) (upd (upd H dx (.own x)) x (.ins (nG c) dx [])) (λv H2=>v= .non/\Q (.ref x) H2) E0:=by
 have b:Be H (upd (upd H dx (.own x)) x (.ins (nG c) dx [])):=by
  refine(By f).trans (By ?_);rw[Bb (CI hne)];exact hx
 refine⟨x,dx,z,fv,h,o,ns,rfl,AC,h2.sf (Sm.of b).sf,h3.sf (Sm.of b).sf,k.same b,λu l o' H' m g e d hp j=>⟨rfl,?_⟩⟩;have s1:Sm H H':=λa o i tb=>m a o (λz=>by rw[z,hx]at i;cases i) (b a o i) tb;exact q _ o' _ s1 g hp ⟨x,dx,z,u,l,rfl,e,Th.sm s1 _ _ h1,d,j⟩
def HM(g:Gx):Bool:=match g.fields with
 |none=>false
 |some es=>QE (.int es.length) (if g.choice then 1 else 0) 10&&decide ((g.gone.length:Int)<=10)
def nB:Ex->Bool
 |.fld _=>true
 |.thing _=>false
def Uu:Ex->Dt
 |.fld f=>f.nam
 |.thing _=>.non
def Ym:Dt->Bc
 |.str z=>z
 |_=>""
def sD:Dt->Int
 |.int i=>i
 |_=>0
def YM:Ex->Dt
 |.fld f=>f.num
 |.thing _=>.non
def HQ(es:List Ex):Bool:=es.all (λe=>EH (Uu e)) &&decide ((es.map λe=>Ym (Uu e)).Nodup)
def Nh(es:List Ex)(gone:List Int):List Int:=es.map (λe=>sD (YM e)) ++gone
def ES(es:List Ex)(gone:List Int):Bool:=(es.all (λe=>QE (YM e) 1 200) &&gone.all (λi=>QE (.int i) 1 200)) &&decide ((Nh es gone).Nodup)
def VA:Sp:=λvs H Q _=>∃v g,vs=[v]/\Jm H g v/\(∀es,g.fields=some es->es.length<64)/\g.gone.length<64/\Q (.bl (HM g)) H
def gf:Sp:=λvs H Q _=>∃(l:AE) (zs:List Bc),vs=[.ref l]/\H l=some (.lst (zs.map V.str))/\zs.length<=100/\Q (.bl (decide zs.Nodup)) H
def gg:Sp:=λvs H Q _=>∃(l:AE) (ns:List Int),vs=[.ref l]/\H l=some (.lst (ns.map V.int))/\ns.length<=100/\Q (.bl (decide ns.Nodup)) H
theorem fD{κ:Type} [DecidableEq κ](d:κ)(ks:List κ):decide (V.int (bh d ks:Int)=V.int (ks.length:Int))=decide ks.Nodup:=by
 rw[decide_eq_decide];constructor
 ·intro h;exact(bg d ks).mp (Int.ofNat.inj (V.int.inj h))
 ·intro h;rw[(bg d ks).mpr h]
theorem cS(T:Tx K mg):HL.Et P w K mg base 1 655 ["things"] gf:=by
 refine T.Px.ok OB (λvs H Q E h=>?_) (λcdv A outer s H vs Q E b h=>?_)
 ·obtain⟨l,zs,rfl,_⟩:=h;rfl
 ·obtain⟨l,zs,rfl,a,hz,q⟩:=h;refine⟨_,AD (AN (EY De (Xd (mk:=V.str) ("" :Bc) (strKind _ _) ZY rfl (pv 0) rfl T.Fy Eg rfl T.oa kO) (Bl Cs (by rfl) T.Fy Eg (Ax (pv 0) AA)) (Bw _))),?_⟩;refine⟨_,rfl,l,zs,rfl,Cj.of a,hz,_,rfl,l,_,rfl,.inl (Cj.of a),rfl,?_⟩;rw[Ay,fD];exact q
theorem cT(T:Tx K mg):HL.Et P w K mg base 1 655 ["things"] gg:=by
 refine T.Px.ok OB (λvs H Q E h=>?_) (λcdv A outer s H vs Q E b h=>?_)
 ·obtain⟨l,zs,rfl,_⟩:=h;rfl
 ·obtain⟨l,zs,rfl,a,hz,q⟩:=h;refine⟨_,AD (AN (EY De (Xd (mk:=V.int) (0:Int) (intKind _ _) ZZ rfl (pv 0) rfl T.Fy Eg rfl T.oa kO) (Bl Cs (by rfl) T.Fy Eg (Ax (pv 0) AA)) (Bw _))),?_⟩;refine⟨_,rfl,l,zs,rfl,Cj.of a,hz,_,rfl,l,_,rfl,.inl (Cj.of a),rfl,?_⟩;rw[Ay,fD];exact q
theorem NU(T:Tx K mg)(c:Bool):HF P w K mg base 1 "is_choice" (nG c) (Vm (.bl c)):=by
 cases c with
 |false=>exact⟨T.KR,_,_,_,(T.me 38 28 rfl rfl),Qd T,(HL.b1 (T.mf 28 rfl) λ_ _ _ _ _ _ _=>rfl)⟩
 |true=>exact⟨T.KS,_,_,_,(T.me 43 32 rfl rfl),Ob T,(HL.b1 (T.mf 32 rfl) λ_ _ _ _ _ _ _=>rfl)⟩
theorem Wo(T:Tx K mg):HL.Et P w K mg base 3 662 ["form"] VA:=by
 have G:=@EZ P w K mg base T;obtain⟨_,y⟩:=(T.ui 10 rfl);obtain⟨_,x⟩:=(T.ui 11 rfl);refine(T.df 14 rfl).ok Oz (λvs H Q E h=>?_) (λcdv A outer s H vs Q E o h=>?_)
 ·obtain⟨v,g,rfl,_⟩:=h;rfl
 ·obtain⟨v,g,rfl,⟨a,dx,z,f,l,rfl,ha,hn,hf,r⟩,n,t,q⟩:=h;have m:=IS T g.choice;refine⟨_,AV (BH (PW.pt (GA (CK (BI (Bl (BC K rfl) rfl T.Bv Br (Ax (BF (pv 0) rfl) (Ax (QV T.Ho FU) AA))))) (FS (CK (BI (Bl (BC K rfl) rfl T.Bv Br (Ax (BF (pv 0) rfl) (Ax (QV T.Ho FU) AA)))))))) (AD (AN DA)) Bd) (Bh (BV (i:=1) Oz.nd rfl (Bn rfl) (Gb (BI (DS (P:=P) (w:=w) (K:=K) (mg:=mg) (base:=base) (k:=1) rfl rfl rfl rfl rfl (pv 0) (o.mono Aa) CL)) AH AH)) (AD (AN (Io (AW G (o.mono Aa) T.EC (Ax (Bl Cs (by rfl) T.Fy Eg (Ax (BF (pv 0) rfl) AA)) (Ax (pv 1) (Ax (af y) AA)))) (Im (EY Xg (Bl Cs (by rfl) T.Fy Eg (Ax (BF (pv 0) rfl) AA)) (af x) (Bw _))))))),?_⟩;have fld:∀{Q:V->Prop},Q f->∃b C c fs v,V.ref a= .ref b/\H b=some (.ins C c fs)/\NV K C/\Go K C "fields" /\fs.lookup ("fields" :Bc)=some v/\Q v:=λh=>⟨a,_,dx,_,f,rfl,ha,m.cl,m.n2,rfl,h⟩;have j:∀{Q:V->Prop},Q (.ref l)->∃b C c fs v,V.ref a= .ref b/\H b=some (.ins C c fs)/\NV K C/\Go K C "gone" /\fs.lookup ("gone" :Bc)=some v/\Q v:=λh=>⟨a,_,dx,_,.ref l,rfl,ha,m.cl,m.n3,rfl,h⟩;cases hg:g.fields with
  |none=>
   rw[hg]at hf;obtain rfl:f=V.non:=hf;rw[show HM g=false by unfold HM;rw[hg]]at q;exact⟨_,rfl,fld ⟨.non,.ty "list",_,_,_,rfl,(show Th H .non .non from rfl).ty,rfl,jU T .non,_,rfl,CY q⟩⟩
  |some es=>
   rw[hg]at hf;obtain⟨p,xs,rfl,hp,u⟩:=hf;have e:es.length=xs.length:=u.length;have hz:=n es hg;rw[show HM g=(QE (.int es.length) (if g.choice then 1 else 0) 10&&decide ((g.gone.length:Int)<=10))by unfold HM;rw[hg]]at q
   refine⟨_,rfl,fld ⟨.ref p,.ty "list",_,_,_,rfl,.lst hp,rfl,T.FM,_,rfl,Ch ⟨_,rfl,j ⟨.ref l,.ty "list",_,_,_,rfl,.lst r,rfl,T.FM,_,rfl,Ch ?_⟩⟩⟩⟩;refine Cq (λd H'=>d=[some (.ref a),some (.int (if g.choice then 1 else 0))]/\H'=H) ?_ ?_
   ·refine⟨_,rfl,a,_,dx,_,_,rfl,ha,rfl,NU T g.choice,_,rfl,_,rfl,?_⟩;cases hc:g.choice with
    |true=>exact CY ⟨rfl,rfl⟩
    |false=>exact Ch ⟨rfl,rfl⟩
   ·rintro d H' ⟨rfl,rfl⟩;refine⟨_,rfl,fld ⟨p,xs,rfl,.inl (Cj.of hp),_,rfl,.int _,.int _,_,_,rfl,rfl,_,rfl,?_⟩⟩;rw[<-e];refine FT (λh=>?_) (λh=>?_)
    ·rw[h,CN]at q;refine⟨_,rfl,j ⟨l,_,rfl,.inl (Cj.of r),_,_,rfl,rfl,?_⟩⟩;rw[Ay];exact q
    ·have h':QE (.int es.length) (if g.choice then 1 else 0) 10=false:=by simpa using h
     rw[h',Cu]at q;exact q
theorem Il{b a:Type}(l:List b)(p:b->a)(f:Nat->a)(h:∀i d,l[i]?=some d->f i=p d): (Bm l.length).map f=l.map p:=by
 apply Vj;intro i;rw[AT,AT];by_cases hi:i<l.length
 ·rw[HI hi,Az hi];exact wn some (h i _ (Az hi))
 ·rw[Cz (by rw[BB];lia),Cz (by lia)];rfl
def iy:Sp:=λvs H Q _=>∃l xs es,vs=[.ref l]/\H l=some (.lst xs)/\Es H es xs/\(∀e∈es,Ex.may e)/\xs.length<64/\∀H',Be H H'->Q (.bl (HQ es)) H'
theorem Ni{d:Dt}(h:EH d=true):∃z,d= .str z:=by
 cases d with
 |str z=>exact⟨z,rfl⟩
 |_=>cases h
theorem Es.nums{H:Hp}:∀{es:List Ex} {xs:List V},Es H es xs->(∀e∈es,nB e=true)->∃ns:List V,Paired (λe n=>Th H (YM e) n) es ns/\Paired (λy n=>∃a dx z k m d,y=V.ref a/\H a=some (.ins 555 dx [("number",n),("name",z),("kind",k),("must",m),("default",d)])) xs ns
 |_,_,.nil,_=>⟨[],.nil,.nil⟩
 |e::es,_,.cons a r,h=>by
  obtain⟨ns,h1,h2⟩:=Es.nums r λe c=>h e (BG _ c);have:=h e (BQ ..);cases e with
  |thing d=>cases this
  |fld f=>
   obtain⟨b,dx,n,z,k,m,d,j,i,g,_⟩:=a;exact⟨n::ns,.cons g h1,.cons ⟨b,dx,z,k,m,d,j,i⟩ h2⟩
theorem jz(T:Tx K mg):HL.Et P w K mg base 4 667 ["fields"] iy:=by
 have G:=@GG P w K mg base T;have G2:=@cS P w K mg base T;refine(T.df 15 rfl).ok NW (λvs H Q E h=>?_) (λcdv A outer s H vs Q E O h=>?_)
 ·obtain⟨l,xs,es,rfl,_⟩:=h;rfl
 ·obtain⟨l,xs,es,rfl,I,L,hm,hz,q⟩:=h;refine⟨_,AV (BH (CK (BI (Bl (Ff rfl) rfl T.Pn Mb (Ax (CJ (ts:=Ah) (xs:=[]) (js:=[]) rfl ⟨rfl,rfl,Ab,Ab,CZ rfl⟩ .nil Ab (CU (pv 0)) (λC s_ H_ fp=>Cb (X:=Di _ _ _ C s_ H_ fp) (i:=0) NO rfl (Bn rfl) (Cw rfl)) (λC s_ H_ fp=>CT (X:=Di _ _ _ C s_ H_ fp)) (λC s_ H_ fp=>Io (X:=Di _ _ _ C s_ H_ fp) (Bl (BC K rfl) rfl T.Bv Br (Ax (pv 0) (Ax (YK T.GY) AA))) (Im (AW (X:=Di _ _ _ C s_ H_ fp) G (O.mono Aa) T.Gw (Ax (LQ (X:=Di _ _ _ C s_ H_ fp) K rfl (pv 0) rfl) AA))))) AA)))) (AD (AN DA)) Bd) (AD (AN (AW G2 (O.mono Aa) T.Ot (Ax (CJ (ts:=Ah) (xs:=[]) (js:=[]) rfl ⟨rfl,rfl,Ab,Ab,CZ rfl⟩ .nil Ab (CU (pv 0)) (λC s_ H_ fp=>Cb (X:=Di _ _ _ C s_ H_ fp) (i:=0) NO rfl (Bn rfl) (Cw rfl)) (λC s_ H_ fp=>CT (X:=Di _ _ _ C s_ H_ fp)) (λC s_ H_ fp=>LQ (X:=Di _ _ _ C s_ H_ fp) K rfl (pv 0) rfl)) AA)))),?_⟩;have g:es.length=xs.length:=L.length;refine⟨_,rfl,l,rfl,⟨_,Cj.of I⟩,Dc (Wk.list (Cj.of I)) (by lia) (λj=>.bl (match es[j]? with|some e=>EH (Uu e)|none=>false)) (λj y F H2 R s2 v=>?_) (λD H2 hD s2 e2=>?_)⟩
  ·obtain⟨e,u,o⟩:=Hz L j y F;have b:=XR.sm (Sm.of s2) o;obtain⟨t,ty,kt⟩:=qj T (hm e (AY u)) b;rw[u]at v;refine⟨Sub.set rfl,_,rfl,y,.ref 555,_,_,_,rfl,ty,rfl,kt,_,rfl,?_⟩;cases e with
   |fld f=>
    obtain⟨a,dx,n,z,k,m,d,rfl,ha,_,h2,_⟩:=b;exact CY ⟨_,rfl,a,_,dx,_,_,rfl,ha,T.Ce,T.EU,rfl,z,f.nam,rfl,h2,v⟩
   |thing d=>exact Ch (v H2 λ_ _ e=>e)
  ·refine⟨D,(Bm xs.length).map λj=>(match es[j]? with|some e=>EH (Uu e)|none=>false),rfl,by rw[Bi];exact e2,_,rfl,?_⟩;rw[<-g,Jn es (λe=>EH (Uu e)) _ (λi d hd=>by rw[hd])];cases ha:es.all λe=>EH (Uu e)with
   |false=>
    have e:HQ es=false:=by unfold HQ;rw[ha,Cu]
    rw[e]at q;exact CY (q _ s2)
   |true=>
    have e:HQ es=decide ((es.map λe=>Ym (Uu e)).Nodup):=by unfold HQ;rw[ha,CN]
    rw[e]at q;refine Ch ?_;have r:=s2 _ _ I;have J:=Es.sm (Sm.of s2) L;refine⟨_,rfl,l,rfl,⟨_,Cj.of r⟩,Dc (Wk.list (Cj.of r)) (by lia) (λj=>.str (match es[j]? with|some e=>Ym (Uu e)|none=>"")) (λj y F N R B v=>?_) (λS N U B Z=>?_)⟩
    ·obtain⟨e,u,o⟩:=Hz J j y F;have b:=XR.sm (Sm.of B) o;have c:=v N λ_ _ e=>e;rw[u]at c;have hne:=BM.mp ha e (AY u);cases e with
     |thing d=>cases hne
     |fld f=>
      obtain⟨x,p⟩:=Ni (show EH f.nam=true from hne);obtain⟨a,dx,n,z,k,m,d,rfl,M,_,h2,_⟩:=b;rw[p]at h2;obtain rfl:z=V.str x:=h2.1;refine⟨Sub.set rfl,_,rfl,a,_,dx,_,_,rfl,M,T.Ce,T.EU,rfl,?_⟩;have W:Ym (Uu (.fld f))=x:=by show Ym f.nam=x;rw[p];rfl
      dsimp only at c
      rw[W]at c;exact c
    ·have Y:N S=some (.lst ((es.map λe=>Ym (Uu e)).map V.str)):=by
      rw[Z,<-g,Il es (λe=>V.str (Ym (Uu e))) _ (λi d hd=>by rw[hd]),Bi];rfl
     exact⟨S,_,rfl,Y,by rw[Ay];lia,q _ (s2.trans B)⟩
def ZJ:Sp:=λvs H Q _=>∃v g es,vs=[v]/\Jm H g v/\g.fields=some es/\(∀e∈es,nB e=true)/\es.length<40/\g.gone.length<40/\∀H',Be H H'->Q (.bl (ES es g.gone)) H'
theorem ZD{H:Hp}:∀ns:List Int,Paired (λd n=>Th H d n) (ns.map Dt.int) (ns.map V.int)
 |[]=>.nil
 |n::ns=>.cons rfl (ZD ns)
theorem cM{e d c:Type}{R:c->d->Prop}{f:e->c}:∀{l:List e} {m:List d},Paired (λa b=>R (f a) b) l m->Paired R (l.map f) m
 |_,_,.nil=>.nil
 |_,_,.cons a r=>.cons a (cM r)
theorem Nb{d c:Type}{R:d->c->Prop}:∀{l f:List d} {m e:List c},Paired R l m->Paired R f e->Paired R (l++f) (m++e)
 |_,_,_,_,.nil,b=>b
 |_,_,_,_,.cons a r,b=>.cons a (Nb r b)
theorem ZE{H:Hp}:∀{ds:List Dt} {ns:List V},Paired (λd n=>Th H d n) ds ns->(ds.all λd=>QE d 1 200)=true->ns=(ds.map sD).map V.int
 |_,_,.nil,_=>rfl
 |d::ds,_,.cons a r,h=>by
  rw[GK,AI]at h;have b:=ZE r h.2;cases d with
  |int i=>rw[show _=V.int i from a,b];rfl
  |_=>cases h.1
theorem av(T:Tx K mg):HL.Et P w K mg base 3 672 ["form"] ZJ:=by
 have G:=@EZ P w K mg base T;have G2:=@cT P w K mg base T;obtain⟨_,hM⟩:=(T.ui 12 rfl);refine(T.df 16 rfl).ok Mo (λvs H Q E h=>?_) (λcdv A outer s H vs Q E Z h=>?_)
 ·obtain⟨v,g,es,rfl,_⟩:=h;rfl
 ·obtain⟨v,g,es,rfl,⟨a,dx,z,f,gl,rfl,ha,hn,hf,hl⟩,hg,O,hz,a4,q⟩:=h;have L:=IS T g.choice;rw[hg]at hf;obtain⟨p,xs,rfl,hp,he⟩:=hf;refine⟨_,Bh (BV (i:=1) Mo.nd rfl (Bn rfl) (Bz Nc (CJ (ts:=Ah) (xs:=[]) (js:=[]) rfl ⟨rfl,rfl,Ab,Ab,CZ rfl⟩ .nil Ab (CU (BF (pv 0) rfl)) (λC s_ H_ fp=>Cb (X:=Di _ _ _ C s_ H_ fp) (i:=0) NO rfl (Bn rfl) (Cw rfl)) (λC s_ H_ fp=>CT (X:=Di _ _ _ C s_ H_ fp)) (λC s_ H_ fp=>LQ (X:=Di _ _ _ C s_ H_ fp) K rfl (pv 0) rfl)) (BF (pv 0) rfl))) (AV (BH (CK (BI (Bl (Ff rfl) rfl T.Pn Mb (Ax (CJ (ts:=Ad) (xs:=[]) (js:=[]) rfl ⟨rfl,rfl,Ab,Ab,CZ rfl⟩ .nil Ab (CU (pv 1)) (λC s_ H_ fp=>Cb (X:=Di _ _ _ C s_ H_ fp) (i:=0) aE rfl (Bn rfl) (Cw rfl)) (λC s_ H_ fp=>CT (X:=Di _ _ _ C s_ H_ fp)) (λC s_ H_ fp=>AW (X:=Di _ _ _ C s_ H_ fp) G (Z.mono Aa) T.EC (Ax (pv 0) (Ax AH (Ax (af hM) AA))))) AA)))) (AD (AN DA)) Bd) (AD (AN (AW G2 (Z.mono Aa) T.Ot (Ax (pv 1) AA))))),?_⟩;have a0:es.length=xs.length:=he.length;obtain⟨ns,N,o⟩:=Es.nums he O;have t:xs.length=ns.length:=o.length;refine Cq (λm H'=>∃D,m=[some (.ref a),some (.ref D)]/\Be H H'/\H' D=some (.lst (ns++g.gone.map V.int))) ?_ ?_
  ·refine⟨_,rfl,a,_,dx,_,_,rfl,ha,L.cl,L.n2,rfl,p,rfl,⟨_,Cj.of hp⟩,Dc (Wk.list (Cj.of hp)) (by lia) (λj=>ns.getD j .non) (λj y J H2 R s2 U=>?_) (λD H2 I s2 Y=>?_)⟩
   ·have B:j<ns.length:=by rw[<-t];exact(AO.mp J).1
    have u:ns[j]?=some (ns[j]'B):=Az B;obtain⟨y',r,b,bx,z',k',m',d',rfl,hb⟩:=Hz o j _ u;rw[J]at r;cases r;refine⟨Sub.set rfl,_,rfl,b,_,bx,_,_,rfl,s2 _ _ hb,T.Ce,T.DM,rfl,?_⟩;have:=U H2 λ_ _ e=>e;rw[show ns.getD j .non=ns[j]'B by rw[AL,u];rfl]at this;exact this
   ·have e3:H2 D=some (.lst ns):=by
     rw[Y,t];refine wn (λl=>some (HO.lst l)) ?_;refine(Il ns (λx=>x) _ λi d hd=>?_).trans (List.map_id' ns);rw[AL,hd];rfl
    refine⟨_,rfl,a,_,dx,_,_,rfl,s2 _ _ ha,L.cl,L.n3,rfl,D,gl,_,_,rfl,rfl,e3,s2 _ _ hl,?_,λp2 M=>⟨p2,rfl,s2.trans (By M),AC⟩⟩;rw[Ay];exact AJ (show ns.length+g.gone.length<=1000 by lia) Aa
  ·rintro m H1 ⟨D,rfl,s1,I⟩;have k:Paired (λd n=>Th H1 d n) (es.map YM++g.gone.map Dt.int) (ns++g.gone.map V.int):=Nb (cM (Paired.mapP N λ_ _ h=>Th.sm (Sm.of s1) _ _ h)) (ZD _);have S:=k.length;have hsz: (ns++g.gone.map V.int).length<=90:=by rw[AZ,Ay];lia
   refine⟨_,rfl,D,rfl,⟨_,Cj.of I⟩,Dc (Wk.list (Cj.of I)) (by lia) (λj=>.bl (match (es.map YM++g.gone.map Dt.int)[j]? with|some d=>QE d 1 200|none=>false)) (λj y J H2 R s2 U=>?_) (λD2 H2 a6 s2 Y=>?_)⟩
   ·obtain⟨d,B,hd⟩:=Hz k j y J;have F:=U H2 λ_ _ e=>e;rw[B]at F;exact⟨Sub.set rfl,_,rfl,y,d,_,_,rfl,Th.sm (Sm.of s2) _ _ hd,F⟩
   ·refine⟨D2,(Bm (ns++g.gone.map V.int).length).map λj=>(match (es.map YM++g.gone.map Dt.int)[j]? with|some d=>QE d 1 200|none=>false),rfl,by rw[Bi];exact Y,_,rfl,?_⟩;rw[<-S,Jn _ (λd=>QE d 1 200) _ (λi d hd=>by rw[hd])];have c: ((es.map YM++g.gone.map Dt.int).all λd=>QE d 1 200)=(es.all (λe=>QE (YM e) 1 200) &&g.gone.all (λi=>QE (.int i) 1 200)):=by
     rw[List.all_append,List.all_map,List.all_map];rfl
    cases W: (es.map YM++g.gone.map Dt.int).all λd=>QE d 1 200 with
    |false=>
     have e:ES es g.gone=false:=by unfold ES;rw[<-c,W,Cu]
     rw[e]at q;exact CY (q _ (s1.trans s2))
    |true=>
     have e:ES es g.gone=decide ((Nh es g.gone).Nodup):=by unfold ES;rw[<-c,W,CN]
     rw[e]at q;have ei:ns++g.gone.map V.int=(Nh es g.gone).map V.int:=by
      rw[ZE k W];unfold Nh;rw[Ck,Bi,Bi];refine wn (λl=>JL V.int (_++l)) ?_;exact List.map_id' _
     rw[ei]at I;refine Ch ⟨_,rfl,D,_,rfl,s2 _ _ I,?_,q _ (s1.trans s2)⟩;have:=wn QQ ei;rw[Ay]at this
     lia
def Pl(ws:List (Bc×Int))(z:Bc):Option Int:=(ws.find? λp=>decide (p.1=z)).map (·.2)
def wK(ws:List (Bc×Int)):List (Gk×V):=ws.map λp=>(Sum.inr p.1,V.int p.2)
def WD(H:Hp)(ws:List (Bc×Int))(v:V):Prop:=∃a,v= .ref a/\H a=some (.dK (wK ws))
theorem WD.sm{H H':Hp}(s:Sm H H'){ws:List (Bc×Int)}{v:V}:WD H ws v->WD H' ws v:=λb=>by
 obtain⟨a,e,h⟩:=b;exact⟨a,e,s _ _ h rfl⟩
theorem Yj(ws:List (Bc×Int))(z:Bc):IR (wK ws) (.inr z)=(Pl ws z).map V.int:=by
 induction ws with
 |nil=>rfl
 |cons p ws a=>
  by_cases h:p.1=z
  ·rw[show wK (p::ws)=(Sum.inr p.1,V.int p.2)::wK ws from rfl,PB (show(Sum.inr p.1:Gk)= .inr z by rw[h])];unfold Pl;rw[List.find?_cons_of_pos (by exact wg h)];rfl
  ·rw[show wK (p::ws)=(Sum.inr p.1,V.int p.2)::wK ws from rfl,PD (show ¬ (Sum.inr p.1:Gk)= .inr z from λe=>h (Sum.inr.inj e)),a];unfold Pl;rw[List.find?_cons_of_neg (by rw[wh h];exact Bj)]
theorem aR(ws:List (Bc×Int))(z:Bc): (IR (wK ws) (.inr z)).isSome=(Pl ws z).isSome:=by
 rw[Yj];cases Pl ws z <;> rfl
def gT(ws:List (Bc×Int)):Dt->Bool
 |.str z=>(Pl ws z).isSome
 |_=>false
def LC(ws:List (Bc×Int)):Kx->Bool
 |.upto d=>QE d 1 MN
 |.text d=>QE d 1 100
 |.form d=>EH d&&gT ws d
 |.truth=>true
 |.count=>true
 |.whole=>true
 |_=>false
def JE(ws:List (Bc×Int)):Kx->Bool
 |.list k=>LC ws k
 |k=>LC ws k
theorem UU{d:Dt}{a b:Int}(h:QE d a b=true):∃n,d= .int n:=by
 cases d with
 |int n=>exact⟨n,rfl⟩
 |_=>cases h
theorem OX{ws:List (Bc×Int)}{k:Kx}(h:LC ws k=true):k.fine/\k.flat=true:=by
 cases k with
 |upto d=>exact⟨UU h,rfl⟩
 |text d=>exact⟨UU h,rfl⟩
 |form d=>exact⟨trivial,rfl⟩
 |truth=>exact⟨trivial,rfl⟩
 |count=>exact⟨trivial,rfl⟩
 |whole=>exact⟨trivial,rfl⟩
 |list k=>cases h
 |bare=>cases h
 |thing d=>cases h
theorem Xo{ws:List (Bc×Int)}{k:Kx}(h:JE ws k=true):k.fine:=by
 cases k with
 |list k=>have:=OX (show LC ws k=true from h);exact⟨this.2,this.1⟩
 |upto d=>exact(OX (ws:=ws) (k:=.upto d) h).1
 |text d=>exact(OX (ws:=ws) (k:=.text d) h).1
 |form d=>trivial
 |truth=>trivial
 |count=>trivial
 |whole=>trivial
 |bare=>cases h
 |thing d=>cases h
def iu:Sp:=λvs H Q _=>∃b a k ws,vs=[b,a]/\Kx.may k/\Of H k b/\WD H ws a/\∀H',Be H H'->Q (.bl (LC ws k)) H'
def lQ:Sp:=λvs H Q _=>∃b a k ws,vs=[b,a]/\Kx.may k/\Of H k b/\WD H ws a/\∀H',Be H H'->Q (.bl (JE ws k)) H'
def qS:Dt->Bool
 |.bl b=>!b
 |.int i=>decide (i=0)
 |.str z=>decide (z="")
 |.lst l=>l.isEmpty
 |_=>false
def rS:Dt->Bool
 |.non=>true
 |_=>false
def EO:Kx->Dt->Bool
 |.form _,d=>rS d
 |k,d=>Ez k d&&qS d
def iH:Sp:=λvs H Q _=>∃a b k d,vs=[a,b]/\Kx.fine k/\Of H k a/\Th H d b/\∀H',Be H H'->Q (.bl (EO k d)) H'
def LW:Kx->Bool
 |.text _=>true
 |_=>false
def eo:Dt->Bool
 |.bl b=>b
 |_=>false
def UM(f:Fx)(c:Bool):Bool:=HS f.must&& (!(eo f.must&&c) && (EO f.kind f.dfl|| (!(eo f.must|| (c|| !LO f.kind)) && (!(LW f.kind&& !EH f.dfl) &&Ez f.kind f.dfl))))
theorem Kx.fine.may{k:Kx}(h:k.fine):k.may:=by
 induction k with
 |thing d=>exact h.elim
 |list k a=>exact a h.2
 |_=>trivial
theorem jx(T:Tx K mg):HL.Et P w K mg base 4 679 Af iu:=by
 have G:=@EZ P w K mg base T;have J:=@GG P w K mg base T;obtain⟨_,I⟩:=T.On;obtain⟨_,F⟩:=T.Po;refine(T.df 17 rfl).ok Rj (λvs H Q E h=>?_) (λcdv A outer s H vs Q E j h=>?_)
 ·obtain⟨i,y,k,ws,rfl,_⟩:=h;rfl
 ·obtain⟨i,y,k,ws,rfl,hm,g,⟨B,rfl,hw⟩,q⟩:=h;have D:=j.units;refine⟨_,AV (BH (BI (Bl (BC K rfl) rfl T.Bv Br (Ax (pv 0) (Ax (YK T.Ye) AA)))) (AD (AN (AW G (j.mono Aa) T.EC (Ax (BF (pv 0) rfl) (Ax AH (Ax (af I) AA)))))) Bd) (AV (BH (BI (Bl (BC K rfl) rfl T.Bv Br (Ax (pv 0) (Ax (YK T.Lv) AA)))) (AD (AN (AW G (j.mono Aa) T.EC (Ax (BF (pv 0) rfl) (Ax AH (Ax (af F) AA)))))) Bd) (AV (BH (BI (Bl (BC K rfl) rfl T.Bv Br (Ax (pv 0) (Ax (YK T.KN) AA)))) (AD (AN (Io (AW J (j.mono Aa) T.Gw (Ax (BF (pv 0) rfl) AA)) (Im (pP (jv (BS (BA Aa _) D) (BF (pv 0) rfl) (pv 1)) rfl))))) Bd) (AD (AN (Bl (Qy K rfl) rfl T.Bv Br (Ax (pv 0) (Ax (DG (Ax (YK T.Pq) (Ax (YK T.Tn) (Ax (YK T.Tl) AA)))) AA))))))),?_⟩;obtain⟨t,ty,k0,k1,k2,k3,C,k5,L,f⟩:=aP T hm g;have last:∀H1,Be H H1->(b:Bool)->b=(k.isOf 1||k.isOf 2||k.isOf 3)->b=LC ws k->∀p,H1 p=none->∃(x:V) (v:AE) (t:AB) (b:Bool) (as:List AE),[i,.ref p]=[x,.ref v]/\upd H1 p (.tup [.ref 242,.ref 275,.ref 308]) v=some (.tup (as.map V.ref))/\Jl K (upd H1 p (.tup [.ref 242,.ref 275,.ref 308])) x t/\DE K t (as.map BD)=some b/\Q (.bl b) (upd H1 p (.tup [.ref 242,.ref 275,.ref 308])):=by
   intro H1 s1 b hb r p hp;have s2:=s1.trans (By (u:=.tup [.ref 242,.ref 275,.ref 308]) hp);obtain⟨t',l,_,o,n,m,_⟩:=aP T hm (g.sm (Sm.of s2));refine⟨i,p,t',b,[242,275,308],rfl,AC,l,?_,?_⟩
   ·rw[hb];exact uP o n m
   ·rw[r];exact q _ s2
  refine⟨_,rfl,i,.ref 362,_,_,_,rfl,ty,rfl,C,_,rfl,?_⟩;cases k with
  |upto d=>
   obtain⟨a,dx,u,rfl,ha,c⟩:=g;exact CY ⟨_,rfl,a,_,dx,_,_,rfl,ha,T.JY,T.JU,rfl,u,d,_,_,rfl,c,q H λ_ _ e=>e⟩
  |text d=>
   obtain⟨a,dx,u,rfl,ha,c⟩:=g;exact Ch ⟨_,rfl,_,.ref 415,_,_,_,rfl,ty,rfl,k5,_,rfl,CY ⟨_,rfl,a,_,dx,_,_,rfl,ha,T.Jf,T.IB,rfl,u,d,_,_,rfl,c,q H λ_ _ e=>e⟩⟩
  |form d=>
   obtain⟨a,dx,u,rfl,ha,c⟩:=g;refine Ch ⟨_,rfl,_,.ref 415,_,_,_,rfl,ty,rfl,k5,_,rfl,Ch ⟨_,rfl,_,.ref 528,_,_,_,rfl,ty,rfl,f,_,rfl,CY ?_⟩⟩;refine⟨_,rfl,a,_,dx,_,_,rfl,ha,T.GL,T.GX,rfl,u,d,rfl,c,λH' s'=>⟨_,rfl,?_⟩⟩;cases hn:EH d with
   |false=>
    have e:LC ws (.form d)=false:=by show(EH d&&_)=false;rw[hn,Cu]
    rw[e]at q;exact Ch (q _ s')
   |true=>
    obtain⟨z,rfl⟩:=Ni hn;obtain⟨rfl,_⟩:=c;have e:LC ws (.form (.str z))=(Pl ws z).isSome:=by show(EH (.str z) &&_)=_;rw[hn,CN];rfl
    rw[e,<-aR]at q;exact CY ⟨_,rfl,a,_,dx,_,_,rfl,s' _ _ ha,T.GL,T.GX,rfl,_,rfl,B,_,rfl,Hf.k (k:=.inr z) (s' _ _ hw),q _ s'⟩
  |truth=>exact Ch ⟨_,rfl,_,.ref 415,_,_,_,rfl,ty,rfl,k5,_,rfl,Ch ⟨_,rfl,_,.ref 528,_,_,_,rfl,ty,rfl,f,_,rfl,Ch ⟨_,rfl,zl 3,λp hp=>last H (Be.refl _) true rfl rfl p hp⟩⟩⟩
  |count=>exact Ch ⟨_,rfl,_,.ref 415,_,_,_,rfl,ty,rfl,k5,_,rfl,Ch ⟨_,rfl,_,.ref 528,_,_,_,rfl,ty,rfl,f,_,rfl,Ch ⟨_,rfl,zl 3,λp hp=>last H (Be.refl _) true rfl rfl p hp⟩⟩⟩
  |whole=>exact Ch ⟨_,rfl,_,.ref 415,_,_,_,rfl,ty,rfl,k5,_,rfl,Ch ⟨_,rfl,_,.ref 528,_,_,_,rfl,ty,rfl,f,_,rfl,Ch ⟨_,rfl,zl 3,λp hp=>last H (Be.refl _) true rfl rfl p hp⟩⟩⟩
  |bare=>exact Ch ⟨_,rfl,_,.ref 415,_,_,_,rfl,ty,rfl,k5,_,rfl,Ch ⟨_,rfl,_,.ref 528,_,_,_,rfl,ty,rfl,f,_,rfl,Ch ⟨_,rfl,zl 3,λp hp=>last H (Be.refl _) false rfl rfl p hp⟩⟩⟩
  |list M=>exact Ch ⟨_,rfl,_,.ref 415,_,_,_,rfl,ty,rfl,k5,_,rfl,Ch ⟨_,rfl,_,.ref 528,_,_,_,rfl,ty,rfl,f,_,rfl,Ch ⟨_,rfl,zl 3,λp hp=>last H (Be.refl _) false rfl rfl p hp⟩⟩⟩
  |thing d=>exact Ch ⟨_,rfl,_,.ref 415,_,_,_,rfl,ty,rfl,k5,_,rfl,Ch ⟨_,rfl,_,.ref 528,_,_,_,rfl,ty,rfl,f,_,rfl,Ch ⟨_,rfl,zl 3,λp hp=>last H (Be.refl _) false rfl rfl p hp⟩⟩⟩
theorem mM(T:Tx K mg):HL.Et P w K mg base 5 686 Af lQ:=by
 have G:=@jx P w K mg base T;refine(T.df 18 rfl).ok cI (λvs H Q E h=>?_) (λcdv A outer s H vs Q E e h=>?_)
 ·obtain⟨c,b,k,ws,rfl,_⟩:=h;rfl
 ·obtain⟨c,b,k,ws,rfl,hm,d,hw,q⟩:=h;refine⟨_,AV (BH (BI (Bl (BC K rfl) rfl T.Bv Br (Ax (pv 0) (Ax (YK T.Yg) AA)))) (AD (AN (AW G (e.mono Aa) T.KQ (Ax (BF (pv 0) rfl) (Ax (pv 1) AA))))) Bd) (AD (AN (AW G (e.mono Aa) T.KQ (Ax (pv 0) (Ax (pv 1) AA))))),?_⟩;obtain⟨t,ty,k0,k1,k2,k3,l,k5,f,j⟩:=aP T hm d;refine⟨_,rfl,c,.ref 474,_,_,_,rfl,ty,rfl,f,_,rfl,?_⟩;cases k with
  |list g=>
   obtain⟨a,dx,u,rfl,ha,i⟩:=d;exact CY ⟨_,rfl,a,_,dx,_,_,rfl,ha,T.JZ,T.JV,rfl,_,rfl,u,b,g,ws,rfl,hm,i,hw,q⟩
  |_=>exact Ch ⟨_,rfl,_,rfl,c,b,_,ws,rfl,hm,d,hw,q⟩
theorem ir{k:Kx}(a:k.fine)(hf:∀d,k≠ .form d){d:Dt}(h:Ez k d=true): (∃b,d= .bl b/\GT k= .bl false)\/(∃i,d= .int i/\GT k= .int 0)\/(∃z,d= .str z/\GT k= .str "")\/∃l,d= .lst l/\GT k= .lst []:=by
 cases k with
 |form d=>exact wo rfl (hf d)
 |bare=>exact a.elim
 |thing d=>exact a.elim
 |truth=>cases d <;> first|exact .inl ⟨_,rfl,rfl⟩|cases h
 |count=>obtain⟨i,rfl⟩:=UU (show QE d 0 MN=true from h);exact .inr (.inl ⟨i,rfl,rfl⟩)
 |whole=>obtain⟨i,rfl⟩:=UU (show QE d (-MW - 1) MW=true from h);exact .inr (.inl ⟨i,rfl,rfl⟩)
 |upto n=>obtain⟨n,rfl⟩:=a;obtain⟨i,rfl⟩:=UU (show QE d 0 n=true from h);exact .inr (.inl ⟨i,rfl,rfl⟩)
 |text n=>obtain⟨n,rfl⟩:=a;cases d <;> first|exact .inr (.inr (.inl ⟨_,rfl,rfl⟩))|cases h
 |list k=>cases d <;> first|exact .inr (.inr (.inr ⟨_,rfl,rfl⟩))|cases h
theorem az(T:Tx K mg):HL.Et P w K mg base 5 693 Ae iH:=by
 refine(T.df 19 rfl).ok ZS (λvs H Q E h=>?_) (λcdv A outer s H vs Q E v h=>?_)
 ·obtain⟨y,f,k,d,rfl,_⟩:=h;rfl
 ·obtain⟨y,f,k,d,rfl,n,j,hd,q⟩:=h;have G:=v.units;refine⟨_,AV (BH (BI (Bl (BC K rfl) rfl T.Bv Br (Ax (pv 0) (Ax (YK T.KN) AA)))) (AD (AN (EY Kq (pv 1) CO (Bw _)))) Bd) (AD (AN (Io (JB (P:=P) (w:=w) (K:=K) (mg:=mg) (base:=base) (k:=4) rfl rfl rfl rfl rfl (pv 0) (v.mono Aa) CL (Ax (pv 1) AA)) (Im (EY (MI.or De (al G)) (pv 1) (DS (P:=P) (w:=w) (K:=K) (mg:=mg) (base:=base) (k:=1) rfl rfl rfl rfl rfl (pv 0) (v.mono Aa) CL) (Bw _)))))),?_⟩;obtain⟨t,ty,k0,k1,k2,k3,M,k5,L,D⟩:=aP T n.may j;refine⟨_,rfl,y,.ref 528,_,_,_,rfl,ty,rfl,D,_,rfl,?_⟩;by_cases hf:∃z,k= .form z
  ·obtain⟨z,rfl⟩:=hf;refine CY ⟨_,rfl,rfl,?_⟩;have e:decide (f= .non)=EO (.form z) d:=by
    show _=rS d;cases d with
    |non=>rw[show f=V.non from hd];rfl
    |bl b=>rw[show f=V.bl b from hd];rfl
    |int i=>rw[show f=V.int i from hd];rfl
    |str z=>rw[show f=V.str z from hd.1];rfl
    |lst l=>obtain⟨a,xs,rfl,_⟩:=hd;rfl
    |dct=>obtain⟨a,rfl,_⟩:=hd;rfl
   rw[e];exact q H λ_ _ e=>e
  ·have m:∀z,k≠ .form z:=λz e=>hf ⟨z,e⟩;have I:k.isOf 7=false:=by
    cases k with
    |form z=>exact wo rfl (m z)
    |_=>rfl
   have B:EO k d=(Ez k d&&qS d):=by
    cases k with
    |form z=>exact wo rfl (m z)
    |_=>rfl
   rw[I];obtain⟨a,dx,fs,rfl,ha,o⟩:=j.ins n.isK;refine Ch ⟨_,rfl,a,_,dx,fs,_,rfl,ha,o _ Aa Aa Aa,kH T n,_,rfl,_,f,d,rfl,j,hd,λH1 s1=>⟨_,rfl,?_⟩⟩;cases hs:Ez k d with
   |false=>
    rw[B,hs,Cu]at q;exact Ch (q _ s1)
   |true=>
    rw[B,hs,CN]at q;refine CY ⟨_,rfl,_,rfl,a,_,dx,fs,_,rfl,s1 _ _ ha,o _ Aa Aa Aa,kJ T n.isK,_,rfl,λu H2 s2 c _=>?_⟩;have r:=q _ (s1.trans s2);have g:=Th.sm (Sm.of (s1.trans s2)) _ _ hd;rcases ir n m hs with⟨b,rfl,e⟩|⟨i,rfl,e⟩|⟨z,rfl,e⟩|⟨l,rfl,e⟩
    ·rw[e]at c;obtain rfl:u=V.bl false:=c;obtain rfl:f=V.bl b:=g;refine .inl ⟨rfl,?_⟩;rw[show decide (V.bl b=V.bl false)=qS (.bl b)by cases b <;> rfl];exact r
    ·rw[e]at c;obtain rfl:u=V.int 0:=c;obtain rfl:f=V.int i:=g;refine .inl ⟨rfl,?_⟩;rw[show decide (V.int i=V.int 0)=qS (.int i)from decide_eq_decide.mpr ⟨λh=>V.int.inj h,λh=>wn V.int h⟩];exact r
    ·rw[e]at c;obtain rfl:u=V.str "":=c.1;obtain rfl:f=V.str z:=g.1;refine .inl ⟨rfl,?_⟩;rw[show decide (V.str z=V.str "")=qS (.str z)from decide_eq_decide.mpr ⟨λh=>V.str.inj h,λh=>wn V.str h⟩];exact r
    ·rw[e]at c;obtain⟨p,ys,rfl,hp,F,_⟩:=c;obtain rfl:ys=[]:=F;obtain⟨C,xs,rfl,x,hx,_⟩:=g;refine .inr ⟨C,p,xs,rfl,rfl,x,hp,?_⟩;have J:xs.isEmpty=l.isEmpty:=by
      have:=hx.len;cases xs <;> cases l <;> first|rfl|cases this
     rw[J];exact r
def ci:Sp:=λvs H Q _=>∃v f c,vs=[v,.bl c]/\Ms H f v/\f.kind.fine/\∀H',Be H H'->Q (.bl (UM f c)) H'
theorem cY(T:Tx K mg):HL.Et P w K mg base 6 700 ["field","in_choice"] ci:=by
 have G:=@az P w K mg base T;have R:=@GG P w K mg base T;refine(T.df 20 rfl).ok VL (λvs H Q E h=>?_) (λcdv A outer s H vs Q E u h=>?_)
 ·obtain⟨v,f,c,rfl,_⟩:=h;rfl
 ·obtain⟨v,f,c,rfl,M,p,q⟩:=h;refine⟨_,AV (BH (CK (BI (Bl (BC K rfl) rfl T.Bv Br (Ax (BF (pv 0) rfl) (Ax (QV T.OW Ma) AA))))) (AD (AN DA)) Bd) (Bh (BH (PW.pt (Gm (BI (BF (pv 0) rfl)) (Fv (BI (pv 1))))) (AD (AN DA)) Bd) (Bh (BH (BI (AW G (u.mono Aa) T.RX (Ax (BF (pv 0) rfl) (Ax (BF (pv 0) rfl) AA)))) (AD (AN DA)) Bd) (Bh (BH (PW.pt (GA (BI (BF (pv 0) rfl)) (GA (BI (pv 1)) (FS (CK (BI (DS (P:=P) (w:=w) (K:=K) (mg:=mg) (base:=base) (k:=1) rfl rfl rfl rfl rfl (BF (pv 0) rfl) (u.mono Aa) CL))))))) (AD (AN DA)) Bd) (Bh (BH (PW.pt (Gm (BI (Bl (BC K rfl) rfl T.Bv Br (Ax (BF (pv 0) rfl) (Ax (YK T.Lv) AA)))) (Fv (CK (BI (AW R (u.mono Aa) T.Gw (Ax (BF (pv 0) rfl) AA))))))) (AD (AN DA)) Bd) (AD (AN (JB (P:=P) (w:=w) (K:=K) (mg:=mg) (base:=base) (k:=4) rfl rfl rfl rfl rfl (BF (pv 0) rfl) (u.mono Aa) CL (Ax (BF (pv 0) rfl) AA)))))))),?_⟩;obtain⟨a,dx,n,z,k,m,d,rfl,ha,h1,h2,h3,J,I⟩:=M;obtain⟨num,nam,kind,must,dfl⟩:=f;refine⟨_,rfl,a,_,dx,_,_,rfl,ha,T.Ce,T.EV,rfl,m,.ty "bool",_,_,_,rfl,Th.ty J,rfl,dj T must,_,rfl,?_⟩;have stop:HS must=false->Q (.bl false) H:=λe=>by
   have:=q H λ_ _ e=>e;unfold UM at this;rw[show HS (Fx.mk num nam kind must dfl).must=false from e,Cu]at this;exact this
  cases must with
  |bl b=>
   obtain rfl:m=V.bl b:=J;have O:UM ⟨num,nam,kind,.bl b,dfl⟩ c=(!(b&&c) && (EO kind dfl|| (!(b|| (c|| !LO kind)) && (!(LW kind&& !EH dfl) &&Ez kind dfl)))):=rfl;rw[O]at q;refine Ch ⟨λg H'=>g=[some (.ref a),some (.bl c)]/\H=H'/\(b&&c)=false,?_,?_⟩
   ·refine⟨_,rfl,a,_,dx,_,_,rfl,ha,T.Ce,T.EV,rfl,_,rfl,?_⟩;cases b with
    |false=>exact Ch ⟨rfl,rfl,rfl⟩
    |true=>
     refine CY ⟨_,rfl,_,rfl,?_⟩;cases c with
     |false=>exact Ch ⟨rfl,rfl,rfl⟩
     |true=>exact CY (q H λ_ _ e=>e)
   rintro g H' ⟨rfl,rfl,D⟩;rw[D,Bool.not_false,CN]at q;refine Cq (λg H'=>g=[some (.ref a),some (.bl c)]/\Be H H'/\EO kind dfl=false) ?_ ?_
   ·refine⟨_,rfl,a,_,dx,_,_,rfl,ha,T.Ce,T.DN,rfl,_,rfl,a,_,dx,_,_,rfl,ha,T.Ce,T.DU,rfl,k,d,kind,dfl,rfl,p,h3,I,λH1 s1=>⟨_,rfl,?_⟩⟩;cases hb:EO kind dfl with
    |true=>
     rw[hb,Bool.true_or]at q;exact CY (q _ s1)
    |false=>exact Ch ⟨rfl,s1,rfl⟩
   rintro g H1 ⟨rfl,s1,hb⟩;rw[hb,Bool.false_or]at q;have j:=s1 _ _ ha;have r:=h3.sm (Sm.of s1);have F:=Th.sm (Sm.of s1) _ _ I;obtain⟨y,x,fs,rfl,l,o⟩:=r.ins p.isK;refine Cq (λg H'=>g=[some (.ref a),some (.bl c)]/\H1=H'/\(b|| (c|| !LO kind))=false) ?_ ?_
   ·refine⟨_,rfl,a,_,dx,_,_,rfl,j,T.Ce,T.EV,rfl,_,rfl,?_⟩;have no: (b|| (c|| !LO kind))=true->Q (.bl false) H1:=λe=>by
     have:=q H1 s1;rw[e,Bool.not_true,Cu]at this;exact this
    cases b with
    |true=>exact CY (no rfl)
    |false=>
     refine Ch ⟨_,rfl,_,rfl,?_⟩;cases c with
     |true=>exact CY (no rfl)
     |false=>
      refine Ch ⟨_,rfl,a,_,dx,_,_,rfl,j,T.Ce,T.DN,rfl,y,_,x,fs,_,rfl,l,o _ Aa Aa Aa,kI T p,_,rfl,_,rfl,?_⟩;cases hp:LO kind with
      |true=>exact Ch ⟨rfl,rfl,rfl⟩
      |false=>exact CY (no (by rw[hp];rfl))
   rintro g H2 ⟨rfl,rfl,hn⟩;rw[hn,Bool.not_false,CN]at q;refine Cq (λg H'=>g=[some (.ref a),some (.bl c)]/\Be H H'/\(LW kind&& !EH dfl)=false) ?_ ?_
   ·obtain⟨t,ty,k0,k1,k2,k3,W,k5,U,S⟩:=aP T p.may r;have N:kind.isOf 5=LW kind:=by cases kind <;> rfl
    rw[N]at k5;refine⟨_,rfl,a,_,dx,_,_,rfl,j,T.Ce,T.DN,rfl,_,.ref 415,_,_,_,rfl,ty,rfl,k5,_,rfl,?_⟩;cases B:LW kind with
    |false=>exact Ch ⟨rfl,s1,rfl⟩
    |true=>
     refine CY ⟨_,rfl,a,_,dx,_,_,rfl,j,T.Ce,T.DU,rfl,d,dfl,rfl,F,λL i=>⟨_,rfl,?_⟩⟩;cases C:EH dfl with
     |true=>exact Ch ⟨rfl,s1.trans i,rfl⟩
     |false=>
      have:=q L (s1.trans i);rw[B,C]at this;exact CY this
   rintro g L ⟨rfl,i,B⟩;rw[B,Bool.not_false,CN]at q;obtain⟨y,x,fs,e,l,o⟩:=(h3.sm (Sm.of i)).ins p.isK;exact⟨_,rfl,a,_,dx,_,_,rfl,i _ _ ha,T.Ce,T.DN,rfl,y,_,x,fs,_,e,l,o _ Aa Aa Aa,kH T p,_,rfl,a,_,dx,_,_,rfl,i _ _ ha,T.Ce,T.DU,rfl,_,d,dfl,rfl,h3.sm (Sm.of i),Th.sm (Sm.of i) _ _ I,λX s4=>q _ (i.trans s4)⟩
  |_=>exact CY (stop rfl)
def Mr:Ex->Kx
 |.fld f=>f.kind
 |.thing _=>.bare
def jN:Ex->Dt
 |.fld f=>f.must
 |.thing _=>.non
def IV(e:Ex):Bool:=eo (jN e)
def eW(ws:List (Bc×Int)):Kx->Int
 |.form (.str z)=>(Pl ws z).getD 0
 |_=>1
def FO(ws:List (Bc×Int))(e:Ex):Int:=eW ws (Mr e)
def Uv:List Int->Int
 |[]=>0
 |[x]=>x
 |x::y::r=>min x (Uv (y::r))
theorem eS:∀{l:List Int} {a:Int},a∈l->Uv l<=a
 |[x],a,h=>by rw[AM.mp h];exact Int.le_refl _
 |x::y::r,a,h=>by
  show min x (Uv (y::r))<=a;rcases AU.mp h with rfl|h
  ·exact Int.min_le_left ..
  ·exact Oj (Int.min_le_right ..) (eS h)
theorem Qg:∀{l:List Int},l≠[]->Uv l∈l
 |[x],_=>AM.mpr rfl
 |x::y::r,_=>by
  show min x (Uv (y::r))∈x::y::r;have a:Uv (y::r)∈y::r:=Qg (by simp);by_cases h:x<=Uv (y::r)
  ·rw[Int.min_eq_left h];exact BQ ..
  ·rw[Int.min_eq_right (by lia)];exact BG _ a
theorem eT{l:List Int}{M:Int}(h1:M∈l)(h2:∀a∈l,M<=a):M=Uv l:=by
 have a:=eS h1;have b:=h2 _ (Qg (l:=l) (λe=>by rw[e]at h1;cases h1))
 lia
def EK(ws:List (Bc×Int))(c:Bool)(es:List Ex):Int:=if c then 1+Uv (es.map (FO ws))else 1+ ((es.filter IV).map (FO ws)).sum
theorem PU{c e:Type}(l:List c)(p:c->Bool)(f:c->e)(a:Nat->Bool)(b:Nat->e)(hp:∀i d,l[i]?=some d->a i=p d)(hf:∀i d,l[i]?=some d->b i=f d): ((Bm l.length).filter a).map b=(l.filter p).map f:=by
 have key:∀n,n<=l.length->((Bm n).filter a).map b=((l.take n).filter p).map f:=by
  intro n;induction n with
  |zero=>intro _;rfl
  |succ n j=>
   intro hn;have hx:l[n]?=some (l[n]'(by lia)):=Az (by lia);rw[List.range_succ,Ep,Ck,j (by lia),Vi,hx,Ep,Ck];refine wn (_++ ·) ?_;have g:=hp n _ hx;have k:=hf n _ hx;show(List.filter a [n]).map b=(List.filter p [l[n]'(by lia)]).map f;cases h:p (l[n]'(by lia))with
   |true=>rw[EE (by rw[g,h]),EE h];exact wn (·::[]) k
   |false=>rw[Gi (by rw[g,h];exact Bj),Gi (by rw[h];exact Bj)];rfl
 have:=key l.length (AX _);rw[Dh]at this;exact this
theorem Td(ns:List Int):∀n,n<=ns.length->preSum (λi=>ns.getD i 0) n=(ns.take n).sum:=by
 intro n;induction n with
 |zero=>intro _;rfl
 |succ n a=>
  intro hn;have hx:ns[n]?=some (ns[n]'(by lia)):=Az (by lia);show preSum _ n+ns.getD n 0=_;rw[a (by lia),Vi,hx,List.sum_append,AL,hx];show _+ns[n]'(by lia)=_+ (ns[n]'(by lia) +0)
  lia
theorem bU{ns:List Int}{b:Int}(h:∀a∈ns,0<=a/\a<=b):0<=ns.sum/\ns.sum<=ns.length*b:=by
 induction ns with
 |nil=>exact⟨Int.le_refl _,by simp⟩
 |cons a r c=>
  have h1:=h a (BQ ..);have h2:=c λx hx=>h x (BG _ hx);rw[Sv,Cd];refine⟨by lia,?_⟩;rw[Int.natCast_add,Int.add_mul]
  lia
structure tJ(ws:List (Bc×Int))(es:List Ex):Prop where
 fld:∀e∈es,nB e=true
 kind:∀e∈es,JE ws (Mr e)=true
 must:∀e∈es,HS (jN e)=true
 ws:∀p∈ws,0<=p.2/\p.2<=1000
theorem lA{ws:List (Bc×Int)}{z:Bc}{n:Int}(h:Pl ws z=some n): (z,n)∈ws:=by
 unfold Pl at h;obtain⟨p,hp,rfl⟩:=Cc.mp h;have:=List.find?_some hp;rw[<-wj this];exact List.mem_of_find?_eq_some hp
theorem jw: (0:Int)<=1/\(1:Int)<=1000:=by decide
theorem YQ{ws:List (Bc×Int)}{es:List Ex}(h:tJ ws es){e:Ex}(b:e∈es):0<=FO ws e/\FO ws e<=1000:=by
 have a:=h.kind e b;unfold FO;cases hx:Mr e with
 |form d=>
  rw[hx]at a;cases d with
  |str z=>
   show 0<= (Pl ws z).getD 0/\(Pl ws z).getD 0<=1000;cases hw:Pl ws z with
   |none=>exact⟨Aa,Aa⟩
   |some n=>exact h.ws _ (lA hw)
  |_=>exact jw
 |_=>exact jw
def cg:Sp:=λvs H Q _=>∃v a f ws,vs=[v,a]/\Ms H f v/\WD H ws a/\JE ws f.kind=true/\Q (.int (eW ws f.kind)) H
def fX:Sp:=λvs H Q _=>∃v a g es ws,vs=[v,a]/\Jm H g v/\g.fields=some es/\WD H ws a/\tJ ws es/\es.length<40/\(g.choice=true->es≠[])/\∀H',Be H H'->Q (.int (EK ws g.choice es)) H'
theorem qa: ((Ah:List Bc) ++ (["weights"]:List Bc)).Nodup:=by decide+kernel
theorem cX(T:Tx K mg):HL.Et P w K mg base 1 707 ["field","weights"] cg:=by
 refine(T.df 21 rfl).ok SA (λvs H Q E h=>?_) (λcdv A outer s H vs Q E y h=>?_)
 ·obtain⟨v,j,f,ws,rfl,_⟩:=h;rfl
 ·obtain⟨v,j,f,ws,rfl,B,⟨l,rfl,hw⟩,i,q⟩:=h;have x:=y.units;refine⟨_,AV (BH (BI (Bl (BC K rfl) rfl T.Bv Br (Ax (BF (pv 0) rfl) (Ax (YK T.KN) AA)))) (AD (AN (BK (BS (BA Aa _) x) (pv 1) (BF (BF (pv 0) rfl) rfl) (λ_ _=>rfl)))) Bd) (AD (AN AH)),?_⟩;obtain⟨a,dx,n,z,k,m,d,rfl,ha,h1,h2,h3,G,F⟩:=B;obtain⟨t,ty,k0,k1,k2,k3,D,k5,C,r⟩:=aP T (Xo i).may h3;refine⟨_,rfl,a,_,dx,_,_,rfl,ha,T.Ce,T.DN,rfl,k,.ref 528,_,_,_,rfl,ty,rfl,r,_,rfl,?_⟩;obtain⟨num,nam,kind,must,dfl⟩:=f;cases kind with
  |form d'=>
   have b: (EH d'&&gT ws d')=true:=i;rw[AI]at b;obtain⟨c,rfl⟩:=Ni b.1;obtain⟨p,o,u,rfl,g,e⟩:=h3;obtain⟨rfl,_⟩:=e;obtain⟨nn,hn⟩:=Option.isSome_iff_exists.mp (show(Pl ws c).isSome=true from b.2);refine CY ⟨_,rfl,_,rfl,a,_,dx,_,_,rfl,ha,T.Ce,T.DN,rfl,p,_,o,_,_,rfl,g,T.GL,T.GX,rfl,l,.int nn,rfl,?_,?_⟩
   ·have:=Hf.k (k:=.inr c) hw;rw[Yj,hn]at this;exact this
   ·rw[show eW ws (Fx.mk num nam (.form (.str c)) must dfl).kind=nn by show(Pl ws c).getD 0=nn;rw[hn];rfl]at q;exact q
  |_=>exact Ch q
theorem Xh(T:Tx K mg):HL.Et P w K mg base 2 712 Ag fX:=by
 have G:=@cX P w K mg base T;refine(T.df 22 rfl).ok TR (λvs H Q E h=>?_) (λcdv A outer s H vs Q E F h=>?_)
 ·obtain⟨v,u,g,es,ws,rfl,_⟩:=h;rfl
 ·obtain⟨v,u,g,es,ws,rfl,⟨a,dx,z,f,gl,rfl,ha,hn,hf,hl⟩,hg,hw,hok,hz,hne,q⟩:=h;have t:=IS T g.choice;rw[hg]at hf;obtain⟨p,xs,rfl,hp,Y⟩:=hf;refine⟨_,AV (BH (BI (DS (P:=P) (w:=w) (K:=K) (mg:=mg) (base:=base) (k:=1) rfl rfl rfl rfl rfl (pv 0) (F.mono Aa) CL)) (AD (AN (Bz Dg AH (Bl (OL rfl) rfl T.og kP (Ax (CJ (ts:=Ah) (xs:=["weights"]) (js:=[1]) rfl ⟨rfl,rfl,Ab,Ab,CZ rfl⟩ (.cons rfl (.inl rfl) rfl .nil) Ab (CU (BF (pv 0) rfl)) (λC s_ H_ fp=>Cb (X:=Di _ _ _ C s_ H_ fp) (i:=0) qa rfl (Bn rfl) (Cw rfl)) (λC s_ H_ fp=>CT (X:=Di _ _ _ C s_ H_ fp)) (λC s_ H_ fp=>AW (X:=Di _ _ _ C s_ H_ fp) G (F.mono Aa) T.Mi (Ax (pv 0) (Ax (pv 1) AA)))) AA))))) Bd) (AD (AN (Bz Dg AH (Bl (OK rfl) rfl T.nZ kN (Ax (CJ (ts:=Ah) (xs:=["weights"]) (js:=[1]) rfl ⟨rfl,rfl,Ab,Ab,CZ rfl⟩ (.cons rfl (.inl rfl) rfl .nil) Ab (CU (BF (pv 0) rfl)) (λC s_ H_ fp=>Cb (X:=Di _ _ _ C s_ H_ fp) (i:=0) qa rfl (Bn rfl) (Cw rfl)) (λC s_ H_ fp=>LP (X:=Di _ _ _ C s_ H_ fp) (BI (LQ (X:=Di _ _ _ C s_ H_ fp) K rfl (pv 0) rfl))) (λC s_ H_ fp=>AW (X:=Di _ _ _ C s_ H_ fp) G (F.mono Aa) T.Mi (Ax (pv 0) (Ax (pv 1) AA)))) AA))))),?_⟩;have m:es.length=xs.length:=Y.length;have one:∀(j:Nat) (y:V) (H2:Hp),Be H H2->xs[j]?=some y->∃f,es[j]?=some (.fld f)/\Ms H2 f y/\JE ws f.kind=true/\HS f.must=true:=λj y H2 s2 n=>by
   obtain⟨e,l,B⟩:=Hz Y j y n;have hm:=AY l;have h1:=hok.fld e hm;cases e with
   |thing d=>cases h1
   |fld f=>exact⟨f,l,XR.sm (Sm.of s2) (e:=.fld f) B,hok.kind _ hm,hok.must _ hm⟩
  refine⟨_,rfl,a,_,dx,_,_,rfl,ha,rfl,NU T g.choice,_,rfl,_,rfl,?_⟩;cases hc:g.choice with
  |true=>
   rw[hc]at q;refine CY ⟨_,rfl,a,_,dx,_,_,rfl,ha,t.cl,t.n2,rfl,p,rfl,⟨_,Cj.of hp⟩,Dc (Wk.list (Cj.of hp)) (by lia) (λj=>.int (match es[j]? with|some e=>FO ws e|none=>0)) (λj y n H2 R s2 N=>?_) (λD H2 hD s2 U=>?_)⟩
   ·obtain⟨f,l,r,I,_⟩:=one j y H2 s2 n;have c:=N H2 λ_ _ e=>e;rw[l]at c;exact⟨Sub.set rfl,_,rfl,_,rfl,y,u,f,ws,rfl,r,hw.sm (Sm.of s2),I,c⟩
   ·have S:H2 D=some (.lst ((es.map (FO ws)).map V.int)):=by
     rw[U,<-m,Il es (λe=>V.int (FO ws e)) _ (λi d hd=>by rw[hd]),Bi];rfl
    refine⟨D,_,rfl,Cj.of S,?_,λM h1 h2=>?_⟩
    ·rw[Ay];exact Kh.mpr (hne hc)
    ·refine⟨_,_,rfl,rfl,?_⟩;rw[eT h1 h2];exact q _ s2
  |false=>
   rw[hc]at q;refine Ch ⟨_,rfl,a,_,dx,_,_,rfl,ha,t.cl,t.n2,rfl,p,rfl,⟨_,Cj.of hp⟩,HB (Wk.list (Cj.of hp)) (by lia) (λj=>match es[j]? with|some e=>IV e|none=>false) (λj=>.int (match es[j]? with|some e=>FO ws e|none=>0)) (λj y n H2 R s2 N hN=>?_) (λD H2 hD s2 U=>?_)⟩
   ·obtain⟨f,l,r,I,hb⟩:=one j y H2 s2 n;have c:=N H2 λ_ _ e=>e;have o:=hN H2 λ_ _ e=>e;rw[l]at c o;have O:=r;obtain⟨a',W,n',z',k',m',d',rfl,L,h1,h2,h3,Z,h5⟩:=O;refine⟨Sub.set rfl,_,rfl,a',_,W,_,_,rfl,L,T.Ce,T.EV,rfl,?_⟩;cases hm:f.must with
    |bl b=>
     rw[hm]at Z;obtain rfl:m'=V.bl b:=Z;have em:IV (.fld f)=b:=by show eo f.must=b;rw[hm];rfl
     refine⟨_,rfl,?_⟩;cases b with
     |true=>exact CY ⟨_,rfl,_,rfl,_,u,f,ws,rfl,r,hw.sm (Sm.of s2),I,c em⟩
     |false=>exact Ch (o em)
    |_=>rw[hm]at hb;cases hb
   ·have S:H2 D=some (.lst (((es.filter IV).map (FO ws)).map V.int)):=by
     rw[U,<-m,PU es IV (λe=>V.int (FO ws e)) _ _ (λi d hd=>by rw[hd]) (λi d hd=>by rw[hd]),Bi];rfl
    have hb:∀x∈ (es.filter IV).map (FO ws),0<=x/\x<=1000:=λx hx=>by
     obtain⟨e,J,rfl⟩:=Bg.mp hx;exact YQ hok (Eh.mp J).1
    have a2: ((es.filter IV).map (FO ws)).length<=40:=by
     rw[Ay];exact AJ (Fn _ _) (by lia)
    refine⟨D,_,rfl,S,λj l=>⟨?_,?_⟩,_,_,rfl,rfl,?_⟩
    ·have hx: ((es.filter IV).map (FO ws))[j]?=some (((es.filter IV).map (FO ws))[j]'l):=Az l;rw[AL,hx];have:=hb _ (AY hx);show InLong (((es.filter IV).map (FO ws))[j]'l);exact⟨by lia,by lia⟩
    ·rw[Td _ _ (by lia)];have hs:=bU (ns:=((es.filter IV).map (FO ws)).take (j+1)) (b:=1000) λx hx=>hb x (Dp hx);have a3: (((es.filter IV).map (FO ws)).take (j+1)).length<=40:=by rw[BY];lia
     exact⟨by lia,by lia⟩
    ·rw[Td _ _ (AX _),Dh];exact q _ s2
inductive Ox where
 |form (g:Gx)
 |bare
 |thing (d:Dt)
def Ox.may:Ox->Prop
 |.form g=>∀es,g.fields=some es->∀e∈es,Ex.may e
 |.bare=>True
 |.thing d=>∀b,d≠ .bl b
def Ox.isForm:Ox->Bool
 |.form _=>true
 |_=>false
def Ox.few:Ox->Prop
 |.form g=>(∀es,g.fields=some es->es.length<40)/\g.gone.length<40
 |_=>True
def ia(H:Hp):Ox->V->Prop
 |.form g,v=>Jm H g v
 |.bare,v=>∃a dx fs,v= .ref a/\H a=some (.ins 613 dx fs)
 |.thing d,v=>Th H d v
theorem ia.sm{H H':Hp}(s:Sm H H'):∀{o:Ox} {v:V},ia H o v->ia H' o v
 |.form _,_,h=>Jm.sm s h
 |.bare,_,⟨a,dx,fs,e,h⟩=>⟨a,dx,fs,e,s _ _ h rfl⟩
 |.thing d,v,h=>Th.sm s d v h
def ly(c:Bool):Ex->Bool
 |.fld f=>UM f c
 |.thing _=>false
def Nt(ws:List (Bc×Int))(c:Bool)(es:List Ex)(gone:List Int):Bc:=if HQ es=false then "field"
 else if ES es gone=false then "number"
 else if (es.all λe=>JE ws (Mr e))=false then "kind"
 else if es.all (ly c)=false then "default"
 else if EK ws c es>100 then "great" else ""
def Ip(ws:List (Bc×Int)):Ox->Bc
 |.form g=>if (EH g.nam&& !gT ws g.nam)=false then "name" else if HM g=false then "many" else Nt ws g.choice (g.fields.getD []) g.gone
 |_=>"form"
def sU(ws:List (Bc×Int)):Prop:=∀p∈ws,0<=p.2/\p.2<=1000
def iG:Sp:=λvs H Q _=>∃v a o ws,vs=[v,a]/\ia H o v/\Ox.may o/\Ox.few o/\WD H ws a/\sU ws/\∀H',Be H H'->Q (.str (Ip ws o)) H'
theorem uH: ((Ah:List Bc) ++ (["form"]:List Bc)).Nodup:=by decide+kernel
theorem Xl{es:List Ex}(h:HQ es=true):∀e∈es,nB e=true:=λe a=>by
 unfold HQ at h;rw[AI]at h;have:=BM.mp h.1 e a;cases e with
 |fld f=>rfl
 |thing d=>cases this
theorem XD{es:List Ex}{c:Bool}(h:es.all (ly c)=true):∀e∈es,HS (jN e)=true:=λe a=>by
 have:=BM.mp h e a;cases e with
 |thing d=>cases this
 |fld f=>
  have h2:UM f c=true:=this;unfold UM at h2;rw[AI]at h2;exact h2.1
theorem uN(T:Tx K mg){H:Hp}{o:Ox}{v:V}(hm:o.may)(h:ia H o v):∃t b1 b2,Jl K H v t/\BR K t (.ref 627)=some b1/\BR K t (.ref 646)=some b2/\(b1||b2)=o.isForm:=by
 cases o with
 |form g=>
  obtain⟨a,dx,z,f,l,rfl,ha,_⟩:=h;cases hc:g.choice with
  |false=>rw[hc]at ha;exact⟨_,_,_,(T.hZ 10 rfl) ha,(T.q 66 rfl),(T.q 67 rfl),rfl⟩
  |true=>rw[hc]at ha;exact⟨_,_,_,(T.hZ 11 rfl) ha,(T.q 68 rfl),(T.q 69 rfl),rfl⟩
 |bare=>obtain⟨a,dx,fs,rfl,ha⟩:=h;exact⟨_,_,_,(T.hZ 9 rfl) ha,(T.q 64 rfl),(T.q 65 rfl),rfl⟩
 |thing d=>
  cases d with
  |bl b=>exact wo rfl (hm b)
  |non=>exact⟨_,_,_,Th.ty h,(T.qt 18 rfl),(T.qt 19 rfl),rfl⟩
  |int i=>exact⟨_,_,_,Th.ty h,(T.qt 22 rfl),(T.qt 23 rfl),rfl⟩
  |str z=>exact⟨_,_,_,Th.ty h,(T.qt 20 rfl),(T.qt 21 rfl),rfl⟩
  |lst l=>exact⟨_,_,_,Th.ty h,(T.qt 24 rfl),(T.qt 25 rfl),rfl⟩
  |dct=>exact⟨_,_,_,Th.ty h,(T.qt 26 rfl),(T.qt 27 rfl),rfl⟩
theorem jH(T:Tx K mg):HL.Et P w K mg base 7 717 Ag iG:=by
 have G1:=@GG P w K mg base T;have G2:=@Wo P w K mg base T;have G3:=@jz P w K mg base T;have G4:=@av P w K mg base T;have G5:=@mM P w K mg base T;have G6:=@cY P w K mg base T;have G7:=@Xh P w K mg base T;obtain⟨_,hM⟩:=(T.ui 13 rfl);refine(T.df 23 rfl).ok ZU (λvs H Q E h=>?_) (λcdv A outer s H vs Q E L h=>?_)
 ·obtain⟨v,r,o,ws,rfl,_⟩:=h;rfl
 ·obtain⟨v,r,o,ws,rfl,ho,hm,m,hw,b5,q⟩:=h;have hu:=L.units;have b7:=BS (BA (show 1<=64 by decide) _) hu;refine⟨_,Bh (BH (CK (BI (Bl (Qy K rfl) rfl T.Bv Br (Ax (pv 0) (Ax (DG (Ax (YK T.NH) (Ax (YK T.NI) AA))) AA))))) (AD (AN AQ)) Bd) (Bh (BH (PW.pt (GA (CK (BI (AW G1 (L.mono Aa) T.Gw (Ax (BF (pv 0) rfl) AA)))) (FS (pN (jv b7 (BF (pv 0) rfl) (pv 1)) rfl)))) (AD (AN AQ)) Bd) (Bh (BH (CK (BI (AW G2 (L.mono Aa) (T.d1 14 rfl λ_ _ _ _ _ _ _=>rfl) (Ax (pv 0) AA)))) (AD (AN AQ)) Bd) (Bh (BH (CK (BI (AW G3 (L.mono Aa) (T.d1 15 rfl λ_ _ _ _ _ _ _=>rfl) (Ax (BF (pv 0) rfl) AA)))) (AD (AN AQ)) Bd) (Bh (BH (CK (BI (AW G4 (L.mono Aa) (T.d1 16 rfl λ_ _ _ _ _ _ _=>rfl) (Ax (pv 0) AA)))) (AD (AN AQ)) Bd) (Bh (BH (CK (BI (Bl (Ff rfl) rfl T.Pn Mb (Ax (CJ (ts:=Ah) (xs:=["weights"]) (js:=[1]) rfl ⟨rfl,rfl,Ab,Ab,CZ rfl⟩ (.cons rfl (.inl rfl) rfl .nil) Ab (CU (BF (pv 0) rfl)) (λC s_ H_ fp=>Cb (X:=Di _ _ _ C s_ H_ fp) (i:=0) qa rfl (Bn rfl) (Cw rfl)) (λC s_ H_ fp=>CT (X:=Di _ _ _ C s_ H_ fp)) (λC s_ H_ fp=>AW (X:=Di _ _ _ C s_ H_ fp) G5 (L.mono Aa) (T.d2 18 rfl λ_ _ _ _ _ _ _ _=>rfl) (Ax (LQ (X:=Di _ _ _ C s_ H_ fp) K rfl (pv 0) rfl) (Ax (pv 1) AA)))) AA)))) (AD (AN AQ)) Bd) (Bh (BH (CK (BI (Bl (Ff rfl) rfl T.Pn Mb (Ax (CJ (ts:=Ah) (xs:=["form"]) (js:=[0]) rfl ⟨rfl,rfl,Ab,Ab,CZ rfl⟩ (.cons rfl (.inl rfl) rfl .nil) Ab (CU (BF (pv 0) rfl)) (λC s_ H_ fp=>Cb (X:=Di _ _ _ C s_ H_ fp) (i:=0) uH rfl (Bn rfl) (Cw rfl)) (λC s_ H_ fp=>CT (X:=Di _ _ _ C s_ H_ fp)) (λC s_ H_ fp=>AW (X:=Di _ _ _ C s_ H_ fp) G6 (L.mono Aa) (T.d2 20 rfl λ_ _ _ _ _ _ _ _=>rfl) (Ax (pv 0) (Ax (DS (X:=Di _ _ _ C s_ H_ fp) (P:=P) (w:=w) (K:=K) (mg:=mg) (base:=base) (k:=1) rfl rfl rfl rfl rfl (pv 1) (L.mono Aa) CL) AA)))) AA)))) (AD (AN AQ)) Bd) (Bh (BH (Bp Uf (AW G7 (L.mono Aa) T.MP (Ax (pv 0) (Ax (pv 1) AA))) (af hM) (Bw _)) (AD (AN AQ)) Bd) (AD (AN AQ))))))))),?_⟩;refine Cq (λb H'=>b=[some v,some r]/\Be H H'/\o.isForm=true) ?_ ?_
  ·refine⟨_,rfl,zl 2,λp hp=>?_⟩;have s1:=By (H:=H) (u:=.tup [.ref 627,.ref 646]) hp;obtain⟨t,b1,b2,ty,h1,h2,hb⟩:=uN T hm (ho.sm (Sm.of s1));refine⟨v,p,t,_,[627,646],rfl,AC,ty,jV h1 h2,_,rfl,?_⟩;rw[hb];cases hf:o.isForm with
   |true=>exact Ch ⟨rfl,s1,rfl⟩
   |false=>
    have:Ip ws o="form":=by
     cases o with
     |form g=>cases hf
     |bare=>rfl
     |thing d=>rfl
    rw[this]at q;exact CY (q _ s1)
  rintro b H1 ⟨rfl,s1,hf⟩;cases o with
  |bare=>cases hf
  |thing d=>cases hf
  |form g=>
  have b8:=ho;obtain⟨a,dx,z,f,gl,rfl,ha,hn,a7,hgl⟩:=b8;have G:=IS T g.choice;have a0:∀{H':Hp},Be H H'->Jm H' g (.ref a):=λs=>Jm.sm (Sm.of s) ho;have W:∀H',Be H H'->Q (.str (if (EH g.nam&& !gT ws g.nam)=false then "name" else if HM g=false then "many" else Nt ws g.choice (g.fields.getD []) g.gone)) H':=q
  refine Cq (λb H'=>b=[some (.ref a),some r]/\Be H H'/\(EH g.nam&& !gT ws g.nam)=true) ?_ ?_
  ·refine⟨_,rfl,a,_,dx,_,_,rfl,s1 _ _ ha,G.cl,G.n1,rfl,z,g.nam,rfl,Th.sm (Sm.of s1) _ _ hn,λH2 s2=>⟨_,rfl,?_⟩⟩;have B:=s1.trans s2;cases hnm:EH g.nam with
   |false=>
    have:=W _ B;rw[hnm,Cu,wm rfl]at this;exact CY this
   |true=>
    obtain⟨zz,a4⟩:=Ni hnm;rw[a4]at hn;obtain⟨rfl,_⟩:=hn;obtain⟨wa,rfl,b6⟩:=hw;refine Ch ⟨_,rfl,a,_,dx,_,_,rfl,B _ _ ha,G.cl,G.n1,rfl,_,rfl,wa,_,rfl,Hf.k (k:=.inr zz) (B _ _ b6),_,rfl,?_⟩;rw[aR,show(Pl ws zz).isSome=gT ws g.nam by rw[a4];rfl];cases hi:gT ws g.nam with
    |true=>
     have:=W _ B;rw[hnm,hi,wm (show(true&& !true)=false from rfl)]at this;exact CY this
    |false=>exact Ch ⟨rfl,B,rfl⟩
  rintro b H2 ⟨rfl,s2,hnm⟩;rw[hnm,wk Aa]at W;refine Cq (λb H'=>b=[some (.ref a),some r]/\Be H H'/\HM g=true) ?_ ?_
  ·refine⟨_,rfl,_,g,rfl,a0 s2,λes he=>IL (m.1 es he) Aa,IL m.2 Aa,_,rfl,?_⟩;cases hsz:HM g with
   |false=>
    have:=W _ s2;rw[hsz,wm rfl]at this;exact CY this
   |true=>exact Ch ⟨rfl,s2,rfl⟩
  rintro b H3 ⟨rfl,s3,hsz⟩;rw[hsz,wk Aa]at W;cases c:g.fields with
  |none=>unfold HM at hsz;rw[c]at hsz;cases hsz
  |some es=>
  have N:=hm es c;have l:=m.1 es c;have hne:g.choice=true->es≠[]:=λhc he=>by
   unfold HM at hsz;rw[c,hc,he]at hsz;cases hsz
  rw[c]at a7 W;obtain⟨p,xs,rfl,hp,Z⟩:=a7;have O:es.length=xs.length:=Z.length;have n:∀H',Be H H'->Q (.str (Nt ws g.choice es g.gone)) H':=W;unfold Nt at n;refine Cq (λb H'=>b=[some (.ref a),some r]/\Be H H'/\HQ es=true) ?_ ?_
  ·refine⟨_,rfl,a,_,dx,_,_,rfl,s3 _ _ ha,G.cl,G.n2,rfl,p,xs,es,rfl,s3 _ _ hp,Es.sm (Sm.of s3) Z,N,by lia,λH4 s4=>⟨_,rfl,?_⟩⟩;cases hnd:HQ es with
   |false=>
    have:=n _ (s3.trans s4);rw[hnd,wm rfl]at this;exact CY this
   |true=>exact Ch ⟨rfl,s3.trans s4,rfl⟩
  rintro b H4 ⟨rfl,s4,hnd⟩;rw[hnd,wk Aa]at n;have F:=Xl hnd;refine Cq (λb H'=>b=[some (.ref a),some r]/\Be H H'/\ES es g.gone=true) ?_ ?_
  ·refine⟨_,rfl,_,g,es,rfl,a0 s4,c,F,l,m.2,λH5 J=>⟨_,rfl,?_⟩⟩;cases Y:ES es g.gone with
   |false=>
    have:=n _ (s4.trans J);rw[Y,wm rfl]at this;exact CY this
   |true=>exact Ch ⟨rfl,s4.trans J,rfl⟩
  rintro b H5 ⟨rfl,J,Y⟩;rw[Y,wk Aa]at n;have M:∀(j:Nat) (y:V) (H':Hp),Be H H'->xs[j]?=some y->∃f,es[j]?=some (.fld f)/\Ms H' f y:=λj y H' s' hy=>by
   obtain⟨e,U,b3⟩:=Hz Z j y hy;have h1:=F e (AY U);cases e with
   |thing d=>cases h1
   |fld f=>exact⟨f,U,XR.sm (Sm.of s') (e:=.fld f) b3⟩
  refine Cq (λb H'=>b=[some (.ref a),some r]/\Be H H'/\(es.all λe=>JE ws (Mr e))=true) ?_ ?_
  ·refine⟨_,rfl,a,_,dx,_,_,rfl,J _ _ ha,G.cl,G.n2,rfl,p,rfl,⟨_,Cj.of (J _ _ hp)⟩,Dc (Wk.list (Cj.of (J _ _ hp))) (by lia) (λj=>.bl (match es[j]? with|some e=>JE ws (Mr e)|none=>false)) (λj y hy H6 R x hR=>?_) (λD H6 hD x e6=>?_)⟩
   ·have a2:=J.trans x;obtain⟨f,U,hF⟩:=M j y H6 a2 hy;rw[U]at hR;have b9:f.kind.may:=N _ (AY U);obtain⟨a',c5,n',z',k',m',d',rfl,c2,h1,h2,h3,h4,h5⟩:=hF;exact⟨Sub.set rfl,_,rfl,a',_,c5,_,_,rfl,c2,T.Ce,T.DN,rfl,_,rfl,k',r,f.kind,ws,rfl,b9,h3,hw.sm (Sm.of a2),hR⟩
   ·refine⟨D,(Bm xs.length).map λj=>(match es[j]? with|some e=>JE ws (Mr e)|none=>false),rfl,by rw[Bi];exact e6,_,rfl,?_⟩;rw[<-O,Jn es (λe=>JE ws (Mr e)) _ (λi d hd=>by rw[hd])];cases hA:es.all λe=>JE ws (Mr e)with
    |false=>
     have:=n _ (J.trans x);rw[hA,wm rfl]at this;exact CY this
    |true=>exact Ch ⟨rfl,J.trans x,rfl⟩
  rintro b H6 ⟨rfl,x,a6⟩;rw[a6,wk Aa]at n;have S:=BM.mp a6;refine Cq (λb H'=>b=[some (.ref a),some r]/\Be H H'/\es.all (ly g.choice)=true) ?_ ?_
  ·refine⟨_,rfl,a,_,dx,_,_,rfl,x _ _ ha,G.cl,G.n2,rfl,p,rfl,⟨_,Cj.of (x _ _ hp)⟩,Dc (Wk.list (Cj.of (x _ _ hp))) (by lia) (λj=>.bl (match es[j]? with|some e=>ly g.choice e|none=>false)) (λj y hy H7 R I hR=>?_) (λD H7 hD I e7=>?_)⟩
   ·have a1:=x.trans I;obtain⟨f,U,hF⟩:=M j y H7 a1 hy;rw[U]at hR;have c0:f.kind.fine:=Xo (ws:=ws) (S _ (AY U));exact⟨Sub.set rfl,_,rfl,_,rfl,a,_,dx,_,_,rfl,a1 _ _ ha,rfl,NU T g.choice,_,rfl,y,f,g.choice,rfl,hF,c0,hR⟩
   ·refine⟨D,(Bm xs.length).map λj=>(match es[j]? with|some e=>ly g.choice e|none=>false),rfl,by rw[Bi];exact e7,_,rfl,?_⟩;rw[<-O,Jn es (ly g.choice) _ (λi d hd=>by rw[hd])];cases hA:es.all (ly g.choice)with
    |false=>
     have:=n _ (x.trans I);rw[hA,wm rfl]at this;exact CY this
    |true=>exact Ch ⟨rfl,x.trans I,rfl⟩
  rintro b H7 ⟨rfl,I,a8⟩;rw[a8,wk Aa]at n;refine Cq (λb H'=>b=[some (.ref a),some r]/\Be H H'/\¬EK ws g.choice es>100) ?_ ?_
  ·refine⟨_,rfl,_,rfl,_,r,g,es,ws,rfl,a0 I,c,hw.sm (Sm.of I),⟨F,S,XD a8,b5⟩,l,hne,λH8 s8=>⟨_,_,rfl,rfl,_,rfl,FT (λh=>?_) (λh=>?_)⟩⟩
   ·have:=n _ (I.trans s8);rw[wm (wj h)]at this;exact this
   ·exact⟨rfl,I.trans s8,λz=>h (wg z)⟩
  rintro b H8 ⟨rfl,s8,b4⟩;rw[wk b4]at n;exact n _ s8
theorem FN{n:Nat}(h:n<=1000):n<=sizeLine:=Gs (DC h)
theorem Xv{K:AF}{l:AE}{xs:List V}{g:TG}{tb:TS}{D:WL}{σ:L2.St}{H:Hp}(Pv:Nat->L2.St->Hp->Prop)(h0:Pv 0 σ H)(j:∀i σ H,i<=xs.length->Pv i σ H->Cj K H l xs)(hs:∀i x T σ H,xs[i]?=some x->Pv i σ H->H T=none->g (.ref T) σ (upd H T (.tup [.int (i:Nat),x])) λa H2=>tb {D with nx:=Pv (i+1),ct:=Pv (i+1),bk:=D.nx} a H2)(hd:∀σ H,Pv xs.length σ H->D.nx σ H):
  ∃W:Nat->Nat->L2.St->Hp->Prop,(∃m,W 0 m σ H)/\∀i m σ H,W i m σ H->((dJ K l).stop i H/\D.nx σ H)\/((dJ K l).go i H/\∃N:L2.St->Hp->Prop,(∀b H',N b H'->∃f,f<m/\W (i+1) f b H')/\∀x H',(dJ K l).yld i H x H'->g x σ H' λa H2=>tb {D with nx:=N,ct:=N,bk:=D.nx} a H2):=by
 refine⟨λi m σ H=>m=xs.length - i/\i<=xs.length/\Pv i σ H,⟨xs.length,by simp,Ci _,h0⟩,?_⟩;rintro i m σ H ⟨rfl,hi,p⟩;have d:=j i σ H hi p;by_cases c:i<xs.length
 ·refine .inr ⟨⟨xs,xs[i],d,Az c⟩,Pv (i+1),λb H' h=>⟨xs.length - (i+1),by lia,rfl,c,h⟩,λx H' y=>?_⟩;obtain⟨T,x,rfl,k,rfl,hc⟩:=y;exact hs i x T σ _ (hc _ d) p k
 ·have e:i=xs.length:=by lia
  subst e;exact .inl ⟨⟨xs,d,rfl⟩,hd σ H p⟩
def jM:Ox->Bc
 |.form g=>Ym g.nam
 |_=>""
def Yi(ws:List (Bc×Int)):Ox->Int
 |.form g=>EK ws g.choice (g.fields.getD [])
 |_=>0
def nN:Ox->Bool
 |.form g=>g.choice
 |_=>false
def gX:List Ox->List (Bc×Int)->Nat->(Nat×Bc) ⊕ List (Bc×Int)
 |[],ws,_=>.inr ws
 |o::r,ws,p=>if Ip ws o="" then gX r (ws++[(jM o,Yi ws o)]) (p+1)else .inl (p,Ip ws o)
def Nu(os:List Ox): (Nat×Bc) ⊕ List (Bc×Int):=match gX os [] 0 with
 |.inl e=>.inl e
 |.inr ws=>if (os.getLast?.map nN).getD false then .inl (os.length - 1,"head")else .inr ws
def lN:Sp:=λvs H Q _=>∃l xs os ws,vs=[.ref l]/\H l=some (.lst xs)/\Paired (ia H) os xs/\(∀o∈os,Ox.may o/\Ox.few o)/\0<os.length/\os.length<=8/\Nu os= .inr ws/\∀a H',Be H H'->H' a=some (.dK (wK ws))->Q (.ref a) H'
theorem UJ{ws:List (Bc×Int)}{o:Ox}(h:Ip ws o=""):∃g es z,o= .form g/\g.fields=some es/\g.nam= .str z/\Fa z=true/\Pl ws z=none/\HM g=true/\HQ es=true/\ES es g.gone=true/\(es.all λe=>JE ws (Mr e))=true/\es.all (ly g.choice)=true/\EK ws g.choice es<=100:=by
 have ne:∀{a b:Bc},a=b->a≠b->False:=λh n=>n h;cases o with
 |bare=>exact(ne (show("form" :Bc)="" from h) Ab).elim
 |thing d=>exact(ne (show("form" :Bc)="" from h) Ab).elim
 |form g=>
  have h': (if (EH g.nam&& !gT ws g.nam)=false then "name" else if HM g=false then "many" else Nt ws g.choice (g.fields.getD []) g.gone:Bc)="":=h
  by_cases q: (EH g.nam&& !gT ws g.nam)=false
  ·rw[wm q]at h';exact(ne h' Ab).elim
  rw[wk q]at h';by_cases m:HM g=false
  ·rw[wm m]at h';exact(ne h' Ab).elim
  rw[wk m]at h';unfold Nt at h';by_cases l:HQ (g.fields.getD [])=false
  ·rw[wm l]at h';exact(ne h' Ab).elim
  rw[wk l]at h';by_cases k:ES (g.fields.getD []) g.gone=false
  ·rw[wm k]at h';exact(ne h' Ab).elim
  rw[wk k]at h';by_cases j: ((g.fields.getD []).all λe=>JE ws (Mr e))=false
  ·rw[wm j]at h';exact(ne h' Ab).elim
  rw[wk j]at h';by_cases i: (g.fields.getD []).all (ly g.choice)=false
  ·rw[wm i]at h';exact(ne h' Ab).elim
  rw[wk i]at h';by_cases p:EK ws g.choice (g.fields.getD []) >100
  ·rw[wm p]at h';exact(ne h' Ab).elim
  have f:∀{b:Bool},¬b=false->b=true:=λh=>by simpa using h
  have c:=f q;rw[AI]at c;obtain⟨z,hz⟩:=Ni c.1;cases hf:g.fields with
  |none=>have:=f m;unfold HM at this;rw[hf]at this;cases this
  |some es=>
   rw[hf]at l k j i p;refine⟨g,es,z,rfl,hf,hz,?_,?_,f m,f l,f k,f j,f i,Int.not_lt.mp p⟩
   ·have:=c.1;rw[hz]at this;exact this
   ·have:=c.2;rw[hz]at this;cases hw:Pl ws z with
    |none=>rfl
    |some n=>
     have e:gT ws (.str z)=true:=by show(Pl ws z).isSome=true;rw[hw];rfl
     rw[e]at this;cases this
theorem bL{ws:List (Bc×Int)}{c:Bool}{es:List Ex}(h:tJ ws es)(hne:c=true->es≠[]):0<=EK ws c es:=by
 unfold EK;cases c with
 |true=>
  show 0<=1+Uv (es.map (FO ws));have:=Qg (l:=es.map (FO ws)) (λz=>hne rfl (HH.mp z));obtain⟨e,d,f⟩:=Bg.mp this;have:=YQ h d
  lia
 |false=>
  show 0<=1+ ((es.filter IV).map (FO ws)).sum;have:=bU (ns:=(es.filter IV).map (FO ws)) (b:=1000) λx hx=>by
   obtain⟨e,a,rfl⟩:=Bg.mp hx;exact YQ h (Eh.mp a).1
  lia
theorem ey{g:Gx}{es:List Ex}(h:HM g=true)(hf:g.fields=some es):g.choice=true->es≠[]:=λhc a=>by
 unfold HM at h;rw[hf,hc,a]at h;cases h
theorem ph{ws:List (Bc×Int)}{z:Bc}{n:Int}(h:Pl ws z=none):JQ (wK ws) (.inr z) (.int n)=wK (ws++[(z,n)]):=by
 rw[je _ (by rw[Yj,h];rfl)];unfold wK;rw[Ck];rfl
theorem aT(o:Ox)(r:List Ox)(ws:List (Bc×Int))(p:Nat):gX (o::r) ws p=if Ip ws o="" then gX r (ws++[(jM o,Yi ws o)]) (p+1)else .inl (p,Ip ws o):=rfl
theorem fk:∀{os:List Ox} {ws b:List (Bc×Int)} {p:Nat},gX os ws p= .inr b->∀o∈os,∃g,o= .form g
 |[],_,_,_,_,o,ho=>wo ho (BL)
 |a::r,ws,b,p,h,o,ho=>by
  unfold gX at h;by_cases c:Ip ws a=""
  ·rw[wm c]at h;rcases AU.mp ho with rfl|ho
   ·obtain⟨g,_,_,e,_⟩:=UJ c;exact⟨g,e⟩
   ·exact fk h o ho
  ·rw[wk c]at h;cases h
theorem Qk{xs:List V}(h:0<xs.length):XM xs (-1)=some (xs[xs.length - 1]'(by lia)):=by
 have e:oO xs.length (-1)=some (xs.length - 1):=by
  unfold oO;rw[wk Aa,wm (by lia)];exact wn some (by lia)
 unfold XM;rw[e];exact Az (by lia)
theorem mH(T:Tx K mg):HL.Et P w K mg base 8 724 ["forms"] lN:=by
 have GF:=@jH P w K mg base T;have GW:=@Xh P w K mg base T;refine(T.df 24 rfl).ok GZ (λvs H Q E h=>?_) (λcdv A outer s H vs Q E S h=>?_)
 ·obtain⟨l,xs,os,W,rfl,_⟩:=h;rfl
 ·obtain⟨l,xs,os,W,rfl,hl,ho,hm,h0,h8,G,q⟩:=h;have hu:=S.units;have a0:=BS (BA (show 1<=64 by decide) _) hu;have B:os.length=xs.length:=ho.length;refine⟨_,AV (BV (i:=1) GZ.nd rfl (Bn rfl) aj) (Bh (JA DT rfl (ae rfl T.RO (pv 0)) (Ue rfl (n:=2) (Ha (Cb (i:=2) GZ.nd rfl (Bn rfl)) (Ha (Cb (i:=3) GZ.nd rfl (Bn rfl)) PV))) (Bh (BV (i:=4) GZ.nd rfl (Bn rfl) (AW GF (S.mono Aa) (T.d2 23 rfl λ_ _ _ _ _ _ _ _=>rfl) (Ax (pv 3) (Ax (pv 1) AA)))) (AV (BH (Bp Ih (pv 4) AQ (Bw _)) (AD IG) Bd) (AD (Tc a0 (pv 1) (BF (pv 3) rfl) (AW GW (S.mono Aa) T.MP (Ax (pv 3) (Ax (pv 1) AA))) rfl))))) (AV (BH (BI (DS (P:=P) (w:=w) (K:=K) (mg:=mg) (base:=base) (k:=1) rfl rfl rfl rfl rfl (Cp CM (pv 0) (PX Lz AH) (λ_ _=>rfl)) (S.mono Aa) CL)) (AD IG) Bd) (AD (AN (pv 1))))),?_⟩;refine λj N=>?_;have s0:Be H (upd H j (.dK [])):=By N;refine Cq (λb H'=>∃F D v4,b=[some (.ref l),some (.ref j),F,D,v4]/\Be H H'/\∃ws,gX os [] 0= .inr ws/\H' j=some (.dK (wK ws))) ?_ ?_
  ·refine⟨_,rfl,l,rfl,⟨_,Cj.of (s0 _ _ hl)⟩,?_⟩;refine Xv (xs:=xs) (λi b H'=>∃F D v4,b=[some (.ref l),some (.ref j),F,D,v4]/\Be H H'/\∃ws,gX (os.drop i) ws i=gX os [] 0/\H' j=some (.dK (wK ws))/\sU ws/\ws.length=i) ⟨none,none,none,rfl,s0,[],rfl,AC,λp hp=>wo hp BL,rfl⟩ (λi b H' _ h=>by obtain⟨_,_,_,_,s',_⟩:=h;exact Cj.of (s' _ _ hl)) (λi x Tt b H1 hx h hT=>?_) (λb H' h=>?_)
   ·obtain⟨F,D,v4,rfl,s1,ws,e,c,r,hwl⟩:=h;obtain⟨o,v,t⟩:=Hz ho i x hx;have hi:i<os.length:=(AO.mp v).1;obtain⟨R,C⟩:=hm o (AY v);have ed:os.drop i=o::os.drop (i+1):=by
     rw[Fu hi];have:os[i]'hi=o:=by rw[Az hi]at v;exact Ba v
     rw[this]
    have s2:=s1.trans (By (u:=.tup [.int (i:Nat),x]) hT);have f:upd H1 Tt (.tup [.int (i:Nat),x]) j=some (.dK (wK ws)):=by rw[Bb (Bt c hT)];exact c
    refine⟨Tt,_,rfl,DW.of AC,rfl,_,_,rfl,_,_,rfl,rfl,?_⟩;revert s2 f;generalize upd H1 Tt (.tup [.int (i:Nat),x])=H2;intro s2 f;refine Cq (λb H'=>b=[some (.ref l),some (.ref j),some (.int (i:Nat)),some x,some (.str (Ip ws o))]/\Be H H'/\H' j=some (.dK (wK ws))) ?_ ?_
    ·exact⟨_,rfl,_,rfl,x,_,o,ws,rfl,t.sm (Sm.of s2),R,C,⟨j,rfl,f⟩,r,λH3 L=>⟨rfl,s2.trans L,L _ _ f⟩⟩
    rintro b H3 ⟨rfl,L,y⟩;have d:gX (o::os.drop (i+1)) ws i=gX os [] 0:=by rw[<-ed];exact e
    rw[aT]at d;refine⟨_,rfl,rfl,_,rfl,?_⟩;by_cases hf:Ip ws o=""
    ·rw[wm hf]at d;rw[hf,show(!decide (V.str ""=V.str ""))=false from rfl];obtain⟨g,es,z,rfl,m,hnm,b4,Z,hsz,hnd,b3,a2,a3,b1⟩:=UJ hf;have hG:Jm H3 g x:=Jm.sm (Sm.of L) t;have J:tJ ws es:=⟨Xl hnd,BM.mp a2,XD a3,r⟩;refine Ch ⟨_,rfl,_,rfl,x,_,g,es,ws,rfl,hG,m,⟨j,rfl,y⟩,J,C.1 es m,ey hsz m,λH4 s4=>?_⟩;have U:=L.trans s4;have M:=s4 _ _ y;obtain⟨a,dx,zv,fv,gl,rfl,ha,hn,_⟩:=Jm.sm (Sm.of s4) hG;have fc:=IS T g.choice;rw[hnm]at hn;obtain rfl:zv=V.str z:=hn.1;have ek:JQ (wK ws) (.inr z) (.int (EK ws g.choice es))=wK (ws++[(z,EK ws g.choice es)]):=ph Z;refine⟨_,rfl,_,rfl,a,_,dx,_,_,rfl,ha,fc.cl,fc.n1,rfl,j,_,rfl,bD.k (k:=.inr z) M ?_,_,_,_,rfl,?_,ws++[(z,EK ws g.choice es)],?_,?_,?_,?_⟩
     ·show(wK ws).length<sizeLine;unfold wK;rw[Ay,hwl];exact DC (by lia)
     ·exact U.put N
     ·have e1:jM (.form g)=z:=by show Ym g.nam=z;rw[hnm];rfl
      have e2:Yi ws (.form g)=EK ws g.choice es:=by show EK ws g.choice (g.fields.getD [])=_;rw[m];rfl
      rw[e1,e2]at d;exact d
     ·rw[AC,ek]
     ·intro p hp;rcases BZ.mp hp with hp|hp
      ·exact r p hp
      ·rw[AM.mp hp];exact⟨bL J (ey hsz m),by show EK ws g.choice es<=1000;lia⟩
     ·rw[AZ,hwl];rfl
    ·rw[wk hf]at d;have hd: (!decide (V.str (Ip ws o)=V.str ""))=true:=by
      rw[wh (λz=>hf (V.str.inj z))];rfl
     rw[hd];have eB:Nu os= .inl (i,Ip ws o):=by unfold Nu;rw[<-d]
     rw[eB]at G;cases G
   ·obtain⟨F,D,v4,rfl,s1,ws,e,c,r,hwl⟩:=h;rw[<-B,List.drop_length]at e;exact⟨F,D,v4,rfl,s1,ws,e.symm,c⟩
  ·rintro b H1 ⟨F,D,v4,rfl,s1,ws,e,c⟩;have Y:0<xs.length:=by lia
   have X:xs[xs.length - 1]?=some (xs[xs.length - 1]'(by lia)):=Az (by lia);obtain⟨o,O,t⟩:=Hz ho (xs.length - 1) _ X;obtain⟨g,rfl⟩:=fk e o (AY O);have I:os.getLast?=some (.form g):=by rw[Ek,B];exact O
   have eB:Nu os=if g.choice then .inl (os.length - 1,"head")else .inr ws:=by
    unfold Nu;rw[e,I];rfl
   rw[eB]at G;obtain⟨a,dx,zv,fv,gl,ea,ha,_⟩:=Jm.sm (Sm.of s1) t;refine⟨_,rfl,_,rfl,l,_,_,_,rfl,rfl,Cj.of (s1 _ _ hl),Qk Y,a,_,dx,_,_,ea,ha,rfl,NU T g.choice,_,rfl,_,rfl,?_⟩;cases hc:g.choice with
   |true=>
    rw[hc]at G;cases G
   |false=>
    rw[hc]at G;obtain rfl:ws=W:=Sum.inr.inj G;exact Ch ⟨_,rfl,q j H1 s1 c⟩
def vx:HO->Bool
 |.tbl _=>false
 |.ins C _ _=>!(C==755)
 |_=>true
def Sb(H H':Hp):Prop:=∀a o,H a=some o->vx o=true->H' a=some o
theorem Sb.sf{H H':Hp}(s:Sb H H'):Sf H H':=λa o e n=>s a o e (by
 cases o with
 |ins C dx fs=>
  have b: (!(C==613||C==627||C==646||C==755))=true:=n;show(!(C==755))=true;simp only[Bool.not_or,AI]at b;exact b.2
 |_=>first|rfl|cases n)
theorem Sb.upd{H:Hp}{x:AE}{o u:HO}(hx:H x=some o)(n:vx o=false):Sb H (upd H x u):=λa v e m=>by
 rw[Bb]
 ·exact e
 ·rintro rfl;rw[hx]at e;cases e;rw[n]at m;cases m
theorem Jm.sb{H H':Hp}(s:Sb H H'){g:Gx}{v:V}:Jm H g v->Jm H' g v:=λb=>by
 obtain⟨a,dx,z,f,l,e,h,h1,h2,h3⟩:=b;exact⟨a,dx,z,f,l,e,s _ _ h (by cases g.choice <;> rfl),Th.sn s.sf.sn _ _ h1,h2.sf s.sf,s _ _ h3 rfl⟩
theorem ia.sb{H H':Hp}(s:Sb H H'):∀{o:Ox} {v:V},ia H o v->ia H' o v
 |.form _,_,h=>Jm.sb s h
 |.bare,_,⟨a,dx,fs,e,h⟩=>⟨a,dx,fs,e,s _ _ h rfl⟩
 |.thing d,v,h=>Th.sn s.sf.sn d v h
def Os(H:Hp)(os:List Ox)(xs:List V):Prop:=Paired (ia H) os xs
theorem Os.sm{H H':Hp}(s:Sm H H'){os:List Ox}{xs:List V}(h:Os H os xs):Os H' os xs:=Paired.mapP h λ_ _ z=>ia.sm s z
theorem Os.sb{H H':Hp}(s:Sb H H'){os:List Ox}{xs:List V}(h:Os H os xs):Os H' os xs:=Paired.mapP h λ_ _ z=>ia.sb s z
def pa(H:Hp)(xs:List V)(ws:List (Bc×Int))(v:V):Prop:=∃a dx l b,v= .ref a/\H a=some (.ins 755 dx [("forms",.ref l),("weights",.ref b)])/\H l=some (.lst xs)/\H b=some (.dK (wK ws))
def Zo(H0 H:Hp)(xs:List V)(ws:List (Bc×Int))(v:V):Prop:=∃a dx l b,v= .ref a/\H a=some (.ins 755 dx [("forms",.ref l),("weights",.ref b)])/\H l=some (.lst xs)/\H b=some (.dK (wK ws))/\H0 l=none
theorem Zo.isB{H0 H:Hp}{xs:List V}{ws:List (Bc×Int)}{v:V}:Zo H0 H xs ws v->pa H xs ws v:=λb=>by
 obtain⟨a,dx,l,c,e,h1,h2,h3,_⟩:=b;exact⟨a,dx,l,c,e,h1,h2,h3⟩
theorem Zo.back{H0 H1 H:Hp}(s:Be H0 H1){xs:List V}{ws:List (Bc×Int)}{v:V}:Zo H1 H xs ws v->Zo H0 H xs ws v:=λb=>by
 obtain⟨a,dx,l,c,e,h1,h2,h3,d⟩:=b;exact⟨a,dx,l,c,e,h1,h2,h3,s.free d⟩
def ew(K:AF):Sp:=λvs H Q _=>∃x dx l xs os ws,vs=[.ref x,.ref l]/\H x=some (.ins 755 dx [])/\H l=some (.lst xs)/\Os H os xs/\(∀o∈os,Ox.may o/\Ox.few o)/\0<os.length/\os.length<=8/\Nu os= .inr ws/\∀H',tP x H H'->Zo H H' xs ws (.ref x)->Q .non H'
theorem Qe(T:Tx K mg):HL.Et P w K mg base 9 738 ["self","forms"] (ew K):=by
 have I:=@EZ P w K mg base T;have G:=@mH P w K mg base T;obtain⟨_,B⟩:=(T.ui 9 rfl);refine(T.mf 33 rfl).ok YD (λvs H Q E h=>?_) (λcdv A outer s H vs Q E y h=>?_)
 ·obtain⟨x,dx,l,xs,os,ws,rfl,_⟩:=h;rfl
 ·obtain⟨x,dx,l,xs,os,ws,rfl,hx,r,ho,hm,h0,D,C,q⟩:=h;refine⟨_,Bh (BH (PW.pt (GA (CK (BI (Bl (BC K rfl) rfl T.Bv Br (Ax (pv 1) (Ax (QV T.Ho FU) AA))))) (FS (CK (BI (AW I (y.mono Aa) T.EC (Ax (Bl Cs (by rfl) T.Fy Eg (Ax (pv 1) AA)) (Ax AH (Ax (af B) AA))))))))) (AD IG) Bd) (AV (Gn (pv 0) (Ee HX rfl T.Ho FU (Ax (pv 1) AA)) rfl) (AD (Gn (pv 0) (AW G (y.mono Aa) (T.d1 24 rfl λ_ _ _ _ _ _ _=>rfl) (Ax (BF (pv 0) rfl) AA)) rfl))),?_⟩;have t:∀n:Nat,QE (.int (n:Int)) 1 8=(decide (1<=n) &&decide (n<=8)):=λn=>by
   show(decide ((1:Int)<= (n:Int)) &&decide ((n:Int)<=8))=_;congr 1 <;> exact decide_eq_decide.mpr (by lia)
  have z:os.length=xs.length:=XW ho;refine Cq (λd H'=>d=[some (.ref x),some (.ref l)]/\H=H') ?_ ?_
  ·refine⟨_,rfl,.ref l,.ty "list",_,_,_,rfl,.lst r,rfl,T.FM,_,rfl,Ch ⟨_,rfl,l,_,rfl,.inl (Cj.of r),_,.int _,_,_,rfl,rfl,_,rfl,?_⟩⟩;rw[t,show(decide (1<=xs.length) &&decide (xs.length<=8))=true by
    rw[AI];exact⟨wg (by lia),wg (by lia)⟩]
   exact Ch ⟨rfl,rfl⟩
  rintro d H0 ⟨rfl,rfl⟩;refine⟨_,rfl,l,xs,rfl,.inl (Cj.of r),λl2 a=>⟨_,rfl,x,_,dx,_,rfl,By a _ _ hx,T.Hi,T.FP,Aa,?_⟩⟩;have k:upd H l2 (.lst xs) x=some (.ins 755 dx []):=By a _ _ hx;have F:tP x H (upd (upd H l2 (.lst xs)) x (.ins 755 dx [("forms",.ref l2)])):=λb o j e=>by rw[Bb j];exact By a _ _ e
  have sb:Sb (upd H l2 (.lst xs)) (upd (upd H l2 (.lst xs)) x (.ins 755 dx [("forms",.ref l2)])):=Sb.upd k rfl;have p:=Os.sb sb (Os.sm (Sm.of (By (u:=.lst xs) a)) ho);have c:upd (upd H l2 (.lst xs)) x (.ins 755 dx [("forms",.ref l2)]) l2=some (.lst xs):=sb _ _ AC rfl;have i:upd (upd H l2 (.lst xs)) x (.ins 755 dx [("forms",.ref l2)]) x=some (.ins 755 dx [("forms",.ref l2)]):=AC;refine⟨_,rfl,x,_,dx,_,_,rfl,i,T.Hi,T.FP,rfl,l2,xs,os,ws,rfl,c,p,hm,h0,D,C,λv H' s' m=>?_⟩
  ·have g:=s' _ _ i;refine⟨_,rfl,x,_,dx,_,rfl,g,T.Hi,T.ML,by show 1<1000;decide,?_⟩;have f:Sb H' (upd H' x (.ins 755 dx [("forms",.ref l2),("weights",.ref v)])):=Sb.upd g rfl;refine q _ (λb o j e=>?_) ⟨x,dx,l2,v,rfl,AC,f _ _ (s' _ _ c) rfl,f _ _ m rfl,a⟩;rw[Bb j];exact s' _ _ (F b o j e)
def lR:Sp:=λvs H Q _=>∃v xs ws x,vs=[v]/\pa H xs ws v/\xs.getLast?=some x/\Q x H
theorem mN(T:Tx K mg):HL.Et P w K mg base 1 752 Aq lR:=by
 refine(T.mf 35 rfl).ok YE (λvs H Q E h=>?_) (λcdv A outer s H vs Q E g h=>?_)
 ·obtain⟨v,xs,ws,x,rfl,_⟩:=h;rfl
 ·obtain⟨v,xs,ws,x,rfl,⟨a,dx,l,f,rfl,ha,d,c⟩,hx,q⟩:=h;refine⟨_,AD (AN (Cp CM (BF (pv 0) rfl) (PX Lz AH) (λ_ _=>rfl))),?_⟩;have b:0<xs.length:=Kh.mpr (λz=>by rw[z]at hx;cases hx);have e:xs[xs.length - 1]'(by lia)=x:=by
   rw[Ek,Az (by lia)]at hx;exact Ba hx
  exact⟨_,rfl,a,_,dx,_,_,rfl,ha,T.Hi,T.FP,rfl,_,rfl,l,_,_,_,rfl,rfl,Cj.of d,Qk b,by rw[e];exact q⟩
def cj:Sp:=λvs H Q _=>∃v u xs ws g z n,vs=[v,u]/\pa H xs ws v/\Jm H g u/\g.nam= .str z/\Pl ws z=some n/\Q (.int n) H
theorem cZ(T:Tx K mg):HL.Et P w K mg base 1 766 ["book","form"] cj:=by
 refine(T.df 25 rfl).ok gr (λvs H Q E h=>?_) (λcdv A outer s H vs Q E m h=>?_)
 ·obtain⟨v,u,xs,ws,g,z,n,rfl,_⟩:=h;rfl
 ·obtain⟨v,u,xs,ws,g,z,n,rfl,⟨a,dx,l,i,rfl,ha,p,c⟩,⟨b,o,e,f,gl,rfl,hb,hn,_⟩,hz,hw,q⟩:=h;have j:=m.units;have d:=IS T g.choice;rw[hz]at hn;obtain rfl:e=V.str z:=hn.1;refine⟨_,AD (AN (BK (BS (BA Aa _) j) (BF (pv 0) rfl) (BF (pv 1) rfl) (λ_ _=>rfl))),?_⟩;refine⟨_,rfl,a,_,dx,_,_,rfl,ha,T.Hi,T.ML,rfl,_,rfl,b,_,o,_,_,rfl,hb,d.cl,d.n1,rfl,i,.int n,rfl,?_,q⟩;have:=Hf.k (k:=.inr z) c;rw[Yj,hw]at this;exact this
theorem bW{x y:Bc}(h:x.cps.toList=y.cps.toList):x=y:=by
 obtain⟨⟨l⟩⟩:=x;obtain⟨⟨m⟩⟩:=y;cases (show l=m from h);rfl
theorem lb:Zp.cps.toList=[97,98,99,100,101,102,103,104,105,106,107,108,109,110,111,112,113,114,115,116,117,118,119,120,121,122]:=by decide+kernel
theorem nh{c:Nat}(h1:97<=c)(h2:c<=122):ka Zp c=true:=by
 have all:∀m:Fin 26,ka Zp (97+m.val)=true:=by decide+kernel
 rw[<-Nat.add_sub_cancel' h1];exact all ⟨c - 97,by lia⟩
abbrev sg(z:Bc):List Nat:=z.cps.toList
theorem Gy(z:Bc): (sg z).length=z.length:=by simp[Str.length]
def lc(i:Int):Nat:=97+ (i%26).toNat
theorem oK(i:Int):97<=lc i/\lc i<=122:=by
 unfold lc
 lia
theorem fM:Zp.length=26:=by decide+kernel
theorem lh(i:Int):XM Zp.cps.toList (i%26)=some (lc i):=by
 have a:∀j:Fin 26,Zp.cps.toList[j.val]?=some (97+j.val):=by decide+kernel
 have b: (i%26).toNat<26:=by lia
 have c:XM Zp.cps.toList (((i%26).toNat:Nat):Int)=some (lc i):=HY (a ⟨_,b⟩);rw[FZ (by lia)]at c;exact c
def vm(l:List Nat):Prop:=1<=l.length/\l.length<=12/\∀c∈l,97<=c/\c<=122
def vj(l:List Nat):Prop:=(∀x,l≠[122,122,122,x])/\l≠IN 12 122
def RA(z:Bc):Prop:=Fa z=true/\vj (sg z)
theorem eQ{z:Bc}(h:vm (sg z)):Fa z=true:=by
 unfold Fa Qh;rw[AI,AI];have:=h.1;have:=h.2.1;rw[Gy]at *;exact⟨⟨wg (by assumption),wg (by assumption)⟩,BM.mpr λc hc=>nh (h.2.2 c hc).1 (h.2.2 c hc).2⟩
structure CV(zs:List Bc):Prop where
 ok:∀z∈zs,RA z
 nd:zs.Nodup
theorem nodup_range{c:Type}(f:Nat->c)(n:Nat)(h:∀i j,i<n->j<n->f i=f j->i=j): ((Bm n).map f).Nodup:=by
 refine Ed.mpr (List.Pairwise.imp_of_mem (R:=(·< ·)) (λ{a b} ha hb d hf=>?_) List.pairwise_lt_range);have:=h a b (CG.mp ha) (CG.mp hb) hf
 lia
theorem Qf{a b:Type}{f:a->b}{l:List a}(h: (l.map f).Nodup):l.Nodup:=(Ed.mp h).imp λhn e=>hn (by rw[e])
structure lv(b:List Nat):Prop where
 len:b.length=12
 lets:∀c∈b,97<=c/\c<=122
 two:∀x r,b≠x::x::r
theorem gI{b:List Nat}(h:lv b){many:Nat}(hm:many<=12){zs:List Bc}(e:zs.map sg=(Bm many).map λk=>b.take (k+1)):CV zs:=by
 have at_:∀z∈zs,∃k,k<many/\sg z=b.take (k+1):=λz hz=>by
  have:sg z∈zs.map sg:=List.mem_map_of_mem hz;rw[e]at this;obtain⟨k,f,l⟩:=Bg.mp this;exact⟨k,CG.mp f,l.symm⟩
 refine⟨λz hz=>?_,?_⟩
 ·obtain⟨k,f,g⟩:=at_ z hz;refine⟨eQ ?_,?_⟩
  ·rw[g];refine⟨?_,?_,λc hc=>h.lets c (Dp hc)⟩
   ·rw[BY,h.len];lia
   ·rw[BY,h.len];lia
  ·rw[g];obtain⟨a,b1,r,hb⟩:∃a b1 r,b=a::b1::r:=by
    match b,h.len with
    |a::b1::r,_=>exact⟨a,b1,r,rfl⟩
   have two:=h.two;subst hb;refine⟨λx hx=>?_,λhx=>?_⟩
   ·cases k with
    |zero=>simp at hx
    |succ k=>
     rw[Kf,Kf]at hx;injection hx with h1 h2;injection h2 with h2 h3;exact two a r (by rw[h1,h2])
   ·cases k with
    |zero=>simp[IN]at hx
    |succ k=>
     rw[Kf,Kf]at hx;have d:IN 12 122=122::122::IN 10 122:=rfl;rw[d]at hx;injection hx with h1 h2;injection h2 with h2 h3;exact two a r (by rw[h1,h2])
 ·have nd: (zs.map sg).Nodup:=by
   rw[e];refine nodup_range _ _ λi j hi m hf=>?_;have:=wn QQ hf;rw[BY,BY,h.len]at this
   lia
  exact Qf nd
theorem jK{b:List Nat}(h:lv b){m a many:Nat}(hm:m<=7)(c:Nat->Nat)(hc:∀k,k<many->97<=c k/\c k<=122)(hi:∀i j,i<many->j<many->c i=c j->i=j)(ha:a<= (b.take m).length){zs:List Bc}(e:zs.map sg=(Bm many).map λk=>(b.take m).take a++c k:: (b.take m).drop a):CV zs:=by
 have at_:∀z∈zs,∃k,k<many/\sg z=(b.take m).take a++c k:: (b.take m).drop a:=λz hz=>by
  have:sg z∈zs.map sg:=List.mem_map_of_mem hz;rw[e]at this;obtain⟨k,t,s⟩:=Bg.mp this;exact⟨k,CG.mp t,s.symm⟩
 have o: (b.take m).length=m:=by rw[BY,h.len];lia
 have two:∀x r,b.take m≠x::x::r:=λx r hx=>by
  have s:=Ja m b;rw[hx]at s;exact h.two x (r++b.drop m) s.symm
 have lets:∀d∈b.take m,97<=d/\d<=122:=λd hd=>h.lets d (Dp hd);revert e at_ two lets ha;generalize b.take m=l at o;intro ha e at_ two lets;refine⟨λz hz=>?_,?_⟩
 ·obtain⟨k,t,v⟩:=at_ z hz;have g: (l.take a++c k::l.drop a).length=m+1:=by
   rw[AZ,Cd,BY,DR,o];lia
  refine⟨eQ ?_,?_⟩
  ·rw[v];refine⟨by lia,by lia,λd hd=>?_⟩;rcases BZ.mp hd with hd|hd
   ·exact lets d (Dp hd)
   ·rcases AU.mp hd with rfl|hd
    ·exact hc k t
    ·exact lets d (List.mem_of_mem_drop hd)
  ·rw[v];refine⟨λx hx=>?_,λhx=>?_⟩
   ·rw[hx]at g;have h3:m=3:=by simp at g;lia
    subst h3
    match l,o with
    |[p,q,r],_=>
     match a,ha with
     |0,_=>
      have f: [c k,p,q,r]=[122,122,122,x]:=hx;injection f with _ f;injection f with h1 f;injection f with h2 _;exact two p [r] (by rw[h2,<-h1])
     |1,_=>
      have f: [p,c k,q,r]=[122,122,122,x]:=hx;injection f with h1 f;injection f with _ f;injection f with h2 _;exact two p [r] (by rw[h2,<-h1])
     |2,_=>
      have f: [p,q,c k,r]=[122,122,122,x]:=hx;injection f with h1 f;injection f with h2 _;exact two p [r] (by rw[h2,<-h1])
     |3,_=>
      have f: [p,q,r,c k]=[122,122,122,x]:=hx;injection f with h1 f;injection f with h2 _;exact two p [r] (by rw[h2,<-h1])
     |n+4,hn=>exact wo hn (by simp)
   ·rw[hx,Jb]at g
    lia
 ·have nd: (zs.map sg).Nodup:=by
   rw[e];refine nodup_range _ _ λi j u w hf=>hi i j u w ?_;have:=List.append_cancel_left hf;injection this
  exact Qf nd
def Sr(n:Int):List Nat:=(Bm 12).map λj:Nat=>lc (n/7+ (3+n%5) * (0+ (j:Int)))
theorem nP(n:Int):lv (Sr n):=by
 refine⟨by unfold Sr;rw[Ay,BB],λc hc=>?_,λx r hx=>?_⟩
 ·obtain⟨j,_,rfl⟩:=Bg.mp hc;exact oK _
 ·have h0: (Sr n)[0]?=some (lc (n/7+ (3+n%5) * (0+ ((0:Nat):Int)))):=rfl;have h1: (Sr n)[1]?=some (lc (n/7+ (3+n%5) * (0+ ((1:Nat):Int)))):=rfl;rw[hx]at h0 h1;have b:x=lc (n/7+ (3+n%5) * (0+ ((0:Nat):Int))):=Ba h0;have a:x=lc (n/7+ (3+n%5) * (0+ ((1:Nat):Int))):=Ba h1;rw[b]at a;unfold lc at a;have a0: (3+n%5) * (0+ ((0:Nat):Int))=0:=by simp
  have d: (3+n%5) * (0+ ((1:Nat):Int))=3+n%5:=by simp
  rw[a0,d]at a
  lia
theorem iN(q:Int)(i j:Nat)(hi:i<12)(a:j<12)(h:lc (q+5* (0+ (i:Int)))=lc (q+5* (0+ (j:Int)))):i=j:=by
 unfold lc at h;omega
theorem Wk.rng{H1:Hp}(lo:Int)(n:Nat):Wk (qL lo n) H1 ((Bm n).map λi:Nat=>V.int (lo+ (i:Int))) where
 go:=λH i s hi=>by rw[Ay,BB]at hi;exact hi
 stop:=λH i s hi=>by rw[Ay,BB]at hi;exact Vg hi.symm
 yld:=λH i x H' s hi y=>by
  rw[Ay,BB]at hi;exact⟨y.1,by rw[AT,HI hi,y.2];rfl⟩
theorem Rn{lo:Int}{n j:Nat}{x:V}(h: ((Bm n).map λi:Nat=>V.int (lo+ (i:Int)))[j]?=some x):x= .int (lo+j)/\j<n:=by
 rw[AT]at h;by_cases a:j<n
 ·rw[HI a]at h;exact⟨(Ba h).symm,a⟩
 ·rw[Cz (by rw[BB];lia)]at h;cases h
def fY(K:AF):Sp:=λvs H Q _=>∃(a:AE) (ns:List Int) (k:Int),vs=[.ref a,.int k]/\Cj K H a (ns.map V.int)/\0<=k/\k<=1000/\∀r:Int,0<=r->r<2147483629->Q (.int r) H
def WF(c k:Int):Int:=(c%2147483629*40692+ (k+5) * (k+5) *30269) %2147483399
def iz:Sp:=λvs H Q _=>∃(c k:Int),vs=[.int c,.int k]/\0<=k/\k<=1000/\Q (.int (WF c k)) H
theorem Hk(a:Int){b:Int}(h:0<b):0<=a%b/\a%b<b:=⟨Int.emod_nonneg _ (Int.ne_of_gt h),Int.emod_lt_of_pos _ h⟩
theorem MX(x y:Bc):sg (x++y)=sg x++sg y:=by
 show(x++y).cps.toList=_;rw[PySem.Str.cps_append,Ki]
theorem gY(ps:List Bc):∀a:Array Nat,(ps.foldl (λb p=>b++ (BJ "").cps++p.cps) a).toList=a.toList++ (ps.map sg).flatten:=by
 induction ps with
 |nil=>intro a;simp
 |cons p ps c=>
  intro a;rw[List.foldl_cons,c,Bf,FG,Ki,Ki];show a.toList++[] ++p.cps.toList++_=_;simp
theorem lV(ys:List Bc):sg (Eb "" ys)=(ys.map sg).flatten:=by
 cases ys with
 |nil=>rfl
 |cons y ys=>
  show((List.drop 1 (y::ys)).foldl (λa p=>a++ (BJ "").cps++p.cps) ((y::ys).headD Str.empty).cps).toList=_;rw[gY];rfl
def one(c:Nat):Bc:=⟨#[c]⟩
theorem lT(a:List Nat): ((a.map one).map sg).flatten=a:=by
 induction a with
 |nil=>rfl
 |cons c a b=>rw[Bf,Bf,FG,b];rfl
theorem iq(a:List Nat): ((a.map one).map (·.length)).sum=a.length:=by
 induction a with
 |nil=>rfl
 |cons c a b=>rw[Bf,Bf,Sv,b,Cd];show 1+_=_;lia
theorem MV(z:Bc)(k:Nat)(h:k<=z.length):sg (Dx z none (some (k:Int)))=(sg z).take k:=by
 have e:=eq_of_beq (PyProof.Rows.slice_closes_toL (x:=z) (j:=(k:Int)) (by lia) (by lia));rw[e];show((z.cps.toList.drop 0).take ((k:Int) - 0).toNat)=_;rw[List.drop_zero,show((k:Int) - 0).toNat=k by lia]
theorem cy(z:Bc)(k:Nat)(h:k<=z.length):sg (Dx z (some (k:Int)) none)=(sg z).drop k:=by
 have e:=eq_of_beq (PyProof.Rows.slice_closes_fromL (x:=z) (i:=(k:Int)) (b:=(z.length:Int)) (by lia) (by lia) rfl);rw[e];show((z.cps.toList.drop (k:Int).toNat).take ((z.length:Int) - (k:Int)).toNat)=_;rw[show((k:Int)).toNat=k by lia];apply IM;rw[DR,Gy]
 lia
theorem uF: ((["_law_j"]:List Bc) ++ (["_law_letters","_law_number_here","_law_step"]:List Bc)).Nodup:=by decide+kernel
theorem uD: ((["_law_k"]:List Bc) ++ (["_law_base"]:List Bc)).Nodup:=by decide+kernel
theorem uC: ((["_law_k"]:List Bc) ++ (["_law_letters","_law_number_here"]:List Bc)).Nodup:=by decide+kernel
theorem ux: ((["_law_sign"]:List Bc) ++ (["_law_border","_law_at"]:List Bc)).Nodup:=by decide+kernel
def ix:Sp:=λvs H Q _=>∃(n:Int) (many:Nat),vs=[.int n,.int many]/\0<=n/\n<2147483648/\many<=10/\∀zs,zs.length=many->CV zs->Yk H Q (zs.map V.str)
theorem jA(T:Tx K mg):HL.Et P w K mg base 1 893 Aj iz:=by
 refine(T.df 38 rfl).ok iV (λvs H Q E h=>?_) (λcdv A outer s H vs Q E a h=>?_)
 ·obtain⟨c,k,rfl,_⟩:=h;rfl
 ·obtain⟨c,k,rfl,h0,h1,q⟩:=h;refine⟨_,AD (AN (Bz Df (Bz Dg (Bz Kp (Bz Df (pv 0) AH) AH) (Bz Kp (Bz Kp (Bz Dg (pv 1) AH) (Bz Dg (pv 1) AH)) AH)) AH)),?_⟩;exact⟨_,rfl,_,_,rfl,rfl,(by show(0:Int) <2147483629;decide),_,_,rfl,rfl,.inr ⟨Aa,Aa⟩,_,rfl,_,_,rfl,rfl,_,rfl,_,_,rfl,rfl,_,_,rfl,rfl,.inl ⟨by lia,by lia⟩,_,_,rfl,rfl,.inr ⟨Aa,Aa⟩,_,_,rfl,rfl,_,_,rfl,rfl,(by show(0:Int) <2147483399;decide),q⟩
theorem Xi(T:Tx K mg):HL.Et P w K mg base 1 886 ["_law_script","_law_k"] (fY K):=by
 refine(T.df 37 rfl).ok NM (λvs H Q E h=>?_) (λcdv A outer s H vs Q E m h=>?_)
 ·obtain⟨a,ns,k,rfl,_⟩:=h;rfl
 ·obtain⟨a,ns,k,rfl,f,h0,h1,q⟩:=h;refine⟨_,AV (BV (i:=2) NM.nd rfl (Bn rfl) AH) (Bh (BH (Bp Uf (Bl Cs (by rfl) T.Fy Eg (Ax (pv 0) AA)) AH (Bw _)) (AD (BV (i:=2) NM.nd rfl (Bn rfl) (Cp CM (pv 0) (Bz Df (pv 1) (Bl Cs (by rfl) T.Fy Eg (Ax (pv 0) AA))) (λ_ _=>rfl))))
    Bd)
   (AV (BV (i:=3) NM.nd rfl (Bn rfl) (Bz Dg (pv 1) AH))
   (AD (AN (Bz Df (Bz Kp (Bz Df (Bz Dg (Bz Kp (Bz Df (pv 2) AH) AH) (Bz Kp (Bz Kp (pv 3) (pv 3)) AH)) AH) AH) AH))))),?_⟩
  refine Cq (λe H'=>∃c:Int,e=[some (.ref a),some (.int k),some (.int c),none]/\H'=H) ?_ ?_
  ·refine⟨_,rfl,a,_,rfl,.inl f,_,_,rfl,rfl,_,rfl,FT (λh=>?_) (λh=>⟨1,rfl,rfl⟩)⟩;have hp: (0:Int) < ((ns.map V.int).length:Int):=wj h;have z:=Hk k hp;have d: (k% ((ns.map V.int).length:Int)).toNat<ns.length:=by
    have:=Ay (as:=ns) V.int
    lia
   refine⟨_,rfl,_,rfl,_,rfl,a,_,rfl,.inl f,_,_,rfl,rfl,hp,a,_,_,.int (ns[(k% ((ns.map V.int).length:Int)).toNat]'d),rfl,rfl,f,?_,⟨_,rfl,rfl⟩⟩;have j:XM (ns.map V.int) (((k% ((ns.map V.int).length:Int)).toNat:Nat):Int)=some (.int (ns[(k% ((ns.map V.int).length:Int)).toNat]'d)):=HY (by
    rw[AT,Az d];rfl)
   rw[show(((k% ((ns.map V.int).length:Int)).toNat:Nat):Int)=k% ((ns.map V.int).length:Int)from FZ z.1]at j;exact j
  ·rintro e H' ⟨c,rfl,rfl⟩;refine⟨_,rfl,_,_,rfl,rfl,?_⟩;have y:=Hk c (b:=2147483629) Aa;have l:=Hk (c%2147483629*48271+ (k+3) * (k+3) *69621) (b:=2147483647) Aa;refine⟨_,rfl,_,_,rfl,rfl,(by show(0:Int) <2147483629;decide),_,_,rfl,rfl,.inr ⟨Aa,Aa⟩,_,rfl,_,rfl,_,_,rfl,rfl,.inl ⟨by lia,by lia⟩,_,_,rfl,rfl,.inr ⟨Aa,Aa⟩,_,_,rfl,rfl,_,_,rfl,rfl,(by show(0:Int) <2147483647;decide),_,_,rfl,rfl,.inr ⟨Aa,Aa⟩,_,_,rfl,rfl,(by show(0:Int) <2147483629;decide),?_⟩;have g:=Hk ((c%2147483629*48271+ (k+3) * (k+3) *69621) %2147483647*16807) (b:=2147483629) Aa;exact q _ g.1 g.2
theorem aw(T:Tx K mg):HL.Et P w K mg base 1 898 ["_law_number_here","_law_many"] ix:=by
 refine(T.df 39 rfl).ok Jx (λvs H Q E h=>?_) (λcdv A outer s H vs Q E U h=>?_)
 ·obtain⟨n,many,rfl,_⟩:=h;rfl
 ·obtain⟨n,many,rfl,h0,h1,M,q⟩:=h;refine⟨_,AV (BV (i:=2) Jx.nd rfl (Cw rfl) AQ) (AV (BV (i:=3) Jx.nd rfl (Cw rfl) (Bz Dg AH (Bz Df (pv 0) AH))) (Bh (BV (i:=4) Jx.nd rfl (Cw rfl) (Gr Db Fk Fj NP AQ (Ax (CJ (ts:=["_law_j"]) (xs:=["_law_letters","_law_number_here","_law_step"]) (js:=[2,0,3]) rfl ⟨rfl,rfl,Ab,Ab,CZ rfl⟩ (.cons rfl (.inl rfl) rfl (.cons rfl (.inl rfl) rfl (.cons rfl (.inl rfl) rfl .nil))) Ab (HA rfl T.JT (Ax AH AA)) (λC s_ H_ fp=>Cb (X:=Di _ _ _ C s_ H_ fp) (i:=0) uF rfl (Bn rfl) (Cw rfl)) (λC s_ H_ fp=>CT (X:=Di _ _ _ C s_ H_ fp)) (λC s_ H_ fp=>Cp (X:=Di _ _ _ C s_ H_ fp) jW (pv 1) (Bz Df (Bz Dg (Bz Ej (pv 2) AH) (Bz Kp (pv 3) (pv 0))) AH) (λ_ _=>rfl))) AA))) (AV (BH (Bp De (Bz Df (Bz Ej (pv 0) AH) AH) AH (Bw _)) (AD (AN (CJ (ts:=["_law_k"]) (xs:=["_law_base"]) (js:=[4]) rfl ⟨rfl,rfl,Ab,Ab,CZ rfl⟩ (.cons rfl (.inl rfl) rfl .nil) Ab (HA rfl T.JT (Ax (pv 1) AA)) (λC s_ H_ fp=>Cb (X:=Di _ _ _ C s_ H_ fp) (i:=0) uD rfl (Bn rfl) (Cw rfl)) (λC s_ H_ fp=>CT (X:=Di _ _ _ C s_ H_ fp)) (λC s_ H_ fp=>Hb (X:=Di _ _ _ C s_ H_ fp) Ri (pv 1) Iz (Iy (Bz Dg (pv 0) AH))))))
    Bd)
   (Bh (BV (i:=5) Jx.nd rfl (Cw rfl) (Hb Ri (pv 4) Iz (Iy (Bz Df (pv 0) AH))))
   (Bh (BV (i:=6) Jx.nd rfl (Cw rfl) (Bz Df (Bz Ej (pv 0) AH) (Bz Dg (Bl Jj (by rfl) T.Fy Eg (Ax (pv 5) AA)) AH)))
   (Bh (LN (i:=7) (ts:=["_law_k"]) (xs:=["_law_letters","_law_number_here"]) (js:=[2,0]) rfl ⟨rfl,rfl,Ab,Ab,CZ rfl⟩ (.cons rfl (.inl rfl) rfl (.cons rfl (.inl rfl) rfl .nil)) Ab (HA rfl T.JT (Ax (pv 1) AA)) (λC s_ H_ fp=>Cb (X:=Di _ _ _ C s_ H_ fp) (i:=0) uC rfl (Bn rfl) (Cw rfl)) (λC s_ H_ fp=>CT (X:=Di _ _ _ C s_ H_ fp)) (λC s_ H_ fp=>Cp (X:=Di _ _ _ C s_ H_ fp) jW (pv 1) (Bz Df (Bz Dg (Bz Ej (pv 2) AH) (Bz Kp AH (pv 0))) AH) (λ_ _=>rfl))
     Jx.nd rfl (Bn rfl) rfl)
   (AD (AN (CJ (ts:=["_law_sign"]) (xs:=["_law_border","_law_at"]) (js:=[5,6]) rfl ⟨rfl,rfl,Ab,Ab,CZ rfl⟩ (.cons rfl (.inl rfl) rfl (.cons rfl (.inl rfl) rfl .nil)) Ab (CU (pv 7)) (λC s_ H_ fp=>Cb (X:=Di _ _ _ C s_ H_ fp) (i:=0) ux rfl (Bn rfl) (Cw rfl)) (λC s_ H_ fp=>CT (X:=Di _ _ _ C s_ H_ fp)) (λC s_ H_ fp=>Bz (X:=Di _ _ _ C s_ H_ fp) Du (Bz Du (Hb Ri (pv 1) Iz (Iy (pv 2))) (pv 0)) (Hb Ri (pv 1) (Iy (pv 2)) Iz))))))))))),?_⟩
  refine⟨_,rfl,_,_,rfl,rfl,(by show(0:Int) <5;decide),_,_,rfl,rfl,?_⟩;have O:=Hk n (b:=5) Aa;have f:=nP n;refine Cq (λc H'=>∃b:Bc,sg b=Sr n/\c=[some (.int n),some (.int many),some (.str Zp),some (.int (3+n%5)),some (.str b),none,none,none]/\Be H H') ?_ ?_
  ·refine⟨rfl,12,rfl,Aa,Aa,Dc (Wk.rng 0 12) Aa (λj=>.str (one (lc (n/7+ (3+n%5) * (0+ (j:Int)))))) (λj x hx H2 R s2 o=>?_) (λD H2 t s2 u=>?_)⟩
   ·obtain⟨rfl,p⟩:=Rn hx;refine⟨Sub.set rfl,_,rfl,_,rfl,_,_,rfl,rfl,⟨Aa,Aa⟩,_,rfl,_,rfl,_,_,rfl,rfl,.inl ⟨by lia,by lia⟩,_,_,rfl,rfl,_,_,rfl,rfl,(by show(0:Int) <26;decide),Zp,_,_,rfl,rfl,by rw[fM];decide,lh _,?_⟩;exact o H2 λ_ _ e=>e
   ·have z:H2 D=some (.lst (((Sr n).map one).map V.str)):=by
     unfold Sr;rw[Bi,Bi];exact u
    refine⟨"",D,_,rfl,rfl,Cj.of z,?_,?_⟩
    ·rw[iq,Ay,f.len];decide
    ·exact⟨_,by rw[lV,lT],rfl,s2⟩
  rintro c H' ⟨b,hb,rfl,v⟩;have y:b.length=12:=by rw[<-Gy,hb,f.len]
  have r:b.length<=sizeLine:=by rw[y];decide
  refine⟨_,rfl,_,_,rfl,rfl,⟨Aa,Aa⟩,_,_,rfl,rfl,(by show(0:Int) <3;decide),rfl,_,rfl,FT (λ_=>?_) (λ_=>?_)⟩
  ·refine⟨_,rfl,(many:Int),rfl,by lia,by lia,?_⟩;rw[show(((many:Int)).toNat)=many by lia];refine Dc (Wk.rng 0 many) (by rw[Ay,BB];lia) (λj=>.str (Dx b none (some (0+ (j:Int) +1)))) (λj x hx H2 R s2 o=>?_) (λD H2 t s2 u=>?_)
   ·obtain⟨rfl,p⟩:=Rn hx;exact⟨Sub.set rfl,_,rfl,_,rfl,_,_,rfl,rfl,_,rfl,b,rfl,r,o H2 λ_ _ e=>e⟩
   ·refine q ((Bm many).map λj:Nat=>Dx b none (some (0+ (j:Int) +1))) (by rw[Ay,BB]) (gI f (many:=many) (by lia) ?_) D _ (v.free t) (v.trans s2) ?_
    ·rw[Bi];refine Dj λk I=>?_;have N:=CG.mp I;show sg (Dx b none (some (0+ (k:Int) +1)))=_;rw[show(0+ (k:Int) +1)=((k+1:Nat):Int)by lia,MV _ _ (by lia),hb]
    ·rw[u,Ay,BB,Bi];rfl
  refine Cq (λc H2=>∃b2:Bc,sg b2=(Sr n).take (n%8).toNat/\c=[some (.int n),some (.int many),some (.str Zp),some (.int (3+n%5)),some (.str b),some (.str b2),none,none]/\H'=H2) ?_ ?_
  ·refine⟨_,rfl,_,rfl,_,_,rfl,rfl,(by show(0:Int) <8;decide),_,rfl,b,rfl,r,_,?_,rfl,rfl⟩;rw[show n%8=(((n%8).toNat:Nat):Int)by lia,MV _ _ (by lia),hb];rfl
  rintro c H2 ⟨b2,g,rfl,rfl⟩;have J:b2.length=(n%8).toNat:=by rw[<-Gy,g,BY,f.len];lia
  have d:b2.length<=sizeLine:=AJ (show b2.length<=8 by lia) Aa;refine Cq (λc H2=>∃a:Nat,a<=b2.length/\c=[some (.int n),some (.int many),some (.str Zp),some (.int (3+n%5)),some (.str b),some (.str b2),some (.int (a:Int)),none]/\H'=H2) ?_ ?_
  ·refine⟨_,rfl,_,_,rfl,rfl,⟨Aa,Aa⟩,_,rfl,b2,rfl,d,_,_,rfl,rfl,_,_,rfl,rfl,?_,(n/200% ((b2.length:Int) +1)).toNat,?_,?_,rfl⟩
   ·show(0:Int) < (b2.length:Int) +1
    lia
   ·have:=Hk (n/200) (b:=(b2.length:Int) +1) (by lia)
    lia
   ·have:=Hk (n/200) (b:=(b2.length:Int) +1) (by lia);rw[FZ this.1];rfl
  rintro c H2 ⟨a,ha,rfl,rfl⟩;refine Cq (λc H2=>∃l:AE,c=[some (.int n),some (.int many),some (.str Zp),some (.int (3+n%5)),some (.str b),some (.str b2),some (.int (a:Int)),some (.ref l)]/\Be H' H2/\H2 l=some (.lst ((Bm many).map λj:Nat=>V.str (one (lc (n/2000+5* (0+ (j:Int)))))))) ?_ ?_
  ·refine⟨_,rfl,(many:Int),rfl,by lia,by lia,?_⟩;rw[show(((many:Int)).toNat)=many by lia];refine Dc (Wk.rng 0 many) (by rw[Ay,BB];lia) (λj=>.str (one (lc (n/2000+5* (0+ (j:Int)))))) (λj x hx H2 R s2 o=>?_) (λD H2 t s2 u=>?_)
   ·obtain⟨rfl,p⟩:=Rn hx;refine⟨Sub.set rfl,_,rfl,_,rfl,_,_,rfl,rfl,⟨Aa,Aa⟩,_,rfl,_,_,rfl,rfl,.inl ⟨Aa,Aa⟩,_,_,rfl,rfl,_,_,rfl,rfl,(by show(0:Int) <26;decide),Zp,_,_,rfl,rfl,by rw[fM];decide,lh _,?_⟩;exact o H2 λ_ _ e=>e
   ·refine⟨D,rfl,s2,?_⟩;rw[u,Ay,BB]
  rintro c H2 ⟨l,rfl,s2,G⟩;have S:=RH b2 none (some (a:Int));have l2:=RH b2 (some (a:Int)) none;refine⟨_,rfl,l,rfl,⟨_,Cj.of G⟩,Dc (Wk.list (Cj.of G)) (by rw[Ay,BB];lia) (λj=>.str ((Dx b2 none (some (a:Int)) ++one (lc (n/2000+5* (0+ (j:Int))))) ++Dx b2 (some (a:Int)) none)) (λj x hx L R B o=>?_) (λD L t B z=>?_)⟩
  ·obtain rfl:x= .str (one (lc (n/2000+5* (0+ (j:Int))))):=by
    rw[AT]at hx;by_cases p:j<many
    ·rw[HI p]at hx;exact(Ba hx).symm
    ·rw[Cz (by rw[BB];lia)]at hx;cases hx
   refine⟨Sub.set rfl,_,rfl,_,rfl,_,rfl,b2,rfl,d,_,rfl,_,_,rfl,rfl,?_,_,rfl,_,rfl,_,rfl,b2,rfl,d,_,_,rfl,rfl,?_,o L λ_ _ e=>e⟩
   ·show _+1<=sizeLine;exact AJ (show _<=20 by lia) Aa
   ·rw[Str.length_append];show _+1+_<=sizeLine;exact AJ (show _<=30 by lia) Aa
  ·refine q ((Bm many).map λj:Nat=>(Dx b2 none (some (a:Int)) ++one (lc (n/2000+5* (0+ (j:Int))))) ++Dx b2 (some (a:Int)) none) (by rw[Ay,BB]) (jK f (m:=(n%8).toNat) (a:=a) (many:=many) (by lia) (λk=>lc (n/2000+5* (0+ (k:Int)))) (λk _=>oK _) (λi j hi p h=>iN _ i j (by lia) (by lia) h) (by rw[<-g,Gy];exact ha) ?_) D _ (v.free (s2.free t)) ((v.trans s2).trans B) ?_
   ·rw[Bi];refine Dj λk I=>?_;show sg ((Dx b2 none (some (a:Int)) ++one (lc (n/2000+5* (0+ (k:Int))))) ++Dx b2 (some (a:Int)) none)=_;rw[MX,MX,MV _ _ ha,cy _ _ ha,g,FH];rfl
   ·rw[z,Ay,BB,Bi];rfl
inductive Lk where
 |truth|count|whole
 |upto (n:Int)|text (n:Int)|form (i:Nat)
 |list (k:Lk)
def TL(H:Hp):Lk->V->Prop
 |.truth,v=>∃t,v= .ref t/\H t=some (.tup [.str "truth"])
 |.count,v=>∃t,v= .ref t/\H t=some (.tup [.str "count"])
 |.whole,v=>∃t,v= .ref t/\H t=some (.tup [.str "whole"])
 |.upto n,v=>∃t,v= .ref t/\H t=some (.tup [.str "upto",.int n])
 |.text n,v=>∃t,v= .ref t/\H t=some (.tup [.str "text",.int n])
 |.form i,v=>∃t,v= .ref t/\H t=some (.tup [.str "form",.int (i:Nat)])
 |.list k,v=>∃t u,v= .ref t/\H t=some (.tup [.str "list",u])/\TL H k u
theorem TL.sm{H H':Hp}(s:Sm H H'):∀{k:Lk} {v:V},TL H k v->TL H' k v
 |.truth,_,⟨a,e,h⟩=>⟨a,e,s _ _ h rfl⟩
 |.count,_,⟨a,e,h⟩=>⟨a,e,s _ _ h rfl⟩
 |.whole,_,⟨a,e,h⟩=>⟨a,e,s _ _ h rfl⟩
 |.upto _,_,⟨a,e,h⟩=>⟨a,e,s _ _ h rfl⟩
 |.text _,_,⟨a,e,h⟩=>⟨a,e,s _ _ h rfl⟩
 |.form _,_,⟨a,e,h⟩=>⟨a,e,s _ _ h rfl⟩
 |.list _,_,⟨a,u,e,h,k⟩=>⟨a,u,e,s _ _ h rfl,k.sm s⟩
def Lk.word:Lk->Bc
 |.truth=>"truth" |.count=>"count" |.whole=>"whole" |.upto _=>"upto" |.text _=>"text" |.form _=>"form" |.list _=>"list"
theorem TL.word{H:Hp}:∀{k:Lk} {v:V},TL H k v->∃t xs,v= .ref t/\H t=some (.tup (.str k.word::xs))
 |.truth,_,⟨a,e,h⟩=>⟨a,_,e,h⟩
 |.count,_,⟨a,e,h⟩=>⟨a,_,e,h⟩
 |.whole,_,⟨a,e,h⟩=>⟨a,_,e,h⟩
 |.upto _,_,⟨a,e,h⟩=>⟨a,_,e,h⟩
 |.text _,_,⟨a,e,h⟩=>⟨a,_,e,h⟩
 |.form _,_,⟨a,e,h⟩=>⟨a,_,e,h⟩
 |.list _,_,⟨a,u,e,h,k⟩=>⟨a,_,e,h⟩
def Lk.plain:Lk->Prop
 |.upto n=>1<=n/\n<=2 ^ 64
 |.text n=>1<=n/\n<=100
 |.form _=>False
 |.list _=>False
 |_=>True
def Lk.ok(n:Nat):Lk->Prop
 |.form i=>i<n
 |.list k=>(k.plain\/∃i,k= .form i/\i<n)
 |k=>k.plain
def ln(H:Hp)(xs:List V):Prop:=∀x∈xs,∃k:Lk,k.plain/\TL H k x
theorem ln.sm{H H':Hp}(s:Sm H H'){xs:List V}(h:ln H xs):ln H' xs:=λx hx=>let ⟨k,a,b⟩:=h x hx;⟨k,a,b.sm s⟩
def iw:Sp:=λvs H Q _=>∃n:Int,vs=[.int n]/\0<=n/\n<2147483648/\∀k:Lk,k.plain->∀u H',Be H H'->TL H' k u->Q u H'
def iB:Sp:=λvs H Q _=>∃(n:Int) (m:Nat),vs=[.int n,.int m]/\0<=n/\n<2147483648/\∀k:Lk,k.ok m->(∀i,k= .form i->n%16=3\/n%16=14)->∀u H',Be H H'->TL H' k u->Q u H'
theorem UT{xs:List V}{i:Int}(h0:0<=i)(h1:i<xs.length):∃x,XM xs i=some x/\x∈xs:=by
 have a:i.toNat<xs.length:=by lia
 refine⟨xs[i.toNat]'a,?_,NG a⟩;have e:=HY (xs:=xs) (j:=i.toNat) (v:=xs[i.toNat]'a) (Az a);rw[FZ h0]at e;exact e
theorem Lh{l:List Int}{P:Int->Prop}(h:∀i∈l,P i){x:V}(hx:x∈l.map V.int):∃i,x= .int i/\P i:=by
 obtain⟨i,hi,rfl⟩:=Bg.mp hx;exact⟨i,rfl,h i hi⟩
theorem ur:L2.lu 10 12:=⟨Aa,Ab⟩
theorem uq:L2.lu 2 64:=⟨Aa,Ab⟩
theorem jy(T:Tx K mg):HL.Et P w K mg base 1 905 ["_law_number_here"] iw:=by
 refine(T.df 40 rfl).ok MY (λvs H Q E h=>?_) (λcdv A outer s H vs Q E hr h=>?_)
 ·obtain⟨n,rfl,_⟩:=h;rfl
 ·obtain⟨n,rfl,h0,h1,q⟩:=h;refine⟨_,Bh (BV (i:=1) MY.nd rfl (Bn rfl) (Cp CM (CP (Ax AH (Ax AH (Ax AH (Ax AH (Ax AH (Ax AH (Ax AH (Ax AH (Ax AH (Ax AH (Ax (Bz eO AH AH) (Ax (Bz eO AH AH) AA))))))))))))) (Bz Df (Bz Ej (pv 0) AH) AH) (λ_ _=>rfl))) (Bh (BV (i:=2) MY.nd rfl (Bn rfl) (Cp CM (CP (Ax AH (Ax AH (Ax AH (Ax AH (Ax AH AA)))))) (Bz Df (Bz Ej (pv 0) AH) AH) (λ_ _=>rfl))) (Bh (BV (i:=3) MY.nd rfl (Bn rfl) (CP (Ax (DG (Ax AQ AA)) (Ax (DG (Ax AQ AA)) (Ax (DG (Ax AQ AA)) (Ax (DG (Ax AQ (Ax (pv 1) AA))) (Ax (DG (Ax AQ (Ax (pv 2) AA))) AA))))))) (Bh (BV (i:=3) MY.nd rfl (Bn rfl) (Bz Nc (pv 3) (CP (Ax (DG (Ax AQ (Ax (pv 1) AA))) (Ax (DG (Ax AQ (Ax AH AA))) (Ax (DG (Ax AQ AA)) AA)))))) (AD (AN (Cp CM (pv 3) (Bz Df (pv 0) AH) (λ_ _=>rfl))))))),?_⟩;refine Cq (λd H'=>∃m:Int,(1<=m/\m<=2 ^ 64)/\d=[some (.int n),some (.int m),none,none]/\Be H H') ?_ ?_
  ·refine⟨_,_,rfl,rfl,ur,_,_,rfl,rfl,uq,zl 12,λp hp=>?_⟩;obtain⟨x,hx,hm⟩:=UT (xs:=([1,2,3,7,8,127,128,255,256,300,10 ^ (12:Int).toNat,2 ^ (64:Int).toNat]:List Int).map V.int) (i:=n/8%12) (by lia) (by rw[Ay];show n/8%12<12;lia);obtain⟨i,rfl,hi⟩:=Lh (P:=λi=>1<=i/\i<=2 ^ 64) Ab hm;exact⟨_,rfl,_,_,rfl,rfl,⟨Aa,Aa⟩,_,_,rfl,rfl,(by show(0:Int) <12;decide),p,_,_,_,rfl,rfl,Cj.of AC,hx,i,hi,rfl,By hp⟩
  rintro d H1 ⟨m,hm,rfl,s1⟩;refine Cq (λd H'=>∃c:Int,(1<=c/\c<=100)/\d=[some (.int n),some (.int m),some (.int c),none]/\Be H H') ?_ ?_
  ·refine⟨zl 5,λp hp=>?_⟩;obtain⟨x,hx,B⟩:=UT (xs:=([1,2,5,99,100]:List Int).map V.int) (i:=n/8%5) (by lia) (by rw[Ay];show n/8%5<5;lia);obtain⟨i,rfl,hi⟩:=Lh (P:=λi=>1<=i/\i<=100) Ab B;exact⟨_,rfl,_,_,rfl,rfl,⟨Aa,Aa⟩,_,_,rfl,rfl,(by show(0:Int) <5;decide),p,_,_,_,rfl,rfl,Cj.of AC,hx,i,hi,rfl,s1.trans (By hp)⟩
  rintro d H2 ⟨c,hc,rfl,s2⟩;have tp:∀{H':Hp} {t:AE} {xs:List V},H' t=none->Be H H'->Be H (upd H' t (.tup xs)):=λh s=>s.trans (By h);have v:∀H':Hp,ln H' []:=λ_ x hx=>wo hx BL;have f:∀{H':Hp} {xs:List V} {k:Lk} {t:AE} {ys:List V},k.plain->H' t=none->(∀y:Hp,y t=some (.tup ys)->TL y k (.ref t))->ln H' xs->ln (upd H' t (.tup ys)) (xs++[.ref t]):=λD W F o x hx=>by
   rcases BZ.mp hx with hx|hx
   ·exact o.sm (Sm.of (By W)) x hx
   ·rw[AM.mp hx];exact⟨_,D,F _ AC⟩
  have L:∀{H':Hp} {xs ys:List V},ln H' xs->ln H' ys->ln H' (xs++ys):=λa b x hx=>(BZ.mp hx).elim (a x) (b x);refine Cq (λd H'=>∃l xs,xs.length=5/\ln H' xs/\d=[some (.int n),some (.int m),some (.int c),some (.ref l)]/\Be H H'/\H' l=some (.lst xs)) ?_ ?_
  ·refine⟨zl 1,λO h1=>⟨zl 1,λN h2=>⟨zl 1,λM h3=>⟨_,rfl,zl 2,λt4 S=>⟨_,rfl,zl 2,λt5 R=>⟨zl 5,λp hp=>?_⟩⟩⟩⟩⟩⟩;have J:=f (k:=.truth) trivial h1 (λ_ e=>⟨_,rfl,e⟩) (v H2);have I:=f (k:=.count) trivial h2 (λ_ e=>⟨_,rfl,e⟩) J;have G:=f (k:=.whole) trivial h3 (λ_ e=>⟨_,rfl,e⟩) I;have Y:=f (k:=.upto m) hm S (λ_ e=>⟨_,rfl,e⟩) G;have X:=f (k:=.text c) hc R (λ_ e=>⟨_,rfl,e⟩) Y;exact⟨p,_,rfl,X.sm (Sm.of (By hp)),rfl,(tp R (tp S (tp h3 (tp h2 (tp h1 s2))))).trans (By hp),AC⟩
  rintro d H3 ⟨l,xs,g,o,rfl,U,C⟩;refine Cq (λd H'=>∃l xs,xs.length=8/\ln H' xs/\d=[some (.int n),some (.int m),some (.int c),some (.ref l)]/\Be H H'/\H' l=some (.lst xs)) ?_ ?_
  ·refine⟨_,rfl,_,rfl,zl 2,λO h1=>⟨zl 2,λN h2=>⟨zl 1,λM h3=>⟨zl 3,λp hp=>?_⟩⟩⟩⟩;have J:=f (k:=.upto m) hm h1 (λ_ e=>⟨_,rfl,e⟩) (v H3);have I:=f (k:=.text 100) (show(1:Int)<=100/\(100:Int)<=100 by decide) h2 (λ_ e=>⟨_,rfl,e⟩) J;have G:=f (k:=.truth) trivial h3 (λ_ e=>⟨_,rfl,e⟩) I;have s4:=(((By (u:=.tup [.str "upto",.int m]) h1).trans (By (u:=.tup [.str "text",.int 100]) h2)).trans (By (u:=.tup [.str "truth"]) h3)).trans (By (u:=.lst [.ref O,.ref N,.ref M]) hp);refine⟨l,p,xs,_,rfl,rfl,s4 _ _ C,AC,by rw[g];show 8<=sizeLine;decide,λr j=>⟨r,_,by rw[AZ,g];rfl,?_,rfl,(U.trans s4).trans (By j),AC⟩⟩;exact(L (o.sm (Sm.of s4)) (G.sm (Sm.of (By hp)))).sm (Sm.of (By j))
  rintro d Z ⟨l,xs,g,o,rfl,s4,C⟩;obtain⟨x,hx,z⟩:=UT (xs:=xs) (i:=n%8) (by lia) (by lia);obtain⟨k,D,F⟩:=o x z;exact⟨_,rfl,_,rfl,_,_,rfl,rfl,(by show(0:Int) <8;decide),l,_,_,_,rfl,rfl,Cj.of C,hx,q k D x Z s4 F⟩
theorem vy(a:Int)(x y z:Int):L2.Vn (.int a) [.int x,.int y,.int z]=decide (a=x\/a=y\/a=z):=by
 unfold L2.Vn;simp only[Jr,List.any_nil,nH,Bool.or_false];rw[GI];simp
 lia
theorem jC(T:Tx K mg):HL.Et P w K mg base 2 912 ["_law_number_here","_law_ahead"] iB:=by
 have c:=@jy P w K mg base T;refine(T.df 41 rfl).ok Yy (λvs H Q E h=>?_) (λcdv A outer s H vs Q E v h=>?_)
 ·obtain⟨n,m,rfl,_⟩:=h;rfl
 ·obtain⟨n,m,rfl,h0,h1,q⟩:=h;refine⟨_,Bh (BV (i:=2) Yy.nd rfl (Bn rfl) (AW c (v.mono Aa) (T.d1 40 rfl λ_ _ _ _ _ _ _=>rfl) (Ax (Bz Ej (pv 0) AH) AA))) (Bh (BH (PW.pt (Gm (Bp Uf (pv 1) AH (Bw _)) (Fv (Bp Lg (Bz Df (pv 0) AH) (DG (Ax AH (Ax AH (Ax AH AA)))) rfl)))) (AD (BV (i:=2) Yy.nd rfl (Bn rfl) (DG (Ax AQ (Ax (Bz Df (Bz Ej (pv 0) AH) (pv 1)) AA)))))
    Bd)
   (AV (BH (Bp Lg (Bz Df (pv 0) AH) (DG (Ax AH (Ax AH (Ax AH AA)))) rfl) (AD (AN (DG (Ax AQ (Ax (pv 2) AA)))))
    Bd)
   (AD (AN (pv 2))))),?_⟩
  refine Cq (λb H'=>∃k:Lk,k.plain/\∃u,TL H' k u/\b=[some (.int n),some (.int m),some u]/\Be H H') ?_ ?_
  ·exact⟨_,rfl,_,_,rfl,rfl,⟨Aa,Aa⟩,n/16,rfl,by lia,by lia,λk a u H' s' d=>⟨k,a,u,d,rfl,s'⟩⟩
  rintro b H1 ⟨k,a,u,d,rfl,s1⟩;refine Cq (λb H'=>∃k:Lk,(k.plain\/∃i,k= .form i/\i<m/\(n%16=3\/n%16=9\/n%16=14))/\∃u,TL H' k u/\b=[some (.int n),some (.int m),some u]/\Be H H') ?_ ?_
  ·refine⟨_,rfl,_,_,rfl,rfl,_,rfl,FT (λhm=>?_) (λhm=>⟨k,.inl a,u,d,rfl,s1⟩)⟩;have f: (m:Int) >0:=wj hm;refine⟨_,rfl,_,_,rfl,rfl,(by show(0:Int) <16;decide),zl 3,λp hp=>⟨p,_,rfl,.inr (DW.of AC),rfl,rfl,_,rfl,?_⟩⟩;have s2:=s1.trans (By (u:=.tup [.int 3,.int 9,.int 14]) hp);rw[vy];refine FT (λhi=>?_) (λhi=>⟨k,.inl a,u,d.sm (Sm.of (By hp)),rfl,s2⟩);have g:=wj hi;have o:=Hk (n/16) f;refine⟨_,rfl,_,_,rfl,rfl,⟨Aa,Aa⟩,_,rfl,_,_,rfl,rfl,f,zl 2,λt l=>⟨.form (n/16%m).toNat,.inr ⟨_,rfl,by lia,g⟩,.ref t,⟨t,rfl,?_⟩,rfl,s2.trans (By l)⟩⟩;rw[AC,FZ o.1]
  rintro b H2 ⟨k,a,u,d,rfl,s2⟩;refine⟨_,rfl,_,_,rfl,rfl,(by show(0:Int) <16;decide),zl 3,λp hp=>⟨p,_,rfl,.inr (DW.of AC),rfl,rfl,_,rfl,?_⟩⟩;have r:=s2.trans (By (u:=.tup [.int 5,.int 9,.int 12]) hp);have j:=d.sm (Sm.of (By (u:=.tup [.int 5,.int 9,.int 12]) hp));rw[vy];refine FT (λhi=>?_) (λhi=>?_)
  ·refine⟨_,rfl,zl 2,λt l=>?_⟩;refine q (.list k) ?_ (λi z=>by cases z) _ _ (r.trans (By l)) ⟨t,u,rfl,AC,j.sm (Sm.of (By l))⟩;rcases a with a|⟨i,e,hi,_⟩
   ·exact .inl a
   ·exact .inr ⟨i,e,hi⟩
  ·have g:¬ (n%16=5\/n%16=9\/n%16=12):=λz=>hi (wg z);refine⟨_,rfl,q k ?_ (λi e=>?_) _ _ r j⟩
   ·rcases a with a|⟨i,rfl,hi,_⟩
    ·cases k with
     |form i=>exact a.elim
     |list k=>exact a.elim
     |_=>exact a
    ·exact hi
   ·rcases a with a|⟨i',y,x,h3⟩
    ·rw[e]at a;exact a.elim
    ·lia
def Dy:Lk->Dt
 |.truth=>.bl false
 |.text _=>.str ""
 |.list _=>.lst []
 |.form _=>.non
 |_=>.int 0
def nJ(m:AE):List (Gk×V):=[(.inr "truth",.bl false),(.inr "text",.str ""),(.inr "list",.ref m),(.inr "form",.non)]
def Od(m:AE)(z:Bc):V:=(IR (Kt [] (nJ m)) (.inr z)).getD (.int 0)
theorem Xz(m:AE):Od m "truth"= .bl false:=by kernel_rfl
theorem bb(m:AE):Od m "text"= .str "":=by kernel_rfl
theorem bc(m:AE):Od m "list"= .ref m:=by kernel_rfl
theorem be(m:AE):Od m "form"= .non:=by kernel_rfl
theorem XA(m:AE):Od m "count"= .int 0:=by kernel_rfl
theorem Xy(m:AE):Od m "whole"= .int 0:=by kernel_rfl
theorem ba(m:AE):Od m "upto"= .int 0:=by kernel_rfl
theorem qE{H:Hp}{m:AE}(h:H m=some (.lst []))(k:Lk):Th H (Dy k) (Od m k.word):=by
 cases k with
 |truth=>exact Xz m
 |count=>exact XA m
 |whole=>exact Xy m
 |upto n=>exact ba m
 |text n=>exact⟨bb m,Aa⟩
 |form z=>exact be m
 |list j=>exact⟨m,[],bc m,h,rfl,Aa⟩
def Fz(H:Hp)(v:V):Prop:=∀m,v= .ref m->H m=none
theorem qF{H:Hp}{m:AE}(h:H m=none)(k:Lk):Fz H (Od m k.word):=by
 intro a e;cases k with
 |truth=>rw[show Od m (Lk.truth).word= .bl false from Xz m]at e;cases e
 |count=>rw[show Od m (Lk.count).word= .int 0 from XA m]at e;cases e
 |whole=>rw[show Od m (Lk.whole).word= .int 0 from Xy m]at e;cases e
 |upto n=>rw[show Od m (Lk.upto n).word= .int 0 from ba m]at e;cases e
 |text n=>rw[show Od m (Lk.text n).word= .str "" from bb m]at e;cases e
 |form z=>rw[show Od m (Lk.form z).word= .non from be m]at e;cases e
 |list j=>rw[show Od m (Lk.list j).word= .ref m from bc m]at e;cases e;exact h
theorem GQ{x:V}{xs:List V}:XM (x::xs) 0=some x:=by
 have h:=HY (xs:=x::xs) (j:=0) (v:=x) rfl;exact h
theorem Zl{x y:V}{xs:List V}:XM (x::y::xs) 1=some y:=by
 have h:=HY (xs:=x::y::xs) (j:=1) (v:=y) rfl;exact h
def QG:Lk->Dt->Prop
 |.truth,d=>d= .bl true
 |.text n,d=>∃z,d= .str z/\Fa z=true/\(z.length:Int)<=n
 |.upto m,d=>∃i,d= .int i/\0<=i/\i<=m
 |.whole,d=>∃i,d= .int i/\ -2147483648<=i/\i<=2147483648
 |.count,d=>∃i,d= .int i/\0<=i/\i<=2147483648
 |_,_=>False
def gc:Sp:=λvs H Q _=>∃v k,vs=[v]/\TL H k v/\∀u H',Be H H'->Th H' (Dy k) u->Fz H u->Q u H'
def ZK:Sp:=λvs H Q _=>∃v k n,vs=[v,.int n]/\TL H k v/\k.plain/\0<=n/\n<2147483648/\∀d,QG k d->∀u H',Be H H'->Th H' d u->Q u H'
theorem nj{c:Int}{n:Nat}(h: (n:Int)<=c):MG none (some c) 1 n=MG none (some (n:Int)) 1 n:=by
 unfold MG;have h1:¬c<0:=by lia
 have h2:¬ (n:Int) <0:=by lia
 simp only[h1,h2,if_false];rw[show min c (n:Int)=n by lia,show min (n:Int) n=n by lia];have h3: (1:Int) >0:=by decide
 simp only[h3,if_true]
theorem gj(z:Bc){c:Int}(h:1<=c):sg (Dx z none (some c))=(sg z).take c.toNat:=by
 by_cases hc:c<=z.length
 ·rw[show c=((c.toNat:Nat):Int)by lia,MV _ _ (by lia)];rfl
 ·have e:Dx z none (some c)=Dx z none (some (z.length:Int)):=by
   unfold Dx;rw[nj (by lia)]
  rw[e,MV _ _ (AX _),<-Gy,Dh,IM (by rw[Gy];lia)]
theorem Gj{z:Bc}(h:Fa z=true):1<=z.length/\z.length<=12/\(sg z).all (ka Zp)=true:=by
 unfold Fa Qh at h;rw[AI,AI]at h;exact⟨wj h.1.1,wj h.1.2,h.2⟩
theorem jL{z:Bc}(h:Fa z=true){c:Int}(hc:1<=c):Fa (Dx z none (some c))=true/\((Dx z none (some c)).length:Int)<=c:=by
 obtain⟨h1,h2,h3⟩:=Gj h;have e:=gj z hc;have a: (Dx z none (some c)).length=min c.toNat z.length:=by rw[<-Gy,e,BY,Gy]
 refine⟨?_,by lia⟩;unfold Fa Qh;rw[AI,AI];refine⟨⟨wg (by lia),wg (by lia)⟩,?_⟩;show(sg (Dx z none (some c))).all (ka Zp)=true;rw[e];exact BM.mpr λx hx=>BM.mp h3 x (Dp hx)
theorem Rr(T:Tx K mg):HL.Et P w K mg base 1 919 ["_law_kind_here"] gc:=by
 refine(T.df 42 rfl).ok iW (λvs H Q E h=>?_) (λcdv A outer s H vs Q E f h=>?_)
 ·obtain⟨v,k,rfl,_⟩:=h;rfl
 ·obtain⟨v,k,rfl,c,q⟩:=h;have d:=f.units;have a:=BS (BA (show 1<=64 by decide) _) d;refine⟨_,AD (AN (jr a (YJ (GC AQ DA (GC AQ AQ (GC AQ (CP AA) (GC AQ CO YH)))) rfl rfl Aa Aa) (Cp CW (pv 0) AH (λ_ _=>rfl)) AH ⟨rfl,rfl,rfl,rfl⟩)),?_⟩;obtain⟨t,ys,rfl,e⟩:=c.word;refine λp hp=>⟨zl 0,λm hm=>⟨by rw[Bb (λz=>by rw[<-z,AC]at hm;cases hm)];exact AC,nJ m,rfl,by show 4<=15;decide,?_⟩⟩;have s4:Be H (upd (upd (upd H p (.dK [])) m (.lst [])) p (.dK (Kt [] (nJ m)))):=Be.put ((By hp).trans (By hm)) hp;have b:m≠p:=λz=>by rw[z,AC]at hm;cases hm
  have g: (upd (upd (upd H p (.dK [])) m (.lst [])) p (.dK (Kt [] (nJ m)))) m=some (.lst []):=by rw[Bb b];exact AC
  exact⟨p,rfl,.inl ⟨_,.inl AC⟩,_,rfl,t,_,_,_,rfl,rfl,DW.of (s4 _ _ e),GQ,_,Hf.k (k:=.inr k.word) AC,q _ _ s4 (qE g k) (qF ((By hp).free hm) k)⟩
theorem ax(T:Tx K mg):HL.Et P w K mg base 2 926 Ak ZK:=by
 have d:=@aw P w K mg base T;refine(T.df 43 rfl).ok cJ (λvs H Q E h=>?_) (λcdv A outer s H vs Q E C h=>?_)
 ·obtain⟨v,k,n,rfl,_⟩:=h;rfl
 ·obtain⟨v,k,n,rfl,r,o,h0,h1,q⟩:=h;refine⟨_,AV (BH (Bp De (Cp CW (pv 0) AH (λ_ _=>rfl)) AQ (Bw _)) (AD (AN DA))
    Bd)
   (AV (BH (Bp De (Cp CW (pv 0) AH (λ_ _=>rfl)) AQ (Bw _)) (AD (AN (Hb Ri (Cp CM (AW d (C.mono Aa) T.Tp (Ax (pv 1) (Ax AH AA))) AH (λ_ _=>rfl)) Iz (Iy (Cp CW (pv 0) AH (λ_ _=>rfl))))))
    Bd)
   (AV (BH (Bp De (Cp CW (pv 0) AH (λ_ _=>rfl)) AQ (Bw _)) (AD (AN (Cp CM (CP (Ax AH (Ax (Cp CW (pv 0) AH (λ_ _=>rfl)) (Ax (Bz Df (pv 1) (Bz Dg (Cp CW (pv 0) AH (λ_ _=>rfl)) AH)) AA)))) (Bz Df (Bz Ej (pv 1) AH) AH) (λ_ _=>rfl))))
    Bd)
   (AV (BH (Bp De (Cp CW (pv 0) AH (λ_ _=>rfl)) AQ (Bw _)) (AD (AN (Cp CM (CP (Ax (PX Lz AH) (Ax AH (Ax (pv 1) (Ax (Bz cR AH (pv 1)) AA))))) (Bz Df (Bz Ej (pv 1) AH) AH) (λ_ _=>rfl))))
    Bd)
   (AD (AN (Cp CM (CP (Ax AH (Ax AH (Ax AH (Ax (pv 1) AA))))) (Bz Df (Bz Ej (pv 1) AH) AH) (λ_ _=>rfl))))))),?_⟩
  obtain⟨t,ys,rfl,e⟩:=r.word;refine⟨_,rfl,t,_,_,_,rfl,rfl,DW.of e,GQ,rfl,_,rfl,?_⟩;cases k with
  |form i=>exact o.elim
  |list k=>exact o.elim
  |truth=>exact HR rfl (q _ rfl _ H (Be.refl _) rfl)
  |text c=>
   obtain⟨t',u,f⟩:=r;obtain rfl:t=t':=V.ref.inj u;refine Dk (show ¬V.str "text"=V.str "truth" by decide+kernel) ⟨_,rfl,t,_,_,_,rfl,rfl,DW.of e,GQ,rfl,_,rfl,HR rfl ?_⟩;refine⟨_,rfl,n,1,rfl,h0,h1,Aa,λzs hz hok l H2 I s2 G=>?_⟩
   match zs,hz with
   |[z],_=>
    have g:=(hok.ok z (AM.mpr rfl)).1;have j:=(Gj g).2.1;obtain⟨B,y⟩:=jL g o.1;refine⟨l,_,_,_,rfl,rfl,Cj.of G,GQ,_,rfl,t,_,_,_,rfl,rfl,DW.of (s2 _ _ f),Zl,_,rfl,z,rfl,AJ j Aa,?_⟩;refine q _ ⟨_,rfl,B,y⟩ _ _ s2 ⟨rfl,?_⟩;exact AJ (RH _ _ _) (AJ j Aa)
  |upto m=>
   obtain⟨t',u,f⟩:=r;obtain rfl:t=t':=V.ref.inj u;refine Dk (show ¬V.str "upto"=V.str "truth" by decide+kernel) ⟨_,rfl,t,_,_,_,rfl,rfl,DW.of e,GQ,rfl,_,rfl,Dk (show ¬V.str "upto"=V.str "text" by decide+kernel) ⟨_,rfl,t,_,_,_,rfl,rfl,DW.of e,GQ,rfl,_,rfl,HR rfl ?_⟩⟩;have F:1<=m:=o.1;have D:=Hk n (b:=m+1) (by lia);refine⟨_,rfl,t,_,_,_,rfl,rfl,DW.of f,Zl,_,rfl,_,rfl,t,_,_,_,rfl,rfl,DW.of f,Zl,_,_,rfl,rfl,_,_,rfl,rfl,(by show(0:Int) <m+1;lia),zl 3,λp hp=>?_⟩;obtain⟨x,hx,a⟩:=UT (xs:=([1,m,n% (m+1)]:List Int).map V.int) (i:=n/7%3) (by lia) (by rw[Ay];show n/7%3<3;lia);obtain⟨i,rfl,hi⟩:=Lh (P:=λi=>0<=i/\i<=m) (by
    intro i hi;simp only[AU,BL,or_false]at hi;rcases hi with rfl|rfl|rfl <;> lia) a
   exact⟨_,rfl,_,_,rfl,rfl,⟨Aa,Aa⟩,_,_,rfl,rfl,(by show(0:Int) <3;decide),p,_,_,_,rfl,rfl,Cj.of AC,hx,q _ ⟨i,rfl,hi⟩ _ _ (By hp) rfl⟩
  |whole=>
   refine Dk Ab ⟨_,rfl,t,_,_,_,rfl,rfl,DW.of e,GQ,rfl,_,rfl,Dk Ab ⟨_,rfl,t,_,_,_,rfl,rfl,DW.of e,GQ,rfl,_,rfl,Dk Ab ⟨_,rfl,t,_,_,_,rfl,rfl,DW.of e,GQ,rfl,_,rfl,HR rfl ?_⟩⟩⟩;refine⟨_,rfl,_,rfl,_,rfl,_,_,rfl,rfl,zl 4,λp hp=>?_⟩;obtain⟨x,hx,a⟩:=UT (xs:=([-1,1,n,0 - n]:List Int).map V.int) (i:=n/7%4) (by lia) (by rw[Ay];show n/7%4<4;lia);obtain⟨i,rfl,hi⟩:=Lh (P:=λi=>-2147483648<=i/\i<=2147483648) (by
    intro i hi;simp only[AU,BL,or_false]at hi;rcases hi with rfl|rfl|rfl|rfl <;> lia) a
   exact⟨_,rfl,_,_,rfl,rfl,⟨Aa,Aa⟩,_,_,rfl,rfl,(by show(0:Int) <4;decide),p,_,_,_,rfl,rfl,Cj.of AC,hx,q _ ⟨i,rfl,hi⟩ _ _ (By hp) rfl⟩
  |count=>
   refine Dk Ab ⟨_,rfl,t,_,_,_,rfl,rfl,DW.of e,GQ,rfl,_,rfl,Dk Ab ⟨_,rfl,t,_,_,_,rfl,rfl,DW.of e,GQ,rfl,_,rfl,Dk Ab ⟨_,rfl,t,_,_,_,rfl,rfl,DW.of e,GQ,rfl,_,rfl,Dk Ab ?_⟩⟩⟩;refine⟨_,rfl,zl 4,λp hp=>?_⟩;obtain⟨x,hx,a⟩:=UT (xs:=([1,127,128,n]:List Int).map V.int) (i:=n/7%4) (by lia) (by rw[Ay];show n/7%4<4;lia);obtain⟨i,rfl,hi⟩:=Lh (P:=λi=>0<=i/\i<=2147483648) (by
    intro i hi;simp only[AU,BL,or_false]at hi;rcases hi with rfl|rfl|rfl|rfl <;> lia) a
   exact⟨_,rfl,_,_,rfl,rfl,⟨Aa,Aa⟩,_,_,rfl,rfl,(by show(0:Int) <4;decide),p,_,_,_,rfl,rfl,Cj.of AC,hx,q _ ⟨i,rfl,hi⟩ _ _ (By hp) rfl⟩
structure SF where
 num:Int
 nam:Bc
 kind:Lk
 must:Bool
 dfl:Dt
def Yv(f:SF)(a b:V):List (Gk×V):=[(.inr "number",.int f.num),(.inr "name",.str f.nam),(.inr "kind",a),(.inr "must",.bl f.must),(.inr "default",b)]
def UW(H:Hp)(f:SF)(v:V):Prop:=∃a b c,v= .ref a/\H a=some (.dK (Yv f b c))/\TL H f.kind b/\Th H f.dfl c
def lp(H0 H:Hp)(f:SF)(v:V):Prop:=∃a c b,v= .ref a/\H a=some (.dK (Yv f c b))/\TL H f.kind c/\Th H f.dfl b/\Fz H0 b
theorem UW.sm{H H':Hp}(s:Sm H H'){f:SF}{v:V}:UW H f v->UW H' f v:=λb=>by
 obtain⟨a,c,d,e,h,h1,h2⟩:=b;exact⟨a,c,d,e,s _ _ h rfl,h1.sm s,Th.sm s _ _ h2⟩
theorem gp(f:SF)(a b:V):IR (Yv f a b) (.inr "number")=some (.int f.num):=by kernel_rfl
theorem lX(f:SF)(a b:V):IR (Yv f a b) (.inr "name")=some (.str f.nam):=by kernel_rfl
theorem lZ(f:SF)(a b:V):IR (Yv f a b) (.inr "kind")=some a:=by kernel_rfl
theorem lY(f:SF)(a b:V):IR (Yv f a b) (.inr "must")=some (.bl f.must):=by kernel_rfl
theorem cA(f:SF)(b a:V):IR (Yv f b a) (.inr "default")=some a:=by kernel_rfl
structure ll(m:Nat)(W:List Int)(c:Bool)(f:SF):Prop where
 kind:f.kind.ok m
 must:c=true->f.must=false
 light:∀i,f.kind= .form i->f.must=true->W.getD i 0<=8
 dfl:f.dfl=Dy f.kind\/(f.must=false/\c=false/\QG f.kind f.dfl)
def Fb(W:List Int):Lk->Int
 |.form i=>W.getD i 0
 |_=>1
def Hj(W:List Int)(c:Bool)(fs:List SF):Int:=if c then 1+Uv (fs.map λf=>Fb W f.kind)else 1+ ((fs.filter (·.must)).map λf=>Fb W f.kind).sum
def vg(W:List Int):Prop:=∀x∈W,0<=x/\x<=1000
theorem mU{W:List Int}(h:vg W){m:Nat}(hm:W.length=m){k:Lk}(a:k.ok m):0<=Fb W k/\Fb W k<=1000:=by
 cases k with
 |form i=>
  have hi:i<W.length:=by rw[hm];exact a
  show 0<=W.getD i 0/\W.getD i 0<=1000;rw[AL,Az hi];exact h _ (NG hi)
 |_=>exact jw
def iF:Sp:=λvs H Q _=>∃(n mark:Int) (nm:Bc) (m:Nat) (wl:AE) (W:List Int) (c:Bool),vs=[.int n,.int mark,.str nm,.int m,.ref wl,.bl c]/\H wl=some (.lst (W.map V.int))/\W.length=m/\0<=n/\n<2147483648/\∀f,f.num=mark->f.nam=nm->ll m W c f->(∀i,f.kind= .form i->n%16=3\/n%16=14)->∀u H',Be H H'->lp H H' f u->Q u H'
def lP:Sp:=λvs H Q _=>∃v k wl W,vs=[v,.ref wl]/\TL H k v/\H wl=some (.lst (JL V.int W))/\k.ok W.length/\Q (.int (Fb W k)) H
theorem jZ(k:Lk):L2.Vn (.str k.word) [.str "list",.str "form"]=(match k with|.list _=>true|.form _=>true|_=>false):=by
 cases k with
 |truth=>exact(by decide+kernel:L2.Vn (.str "truth") [.str "list",.str "form"]=false)
 |count=>exact(by decide+kernel:L2.Vn (.str "count") [.str "list",.str "form"]=false)
 |whole=>exact(by decide+kernel:L2.Vn (.str "whole") [.str "list",.str "form"]=false)
 |upto n=>exact(by decide+kernel:L2.Vn (.str "upto") [.str "list",.str "form"]=false)
 |text n=>exact(by decide+kernel:L2.Vn (.str "text") [.str "list",.str "form"]=false)
 |form z=>exact(by decide+kernel:L2.Vn (.str "form") [.str "list",.str "form"]=true)
 |list j=>exact(by decide+kernel:L2.Vn (.str "list") [.str "list",.str "form"]=true)
theorem ii{k:Lk}:decide (V.str k.word=V.str "form")=(match k with|.form _=>true|_=>false):=by
 cases k with
 |truth=>exact(by decide+kernel:decide (V.str "truth"=V.str "form")=false)
 |count=>exact(by decide+kernel:decide (V.str "count"=V.str "form")=false)
 |whole=>exact(by decide+kernel:decide (V.str "whole"=V.str "form")=false)
 |upto n=>exact(by decide+kernel:decide (V.str "upto"=V.str "form")=false)
 |text n=>exact(by decide+kernel:decide (V.str "text"=V.str "form")=false)
 |form z=>exact(by decide+kernel:decide (V.str "form"=V.str "form")=true)
 |list j=>exact(by decide+kernel:decide (V.str "list"=V.str "form")=false)
theorem YX: [V.str "list",.str "form"].all Nr=true:=by decide+kernel
def rG(a b c d:V):List (Gk×V):=[(.inr "number",a),(.inr "name",b),(.inr "kind",c),(.inr "must",d)]
theorem qb(a b c d:V):Kt [] (rG a b c d)=rG a b c d:=by kernel_rfl
theorem ut(f:SF)(a b:V):JQ (rG (.int f.num) (.str f.nam) a (.bl f.must)) (.inr "default") b=Yv f a b:=by kernel_rfl
theorem rP(f a:SF)(b c dw:V)(h1:a.num=f.num)(h2:a.nam=f.nam)(h3:a.must=f.must):JQ (Yv f b c) (.inr "default") dw=Yv a b dw:=by
 unfold Yv;rw[h1,h2,h3];kernel_rfl
theorem li{H:Hp}{k:Lk}{u:V}{p:AE}{kvs:List (Gk×V)}{o:HO}(hp:H p=some (.dK kvs))(h:Th H (Dy k) u):Th (upd H p o) (Dy k) u:=by
 cases k with
 |list k=>
  obtain⟨a,xs,rfl,ha,hx,b⟩:=h;refine⟨a,xs,rfl,?_,hx,b⟩;rw[Bb]
  ·exact ha
  ·rintro rfl;rw[hp]at ha;cases ha
 |_=>exact h
theorem lj{H:Hp}{p:AE}{kvs:List (Gk×V)}{o:HO}(hp:H p=some (.dK kvs)):∀{k:Lk} {u:V},TL H k u->TL (upd H p o) k u:=by
 have ne:∀{a:AE} {xs:List V},H a=some (.tup xs)->upd H p o a=some (.tup xs):=λe=>by
  rw[Bb]
  ·exact e
  ·rintro rfl;rw[hp]at e;cases e
 intro k;induction k with
 |truth=>exact λl=>(by obtain⟨a,e,h⟩:=l;exact⟨a,e,ne h⟩)
 |count=>exact λi=>(by obtain⟨a,e,h⟩:=i;exact⟨a,e,ne h⟩)
 |whole=>exact λg=>(by obtain⟨a,e,h⟩:=g;exact⟨a,e,ne h⟩)
 |upto n=>exact λf=>(by obtain⟨a,e,h⟩:=f;exact⟨a,e,ne h⟩)
 |text n=>exact λd=>(by obtain⟨a,e,h⟩:=d;exact⟨a,e,ne h⟩)
 |form n=>exact λc=>(by obtain⟨a,e,h⟩:=c;exact⟨a,e,ne h⟩)
 |list k m=>exact λb=>(by obtain⟨a,u,e,h,j⟩:=b;exact⟨a,u,e,ne h,m j⟩)
theorem oX{H H':Hp}{k:Lk}{d:Dt}{u:V}(hd:QG k d)(h:Th H d u):Th H' d u:=by
 cases k with
 |truth=>rw[show d= .bl true from hd]at h ⊢;exact h
 |text n=>obtain⟨z,rfl,_⟩:=hd;exact h
 |upto m=>obtain⟨i,rfl,_⟩:=hd;exact h
 |whole=>obtain⟨i,rfl,_⟩:=hd;exact h
 |count=>obtain⟨i,rfl,_⟩:=hd;exact h
 |form i=>exact hd.elim
 |list k=>exact hd.elim
theorem so{H H0:Hp}{k:Lk}{d:Dt}{u:V}(hd:QG k d)(h:Th H d u):Fz H0 u:=by
 intro m e;subst e;cases k with
 |truth=>rw[show d= .bl true from hd]at h;cases h
 |text n=>obtain⟨z,rfl,_⟩:=hd;cases h.1
 |upto m=>obtain⟨i,rfl,_⟩:=hd;cases h
 |whole=>obtain⟨i,rfl,_⟩:=hd;cases h
 |count=>obtain⟨i,rfl,_⟩:=hd;cases h
 |form i=>exact hd.elim
 |list k=>exact hd.elim
theorem au{m:Nat}{k:Lk}(h:k.ok m)(h1:∀j,k≠ .list j)(h2:∀i,k≠ .form i):k.plain:=by
 cases k with
 |list j=>exact wo rfl (h1 j)
 |form i=>exact wo rfl (h2 i)
 |_=>exact h
theorem mL(T:Tx K mg):HL.Et P w K mg base 1 940 Al lP:=by
 refine(T.df 45 rfl).ok mh (λvs H Q E h=>?_) (λcdv A outer s H vs Q E g h=>?_)
 ·obtain⟨v,k,wl,W,rfl,_⟩:=h;rfl
 ·obtain⟨v,k,wl,W,rfl,b,hw,d,q⟩:=h;refine⟨_,AD (AN (Gb (Bp De (Cp CW (pv 0) AH (λ_ _=>rfl)) AQ (Bw _)) (Cp CM (pv 1) (Cp CW (pv 0) AH (λ_ _=>rfl)) (λ_ _=>rfl)) AH)),?_⟩;obtain⟨t,ys,rfl,c⟩:=b.word;refine⟨_,rfl,t,_,_,_,rfl,rfl,DW.of c,GQ,rfl,_,rfl,?_⟩;rw[ii];cases k with
  |form i=>
   obtain⟨t',f,a⟩:=b;obtain rfl:t=t':=V.ref.inj f;have hi:i<W.length:=d;refine CY ⟨_,rfl,_,rfl,t,_,_,_,rfl,rfl,DW.of a,Zl,wl,_,_,_,rfl,rfl,Cj.of hw,HY (j:=i) (by rw[AT,Az hi];rfl),?_⟩;have e:Fb W (.form i)=W[i]'hi:=by show W.getD i 0=_;rw[AL,Az hi];rfl
   rw[e]at q;exact q
  |_=>exact Ch q
theorem jG(T:Tx K mg):HL.Et P w K mg base 4 933 ["_law_number_here","_law_mark","_law_name","_law_ahead","_law_weights","_law_is_choice"] iF:=by
 have C:=@jC P w K mg base T;have x:=@Rr P w K mg base T;have o:=@ax P w K mg base T;refine(T.df 44 rfl).ok MZ (λvs H Q E h=>?_) (λcdv A outer s H vs Q E U h=>?_)
 ·obtain⟨n,mark,nm,m,wl,W,c,rfl,_⟩:=h;rfl
 ·obtain⟨n,mark,nm,m,wl,W,c,rfl,hw,Y,h0,h1,q⟩:=h;have hu:=U.units;have J:=BS (BA (show 1<=64 by decide) _) hu;refine⟨_,Bh (BV (i:=6) MZ.nd rfl (Bn rfl) (AW C (U.mono Aa) (T.d2 41 rfl λ_ _ _ _ _ _ _ _=>rfl) (Ax (pv 0) (Ax (pv 3) AA)))) (Bh (BV (i:=7) MZ.nd rfl (Bn rfl) (Io (jp (pv 5)) (Im (EY De (Bz Df (Bz Ej (pv 0) AH) AH) AH (Bw _))))) (Bh (BH (PW.pt (Gm (Bp De (Cp CW (pv 6) AH (λ_ _=>rfl)) AQ (Bw _)) (Fv (BI (pv 7))))) (AD (BV (i:=7) MZ.nd rfl (Bn rfl) (EY Xg (Cp CM (pv 4) (Cp CW (pv 6) AH (λ_ _=>rfl)) (λ_ _=>rfl)) AH (Bw _))))
    Bd)
   (Bh (BV (i:=8) MZ.nd rfl (Bn rfl) (YJ (GC AQ (pv 1) (GC AQ (pv 2) (GC AQ (pv 6) (GC AQ (pv 7) YH)))) rfl rfl Aa Aa))
   (Bh (Tc J (pv 8) AQ (AW x (U.mono Aa) T.Pw (Ax (pv 6) AA)) rfl)
   (Bh (BH (PW.pt (Gm (Bp Qa (Cp CW (pv 6) AH (λ_ _=>rfl)) (DG (Ax AQ (Ax AQ AA))) rfl) (Gm (CK (BI (pv 7))) (Gm (CK (BI (pv 5))) (Fv (Bp De (Bz Df (Bz Ej (pv 0) AH) AH) AH (Bw _))))))) (AD (Tc J (pv 8) AQ (AW o (U.mono Aa) (T.d2 43 rfl λ_ _ _ _ _ _ _ _=>rfl) (Ax (pv 6) (Ax (Bz Ej (pv 0) AH) AA))) rfl))
    Bd)
   (AD (AN (pv 8)))))))),?_⟩
  refine Cq (λa H'=>∃(k:Lk) (g:V),k.ok m/\(∀i,k= .form i->n%16=3\/n%16=14)/\TL H' k g/\Be H H'/\a=[some (.int n),some (.int mark),some (.str nm),some (.int m),some (.ref wl),some (.bl c),some g,none,none]) ?_ ?_
  ·exact⟨_,rfl,_,rfl,n,m,rfl,h0,h1,λk M hf u H' s' R=>⟨k,u,M,hf,R,s',rfl⟩⟩
  rintro a H1 ⟨k,g,M,hf,R,s1,rfl⟩;refine Cq (λa H'=>∃b:Bool,(c=true->b=false)/\H1=H'/\a=[some (.int n),some (.int mark),some (.str nm),some (.int m),some (.ref wl),some (.bl c),some g,some (.bl b),none]) ?_ ?_
  ·refine⟨_,rfl,_,rfl,_,rfl,?_⟩;cases c with
   |true=>exact Ch ⟨false,λ_=>rfl,rfl,rfl⟩
   |false=>exact CY ⟨_,rfl,_,_,rfl,rfl,⟨Aa,Aa⟩,_,_,rfl,rfl,(by show(0:Int) <4;decide),rfl,⟨_,λz=>(by cases z),rfl,rfl⟩⟩
  rintro a b3 ⟨b0,N,rfl,rfl⟩;refine Cq (λa H'=>∃b:Bool,(c=true->b=false)/\(∀i,k= .form i->b=true->W.getD i 0<=8)/\H1=H'/\a=[some (.int n),some (.int mark),some (.str nm),some (.int m),some (.ref wl),some (.bl c),some g,some (.bl b),none]) ?_ ?_
  ·obtain⟨t,ys,rfl,ht⟩:=R.word;refine⟨_,rfl,t,_,_,_,rfl,rfl,DW.of ht,GQ,rfl,_,rfl,?_⟩;rw[ii];cases k with
   |form i=>
    obtain⟨t',e',a0⟩:=R;obtain rfl:t=t':=V.ref.inj e';refine CY ⟨_,rfl,_,rfl,?_⟩;cases b0 with
    |false=>exact Ch ⟨false,λ_=>rfl,(λ_ _ z=>by cases z),rfl,rfl⟩
    |true=>
     have hi:i<W.length:=by rw[Y];exact M
     refine CY ⟨_,rfl,_,rfl,t,_,_,_,rfl,rfl,DW.of a0,Zl,wl,_,_,_,rfl,rfl,Cj.of (s1 _ _ hw),HY (j:=i) (by rw[AT,Az hi];rfl),_,_,rfl,rfl,?_⟩;refine⟨_,λhc=>wo (N hc) Aa,λj ej hb=>?_,rfl,rfl⟩;cases ej;rw[AL,Az hi];exact wj hb
   |_=>exact Ch ⟨b0,N,(λ_ z=>by cases z),rfl,rfl⟩
  rintro a b3 ⟨b,hb,a5,rfl,rfl⟩;refine Cq (λa H'=>∃p,H p=none/\TL H' k g/\Be H H'/\H' p=some (.dK (rG (.int mark) (.str nm) g (.bl b)))/\a=[some (.int n),some (.int mark),some (.str nm),some (.int m),some (.ref wl),some (.bl c),some g,some (.bl b),some (.ref p)]) ?_ ?_
  ·refine λp hp=>⟨_,rfl,_,rfl,_,rfl,_,rfl,AC,rG (.int mark) (.str nm) g (.bl b),rfl,by show 4<=15;decide,p,?_,?_,?_,?_,rfl⟩
   ·exact s1.free hp
   ·rw[Iv];exact R.sm (Sm.of (By hp))
   ·rw[Iv];exact s1.trans (By hp)
   ·rw[AC,qb]
  rintro a H2 ⟨p,L,O,s2,hp,rfl⟩;refine Cq (λa H'=>∃l,TL H' k g/\Th H' (Dy k) l/\Fz H l/\Be H H'/\H' p=some (.dK (Yv ⟨mark,nm,k,b,Dy k⟩ g l))/\a=[some (.int n),some (.int mark),some (.str nm),some (.int m),some (.ref wl),some (.bl c),some g,some (.bl b),some (.ref p)]) ?_ ?_
  ·refine⟨_,rfl,g,k,rfl,O,λu H3 D Z F=>⟨_,rfl,p,_,rfl,bD.k (k:=.inr "default") (D _ _ hp) (by show 4<sizeLine;decide),u,?_,?_,(λm e=>s2.free (F m e)),?_,?_,rfl⟩⟩
   ·exact lj (D _ _ hp) (O.sm (Sm.of D))
   ·exact li (D _ _ hp) Z
   ·exact(s2.trans D).put L
   ·rw[AC,<-ut ⟨mark,nm,k,b,Dy k⟩ g u]
  rintro a H3 ⟨l,B,a7,F,D,G,rfl⟩;refine Cq (λa H'=>∃f l,f.num=mark/\f.nam=nm/\f.kind=k/\f.must=b/\(f.dfl=Dy k\/(b=false/\c=false/\QG k f.dfl))/\TL H' k g/\Th H' f.dfl l/\Fz H l/\Be H H'/\H' p=some (.dK (Yv f g l))/\a=[some (.int n),some (.int mark),some (.str nm),some (.int m),some (.ref wl),some (.bl c),some g,some (.bl b),some (.ref p)]) ?_ ?_
  ·have keep:∀H',Be H3 H'->∃f l,f.num=mark/\f.nam=nm/\f.kind=k/\f.must=b/\(f.dfl=Dy k\/(b=false/\c=false/\QG k f.dfl))/\TL H' k g/\Th H' f.dfl l/\Fz H l/\Be H H'/\H' p=some (.dK (Yv f g l))/\[some (V.int n),some (.int mark),some (.str nm),some (.int m),some (.ref wl),some (.bl c),some g,some (.bl b),some (.ref p)]=[some (.int n),some (.int mark),some (.str nm),some (.int m),some (.ref wl),some (.bl c),some g,some (.bl b),some (.ref p)]:=λH' s'=>⟨⟨mark,nm,k,b,Dy k⟩,l,rfl,rfl,rfl,rfl,.inl rfl,B.sm (Sm.of s'),Th.sm (Sm.of s') _ _ a7,F,D.trans s',s' _ _ G,rfl⟩;obtain⟨t,ys,rfl,ht⟩:=B.word;refine⟨_,rfl,t,_,_,_,rfl,rfl,DW.of ht,GQ,zl 2,λr a2=>⟨r,_,rfl,.inr (DW.of AC),rfl,YX,_,rfl,?_⟩⟩;have s4:=By (H:=H3) (u:=.tup [.str "list",.str "form"]) a2;rw[jZ];by_cases v: (∃j,k= .list j)\/∃i,k= .form i
   ·rcases v with⟨j,rfl⟩|⟨i,rfl⟩
    ·exact Ch (keep _ s4)
    ·exact Ch (keep _ s4)
   ·have a3:=au M (λj e=>v (.inl ⟨j,e⟩)) (λi e=>v (.inr ⟨i,e⟩));have e1: (match k with|.list _=>true|.form _=>true|_=>false)=false:=by
     cases k with
     |list j=>exact wo (.inl ⟨j,rfl⟩) v
     |form i=>exact wo (.inr ⟨i,rfl⟩) v
     |_=>rfl
    rw[e1];refine CY ⟨_,rfl,_,rfl,?_⟩;cases b with
    |true=>exact Ch (keep _ s4)
    |false=>
     refine CY ⟨_,rfl,_,rfl,?_⟩;cases c with
     |true=>exact Ch (keep _ s4)
     |false=>
      refine CY ⟨_,rfl,_,_,rfl,rfl,⟨Aa,Aa⟩,_,_,rfl,rfl,(by show(0:Int) <3;decide),rfl,_,rfl,FT (λ_=>?_) (λ_=>keep _ s4)⟩;refine⟨_,rfl,_,rfl,_,_,rfl,rfl,⟨Aa,Aa⟩,_,k,n/5,rfl,B.sm (Sm.of s4),a3,by lia,by lia,λd hd u H5 s5 I=>?_⟩;have y:=s4.trans s5;refine⟨_,rfl,p,_,rfl,bD.k (k:=.inr "default") (y _ _ G) (by show 5<sizeLine;decide),⟨mark,nm,k,false,d⟩,u,rfl,rfl,rfl,rfl,.inr ⟨rfl,rfl,hd⟩,lj (y _ _ G) (B.sm (Sm.of y)),oX hd I,so hd I,(D.trans y).put L,?_,rfl⟩;rw[AC,rP ⟨mark,nm,k,false,Dy k⟩ ⟨mark,nm,k,false,d⟩ _ l u rfl rfl rfl]
  rintro a H4 ⟨f,l,e1,e2,S,e4,hd,a8,a6,X,s4,a4,rfl⟩;refine⟨_,rfl,q f e1 e2 ⟨by rw[S];exact M,λhc=>by rw[e4];exact hb hc,λi e hm=>a5 i (by rw[<-S];exact e) (by rw[<-e4];exact hm),by rw[S,e4];exact hd⟩ (λi e=>hf i (by rw[<-S];exact e)) _ _ s4 ⟨p,g,l,rfl,a4,by rw[S];exact a8,a6,X⟩⟩
structure SG where
 nam:Bc
 choice:Bool
 gone:List Int
 fields:List SF
def iQ(g:SG)(gl fl:AE):List (Gk×V):=[(.inr "name",.str g.nam),(.inr "choice",.bl g.choice),(.inr "gone",.ref gl),(.inr "fields",.ref fl)]
def SQ(H:Hp)(g:SG)(v:V):Prop:=∃a gl fl xs,v= .ref a/\H a=some (.dK (iQ g gl fl))/\H gl=some (.lst (g.gone.map V.int))/\H fl=some (.lst xs)/\Paired (UW H) g.fields xs
theorem SQ.sm{H H':Hp}(s:Sm H H'){g:SG}{v:V}:SQ H g v->SQ H' g v:=λb=>by
 obtain⟨a,gl,fl,xs,e,h,h1,h2,h3⟩:=b;exact⟨a,gl,fl,xs,e,s _ _ h rfl,s _ _ h1 rfl,s _ _ h2 rfl,L2.Paired.imp' (λ_ _ z=>z.sm s) h3⟩
theorem lU(g:SG)(gl fl:AE):IR (iQ g gl fl) (.inr "name")=some (.str g.nam):=by kernel_rfl
theorem gm(g:SG)(gl fl:AE):IR (iQ g gl fl) (.inr "choice")=some (.bl g.choice):=by kernel_rfl
theorem lW(g:SG)(gl fl:AE):IR (iQ g gl fl) (.inr "gone")=some (.ref gl):=by kernel_rfl
theorem gk(g:SG)(gl fl:AE):IR (iQ g gl fl) (.inr "fields")=some (.ref fl):=by kernel_rfl
section
variable{H:Hp}{p:AE}
theorem Dn{f:SF}{a b:V}(h:H p=some (.dK (Yv f a b))):Hf H p (.str "number") (some (.int f.num)):=by
 have:=Hf.k (k:=.inr "number") h;rw[gp]at this;exact this
theorem Fd{f:SF}{a b:V}(h:H p=some (.dK (Yv f a b))):Hf H p (.str "name") (some (.str f.nam)):=by
 have:=Hf.k (k:=.inr "name") h;rw[lX]at this;exact this
theorem DD{f:SF}{a b:V}(h:H p=some (.dK (Yv f a b))):Hf H p (.str "kind") (some a):=by
 have:=Hf.k (k:=.inr "kind") h;rw[lZ]at this;exact this
theorem Kd{f:SF}{a b:V}(h:H p=some (.dK (Yv f a b))):Hf H p (.str "must") (some (.bl f.must)):=by
 have:=Hf.k (k:=.inr "must") h;rw[lY]at this;exact this
theorem EI{f:SF}{b a:V}(h:H p=some (.dK (Yv f b a))):Hf H p (.str "default") (some a):=by
 have:=Hf.k (k:=.inr "default") h;rw[cA]at this;exact this
theorem Eo{g:SG}{gl fl:AE}(h:H p=some (.dK (iQ g gl fl))):Hf H p (.str "name") (some (.str g.nam)):=by
 have:=Hf.k (k:=.inr "name") h;rw[lU]at this;exact this
theorem Hc{g:SG}{gl fl:AE}(h:H p=some (.dK (iQ g gl fl))):Hf H p (.str "choice") (some (.bl g.choice)):=by
 have:=Hf.k (k:=.inr "choice") h;rw[gm]at this;exact this
theorem Kc{g:SG}{gl fl:AE}(h:H p=some (.dK (iQ g gl fl))):Hf H p (.str "gone") (some (.ref gl)):=by
 have:=Hf.k (k:=.inr "gone") h;rw[lW]at this;exact this
theorem Fp{g:SG}{gl fl:AE}(h:H p=some (.dK (iQ g gl fl))):Hf H p (.str "fields") (some (.ref fl)):=by
 have:=Hf.k (k:=.inr "fields") h;rw[gk]at this;exact this
end
def cb:Sp:=λvs H Q _=>∃v g wl W,vs=[v,.ref wl]/\SQ H g v/\H wl=some (.lst (JL V.int W))/\vg W/\(∀f∈g.fields,f.kind.ok W.length)/\g.fields.length<40/\(g.choice=true->g.fields≠[])/\∀H',Be H H'->Q (.int (Hj W g.choice g.fields)) H'
theorem rX: ((Aw:List Bc) ++ (["_law_weights"]:List Bc)).Nodup:=by decide+kernel
theorem Uk(T:Tx K mg):HL.Et P w K mg base 2 945 Am cb:=by
 have c:=@mL P w K mg base T;refine(T.df 46 rfl).ok ZQ (λvs H Q E h=>?_) (λcdv A outer s H vs Q E z h=>?_)
 ·obtain⟨v,g,wl,W,rfl,_⟩:=h;rfl
 ·obtain⟨v,g,wl,W,rfl,⟨a,gl,fl,xs,rfl,ha,hgl,n,N⟩,hw,hW,L,hz,hne,q⟩:=h;have S:=z.units;have k:=BS (BA (show 1<=64 by decide) _) S;refine⟨_,AV (BH (BI (BK k (pv 0) AQ (λ_ _=>rfl))) (AD (AN (Bz Dg AH (Bl (OL rfl) rfl T.og kP (Ax (CJ (ts:=Aw) (xs:=["_law_weights"]) (js:=[1]) rfl ⟨rfl,rfl,Ab,Ab,CZ rfl⟩ (.cons rfl (.inl rfl) rfl .nil) Ab (CU (BK k (pv 0) AQ (λ_ _=>rfl))) (λC s_ H_ fp=>Cb (X:=Di _ _ _ C s_ H_ fp) (i:=0) rX rfl (Bn rfl) (Cw rfl)) (λC s_ H_ fp=>CT (X:=Di _ _ _ C s_ H_ fp)) (λC s_ H_ fp=>AW (X:=Di _ _ _ C s_ H_ fp) c (z.mono Aa) T.dY (Ax (BK k (pv 0) AQ (λ_ _=>rfl)) (Ax (pv 1) AA)))) AA)))))
    Bd)
   (AD (AN (Bz Dg AH (Bl (OK rfl) rfl T.nZ kN (Ax (CJ (ts:=Aw) (xs:=["_law_weights"]) (js:=[1]) rfl ⟨rfl,rfl,Ab,Ab,CZ rfl⟩ (.cons rfl (.inl rfl) rfl .nil) Ab (CU (BK k (pv 0) AQ (λ_ _=>rfl))) (λC s_ H_ fp=>Cb (X:=Di _ _ _ C s_ H_ fp) (i:=0) rX rfl (Bn rfl) (Cw rfl)) (λC s_ H_ fp=>LP (X:=Di _ _ _ C s_ H_ fp) (BI (BK k (pv 0) AQ (λ_ _=>rfl)))) (λC s_ H_ fp=>AW (X:=Di _ _ _ C s_ H_ fp) c (z.mono Aa) T.dY (Ax (BK k (pv 0) AQ (λ_ _=>rfl)) (Ax (pv 1) AA)))) AA))))),?_⟩
  obtain⟨nam,choice,gone,fields⟩:=g;have o:fields.length=xs.length:=N.length;have O:fields.length<40:=hz;have one:∀(j:Nat) (y:V) (H2:Hp),Be H H2->xs[j]?=some y->∃f,fields[j]?=some f/\UW H2 f y/\f.kind.ok W.length:=λj y H2 s2 p=>by
   obtain⟨f,m,u⟩:=Hz N j y p;exact⟨f,m,u.sm (Sm.of s2),L f (AY m)⟩
  refine⟨_,rfl,a,_,rfl,Hc ha,_,rfl,?_⟩;cases choice with
  |true=>
   refine CY ⟨_,rfl,a,_,rfl,Fp ha,fl,rfl,⟨_,Cj.of n⟩,Dc (Wk.list (Cj.of n)) (by lia) (λj=>.int (match fields[j]? with|some f=>Fb W f.kind|none=>0)) (λj y p H2 R s2 G=>?_) (λD H2 hD s2 J=>?_)⟩
   ·obtain⟨f,m,⟨b,t,dv,rfl,hb,F,hd⟩,hok⟩:=one j y H2 s2 p;have l:=G H2 λ_ _ e=>e;rw[m]at l;exact⟨Sub.set rfl,_,rfl,b,_,rfl,DD hb,_,rfl,t,f.kind,wl,W,rfl,F,s2 _ _ hw,hok,l⟩
   ·have I:H2 D=some (.lst ((fields.map λf=>Fb W f.kind).map V.int)):=by
     rw[J,<-o,Il fields (λf=>V.int (Fb W f.kind)) _ (λi d hd=>by rw[hd]),Bi];rfl
    refine⟨D,_,rfl,Cj.of I,?_,λM h1 h2=>?_⟩
    ·rw[Ay];exact Kh.mpr (hne rfl)
    ·refine⟨_,_,rfl,rfl,?_⟩;rw[eT h1 h2];exact q _ s2
  |false=>
   refine Ch ⟨_,rfl,a,_,rfl,Fp ha,fl,rfl,⟨_,Cj.of n⟩,HB (Wk.list (Cj.of n)) (by lia) (λj=>match fields[j]? with|some f=>f.must|none=>false) (λj=>.int (match fields[j]? with|some f=>Fb W f.kind|none=>0)) (λj y p H2 R s2 G Z=>?_) (λD H2 hD s2 J=>?_)⟩
   ·obtain⟨f,m,⟨b,t,dv,rfl,hb,F,hd⟩,hok⟩:=one j y H2 s2 p;have l:=G H2 λ_ _ e=>e;have r:=Z H2 λ_ _ e=>e;rw[m]at l r;refine⟨Sub.set rfl,_,rfl,b,_,rfl,Kd hb,_,rfl,?_⟩;cases hm:f.must with
    |true=>exact CY ⟨_,rfl,b,_,rfl,DD hb,_,rfl,t,f.kind,wl,W,rfl,F,s2 _ _ hw,hok,l hm⟩
    |false=>exact Ch (r hm)
   ·have I:H2 D=some (.lst (((fields.filter (·.must)).map λf=>Fb W f.kind).map V.int)):=by
     rw[J,<-o,PU fields (·.must) (λf=>V.int (Fb W f.kind)) _ _ (λi d hd=>by rw[hd]) (λi d hd=>by rw[hd]),Bi];rfl
    have hb:∀x∈ (fields.filter (·.must)).map λf=>Fb W f.kind,0<=x/\x<=1000:=λx hx=>by
     obtain⟨f,B,rfl⟩:=Bg.mp hx;exact mU hW rfl (L _ (Eh.mp B).1)
    have U: ((fields.filter (·.must)).map λf=>Fb W f.kind).length<=40:=by
     rw[Ay];exact AJ (Fn _ _) (by lia)
    refine⟨D,_,rfl,I,λj m=>⟨?_,?_⟩,_,_,rfl,rfl,?_⟩
    ·have hx: ((fields.filter (·.must)).map λf=>Fb W f.kind)[j]?=some (((fields.filter (·.must)).map λf=>Fb W f.kind)[j]'m):=Az m;rw[AL,hx];have:=hb _ (AY hx);show InLong (((fields.filter (·.must)).map λf=>Fb W f.kind)[j]'m);exact⟨by lia,by lia⟩
    ·rw[Td _ _ (by lia)];have hs:=bU (ns:=((fields.filter (·.must)).map λf=>Fb W f.kind).take (j+1)) (b:=1000) λx hx=>hb x (Dp hx);have Y: (((fields.filter (·.must)).map λf=>Fb W f.kind).take (j+1)).length<=40:=by rw[BY];lia
     exact⟨by lia,by lia⟩
    ·rw[Td _ _ (AX _),Dh];exact q _ s2
section
variable{J:It}{H1:Hp}{xs:List V}{σ0:L2.St}{g:TG}{te:TE}{Q:VK}
theorem kK(W:Wk J H1 xs)(hz:xs.length<=1000)(f:Nat->Hp->V->Prop)(b:∀i H H' v,Be H H'->f i H v->f i H' v)(l:∀i H D zs us v,H D=some (.lst zs)->f i H v->f i (upd H D (.lst us)) v)(hs:∀(j:Nat) (x:V),xs[j]?=some x->∀(H:Hp) (R:VK),Be H1 H->(∀y H',Be H H'->f j H' y->R y H')->g x k H λh H2=>Sub k h/\te h H2 R)(hd:∀D H' ys,H1 D=none->Be H1 H'->H' D=some (.lst ys)->ys.length=xs.length->(∀(i:Nat) y,ys[i]?=some y->f i H' y)->Q (.ref D) H'):QJ J H1 k g WV te Q:=by
 intro D o;refine⟨λi m ys H=>m=xs.length - i/\i<=xs.length/\Be H1 H/\H D=some (.lst ys)/\ys.length=i/\∀(j:Nat) y,ys[j]?=some y->f j H y,⟨xs.length,by simp,Ci _,By o,AC,rfl,λj y e=>by simp at e⟩,?_⟩;rintro i m ys H ⟨rfl,hi,sm,a,n,hp⟩;refine⟨a,?_⟩;by_cases c:i<xs.length
 ·refine .inr ⟨W.go H i sm c,λx H' y=>?_⟩;obtain⟨e,hx⟩:=W.yld H i x H' sm c y;subst e;refine hs i x hx H' _ sm λy s s4 p=>?_;refine⟨s4 _ _ a,DC (by lia),xs.length - (i+1),by lia,rfl,c,(sm.trans s4).put o,AC,by rw[AZ,n];rfl,λj z d=>?_⟩;refine l _ _ _ _ _ _ (s4 _ _ a) ?_;by_cases q:j<i
  ·rw[El (by lia)]at d;exact b _ _ _ _ s4 (hp j z d)
  ·rw[Ds (by lia)]at d;have r:j=i:=by
    by_cases h0:j - ys.length=0
    ·lia
    ·rw[Cz (by simp;lia)]at d;cases d
   subst r;rw[n,Vf]at d;cases d;exact p
 ·have e:i=xs.length:=by lia
  subst e;exact .inl ⟨W.stop H _ sm rfl,hd D H ys o sm a n hp⟩
end
theorem Qv{xs:List V}{k:Nat}{a:Int}(h:a=(k:Int)):UO xs (some a) none=xs.drop k:=by
 subst h;unfold UO;rw[HT.sIx_nat];show(xs.drop (min k xs.length)).take (xs.length - min k xs.length)=_;by_cases c:k<=xs.length
 ·rw[Nat.min_eq_left c,IM (by rw[DR];exact AX _)]
 ·rw[Nat.min_eq_right (by lia),Vf,List.take_zero,Oi (by lia)]
def rm(l:List AE)(H:Hp):Hp:=λb=>if b∈l then none else H b
theorem Ix{l:List AE}{H:Hp}{b:AE}{o:HO}(h:rm l H b=some o):b∉l/\H b=some o:=by
 unfold rm at h;split at h
 ·cases h
 ·exact⟨by assumption,h⟩
theorem Jy{l:List AE}{H:Hp}{b:AE}{o:HO}(n:b∉l)(h:H b=some o):rm l H b=some o:=by
 unfold rm;rw[wk n];exact h
theorem Ka{l:List AE}{H H':Hp}(s:Be H H'):Be (rm l H) (rm l H'):=λb o e=>by
 obtain⟨n,e⟩:=Ix e;exact Jy n (s _ _ e)
theorem Ro{l:List AE}{H:Hp}{a:AE}{o:HO}(h:a∈l):Be (rm l H) (rm l (upd H a o)):=λb u e=>by
 obtain⟨n,e⟩:=Ix e;exact Jy n (by rw[Bb (λz=>n (by rw[z];exact h))];exact e)
theorem Uc{l:List AE}{H:Hp}:Be (rm l H) H:=λb u e=>(Ix e).2
theorem mi{l m:List AE}(h:∀a∈m,a∈l){H:Hp}:Be (rm l H) (rm m H):=λb u e=>by
 obtain⟨n,e⟩:=Ix e;exact Jy (λz=>n (h _ z)) e
theorem sW{H:Hp}{L:List AE}(o:∀a∈L,∃xs,H a=some (.lst xs)):∀{k:Lk} {u:V},TL H k u->TL (rm L H) k u:=by
 have ne:∀{a:AE} {xs:List V},H a=some (.tup xs)->rm L H a=some (.tup xs):=λe=>Jy (λz=>by
  obtain⟨ys,h⟩:=o _ z;rw[e]at h;cases h) e
 intro k;induction k with
 |truth=>exact λl=>(by obtain⟨a,e,h⟩:=l;exact⟨a,e,ne h⟩)
 |count=>exact λi=>(by obtain⟨a,e,h⟩:=i;exact⟨a,e,ne h⟩)
 |whole=>exact λg=>(by obtain⟨a,e,h⟩:=g;exact⟨a,e,ne h⟩)
 |upto n=>exact λf=>(by obtain⟨a,e,h⟩:=f;exact⟨a,e,ne h⟩)
 |text n=>exact λd=>(by obtain⟨a,e,h⟩:=d;exact⟨a,e,ne h⟩)
 |form n=>exact λc=>(by obtain⟨a,e,h⟩:=c;exact⟨a,e,ne h⟩)
 |list k m=>exact λb=>(by obtain⟨a,u,e,h,j⟩:=b;exact⟨a,u,e,ne h,m j⟩)
theorem sV{H0 H:Hp}{L:List AE}(c:∀a∈L,∃xs,H0 a=some (.lst xs)){k:Lk}{d:Dt}{u:V}(hd:d=Dy k\/QG k d)(h:Th H d u)(hz:Fz H0 u):Th (rm L H) d u:=by
 rcases hd with rfl|hd
 ·cases k with
  |list k=>
   obtain⟨a,xs,rfl,ha,hx,b⟩:=h;have n:a∉L:=λz=>by
    obtain⟨ys,h⟩:=c _ z;rw[hz a rfl]at h;cases h
   obtain rfl:xs=[]:=hx;exact⟨a,[],rfl,Jy n ha,rfl,b⟩
  |_=>exact h
 ·exact oX hd h
theorem lp.rm{H0 H:Hp}{L:List AE}(c:∀a∈L,∃xs,H0 a=some (.lst xs))(s:Be H0 H){f:SF}{v:V}(hd:f.dfl=Dy f.kind\/QG f.kind f.dfl):lp H0 H f v->UW (rm L H) f v:=λd=>by
  obtain⟨a,g,i,e,h,h1,h2,h3⟩:=d;have b:∀a∈L,∃xs,H a=some (.lst xs):=λa ha=>by obtain⟨xs,z⟩:=c a ha;exact⟨xs,s _ _ z⟩
  refine⟨a,g,i,e,Jy (λz=>?_) h,sW b h1,sV c hd h2 h3⟩;obtain⟨xs,z⟩:=b a z;rw[h]at z;cases z
def qu:Lk->Bool
 |.form _=>true
 |_=>false
theorem vr(p:Nat->Bool)(mono:∀j,p (j+1)=true->p j=true):∀n,∃t,t<=n/\∀j,j<n->p j=decide (j<t)
 |0=>⟨0,AX _,λj h=>wo h (Nat.not_lt_zero _)⟩
 |n+1=>by
  obtain⟨t,e,h⟩:=vr p mono n;cases hp:p n with
  |true=>
   have all:∀j,j<=n->p j=true:=by
    have go:∀d,d<=n->p (n - d)=true:=by
     intro d;induction d with
     |zero=>exact λ_=>hp
     |succ d c=>
      intro hd;refine mono _ ?_;rw[show n - (d+1) +1=n - d by lia];exact c (by lia)
    intro j b;have:=go (n - j) (by lia);rw[show n - (n - j)=j by lia]at this;exact this
   exact⟨n+1,AX _,λj b=>by rw[all j (by lia)];exact(wg b).symm⟩
  |false=>
   refine⟨t,by lia,λj b=>?_⟩;by_cases a:j<n
   ·exact h j a
   ·have:j=n:=by lia
    subst this;rw[hp];exact(wh (by lia)).symm
def eu(j:Nat):Int:=(((j:Int) +2) +5) * (((j:Int) +2) +5) *30269
def mq(r:Int)(t j:Nat):Int:=if j<t then (r+eu j) %16 else (r+eu j - 2147483399) %16
def mr(r:Int)(t j:Nat):Bool:=decide (mq r t j=3\/mq r t j=14)
theorem jb:∀r:Fin 16,∀t:Fin 11,((Bm 10).filter (mr r.val t.val)).length<=5:=by decide+kernel
theorem mj{r:Int}{t:Nat}(h0:0<=r)(h1:r<16)(a:t<11): ((Bm 10).filter (mr r t)).length<=5:=by
 obtain⟨n,rfl⟩:=Int.eq_ofNat_of_zero_le h0;exact jb ⟨n,by lia⟩ ⟨t,a⟩
theorem uJ(a s:Int)(h0:0<=a)(hs:0<=s)(h1:a+s<2147483399): (a+s) %2147483399%16=(a%16+s) %16:=by
 rw[Int.emod_eq_of_lt (by lia) h1];lia
theorem uI(a s:Int)(h0:2147483399<=a+s)(h1:a+s<4294966798): (a+s) %2147483399%16=(a%16+s - 2147483399) %16:=by
 have: (a+s) %2147483399=a+s - 2147483399:=by lia
 rw[this];lia
def ny(c:Int)(j:Nat):Bool:=decide (WF c (j+2) %16=3\/WF c (j+2) %16=14)
theorem mT(c:Int)(n:Nat)(hn:n<=10): ((Bm n).filter (ny c)).length<=5:=by
 have m:=Hk (c%2147483629*40692) (b:=2147483399) Aa;generalize k:c%2147483629*40692%2147483399=a at m;have hm:∀j,WF c ((j:Nat) +2)=(a+eu j) %2147483399:=λj=>by
  unfold WF eu;rw[<-k]
  lia
 have hs:∀j:Nat,j<10->0<=eu j/\eu j<=7748864:=by
  have:∀j:Fin 10,0<=eu j.val/\eu j.val<=7748864:=by decide+kernel
  exact λj f=>this ⟨j,f⟩
 have g:∀j:Nat,eu j<=eu (j+1):=λj=>by
  unfold eu;have e: (((j+1:Nat):Int) +2+5)=((j:Int) +2+5) +1:=by lia
  rw[e];have hx:0<= (j:Int) +2+5:=by lia
  revert hx;generalize ((j:Int) +2+5)=x;intro hx;rw[Int.add_mul x 1,Int.mul_add,Int.one_mul,Int.mul_one]
  lia
 obtain⟨t,p,h⟩:=vr (λj=>decide (a+eu j<2147483399)) (λj f=>by
  have:=wj f;have:=g j;exact wg (by lia)) 10
 have o:∀j,j<10->ny c j=mr (a%16) t j:=λj f=>by
  have h1:=hs j f;have h2: (decide (a+eu j<2147483399))=decide (j<t):=h j f;have e:WF c (j+2) %16=mq (a%16) t j:=by
   rw[hm];unfold mq;by_cases d:j<t
   ·rw[wm d];exact uJ _ _ m.1 h1.1 (wj (by rw[h2];exact wg d))
   ·rw[wk d];have:¬a+eu j<2147483399:=of_decide_eq_false (by rw[h2];exact wh d);exact uI _ _ (by lia) (by lia)
  unfold ny mr;rw[e]
 have l: ((Bm 10).filter (ny c)).length<=5:=by
  rw[List.filter_congr (λj f=>o j (CG.mp f))];exact mj (by lia) (by lia) (by lia)
 have i: ((Bm n).filter (ny c)).Sublist ((Bm 10).filter (ny c)):=(List.range_sublist.mpr hn).filter _;exact AJ i.length_le l
structure KA(ms:List Int):Prop where
 nd:ms.Nodup
 bd:∀m∈ms,1<=m/\m<=200
theorem qf(one:Int){n:Nat}(hn:n<=12):KA ((Bm n).map λj:Nat=>1+ (one/7+37* (0+ (j:Int))) %200):=by
 refine⟨nodup_range _ _ λi j hi a h=>by lia,λm hm=>?_⟩;obtain⟨j,_,rfl⟩:=Bg.mp hm
 lia
theorem qe(one:Int){n:Nat}(hn:n<=12):KA ((Bm n).map λj:Nat=>1+one%3+ (0+ (j:Int))):=by
 refine⟨nodup_range _ _ λi j hi a h=>by lia,λm hm=>?_⟩;obtain⟨j,a,rfl⟩:=Bg.mp hm;have:=CG.mp a
 lia
structure pb(k:Nat)(W:List Int)(g:SG):Prop where
 len:g.fields.length<=10
 ne:g.choice=true->g.fields≠[]
 fs:∀f∈g.fields,ll k W g.choice f
 nms:CV (g.fields.map (·.nam))
 nums:KA (g.fields.map (·.num) ++g.gone)
 gl:g.gone.length<=2
 few: (g.fields.filter λf=>qu f.kind).length<=5
structure GU(gs:List SG)(Ws:List Int):Prop where
 len:gs.length=Ws.length
 nms:CV (gs.map (·.nam))
 ok:∀k g,gs[k]?=some g->pb k (Ws.take k) g
 ws:∀k g,gs[k]?=some g->Ws[k]?=some (Hj (Ws.take k) g.choice g.fields)
structure Ky(one:Int)(k:Nat)(W:List Int)(c:Bool)(ms:List Int)(zs:List Bc)(fs:List SF):Prop where
 num:∀(i:Nat) (f:SF),fs[i]?=some f->ms[i]?=some f.num
 nam:∀(i:Nat) (f:SF),fs[i]?=some f->zs[i]?=some f.nam
 ok:∀(i:Nat) (f:SF),fs[i]?=some f->ll k W c f
 fm:∀(i:Nat) (f:SF),fs[i]?=some f->∀z,f.kind= .form z->ny one i=true
theorem Ky.nil{one:Int}{k:Nat}{W:List Int}{c:Bool}{ms:List Int}{zs:List Bc}:Ky one k W c ms zs []:=⟨λi f e=>by simp at e,λi f e=>by simp at e,λi f e=>by simp at e,λi f e=>by simp at e⟩
theorem NL{a:Type}{l:List a}{x:a}{i:Nat}{y:a}(h: (l++[x])[i]?=some y):l[i]?=some y\/(i=l.length/\y=x):=by
 by_cases hi:i<l.length
 ·rw[El hi]at h;exact .inl h
 ·rw[Ds (by lia)]at h;by_cases h0:i - l.length=0
  ·rw[h0]at h;exact .inr ⟨by lia,(Ba h).symm⟩
  ·rw[Cz (by simp;lia)]at h;cases h
theorem Ky.snoc{one:Int}{k:Nat}{W:List Int}{c:Bool}{ms:List Int}{zs:List Bc}{fs:List SF}(h:Ky one k W c ms zs fs){f:SF}(h1:ms[fs.length]?=some f.num)(h2:zs[fs.length]?=some f.nam)(h3:ll k W c f)(a:∀z,f.kind= .form z->ny one fs.length=true):Ky one k W c ms zs (fs++[f]):=by
 refine⟨λi x e=>?_,λi x e=>?_,λi x e=>?_,λi x e=>?_⟩ <;> rcases NL e with e|⟨rfl,rfl⟩
 ·exact h.num i x e
 ·exact h1
 ·exact h.nam i x e
 ·exact h2
 ·exact h.ok i x e
 ·exact h3
 ·exact h.fm i x e
 ·exact a
def fK:SF:=⟨0,"",.truth,false,.non⟩
theorem cK{a:Type}(l:List a)(d:a): (Bm l.length).map (λj=>l.getD j d)=l:=by
 apply List.ext_getElem
 ·simp
 ·intro i h1 h2;simp[h2]
theorem gz{a:Type}(l:List a)(d:a){js:List Nat}(h:js.Perm (Bm l.length)): (js.map λj=>l.getD j d).Perm l:=by
 have:=h.map λj=>l.getD j d;rw[cK]at this;exact this
theorem CV.perm{xs ys:List Bc}(p:xs.Perm ys)(h:CV ys):CV xs:=⟨λz hz=>h.ok z (p.mem_iff.mp hz),p.symm.nodup h.nd⟩
theorem CV.take{xs:List Bc}(h:CV xs)(n:Nat):CV (xs.take n):=⟨λz hz=>h.ok z (Dp hz),h.nd.sublist (Vh _ _)⟩
theorem KA.perm{xs ys:List Int}(p:xs.Perm ys)(h:KA ys):KA xs:=⟨p.symm.nodup h.nd,λz hz=>h.bd z (p.mem_iff.mp hz)⟩
theorem Si{b a:Type}{l:List b}{m:List a}{f:b->a}(h:∀(i:Nat) x,l[i]?=some x->m[i]?=some (f x)):l.map f=m.take l.length:=by
 apply Vj;intro i;rw[AT];by_cases hi:i<l.length
 ·rw[FJ hi,Az hi,h i _ (Az hi)];rfl
 ·rw[Cz (by lia),Cz (by rw[BY];lia)];rfl
theorem UI{a:Type}(l:List a)(p:a->Bool)(q:Nat->Bool)(h:∀(i:Nat) x,l[i]?=some x->p x=true->q i=true): (l.filter p).length<= ((Bm l.length).filter q).length:=by
 have key:∀n,n<=l.length->((l.take n).filter p).length<= ((Bm n).filter q).length:=by
  intro n;induction n with
  |zero=>intro _;simp
  |succ n b=>
   intro hn;have hx:l[n]?=some (l[n]'(by lia)):=Az _;rw[Gh,List.range_succ,Ep,Ep,AZ,AZ,hx];have:=b (by lia);have: ([l[n]'(by lia)].filter p).length<= ([n].filter q).length:=by
    cases hp:p (l[n]'(by lia))with
    |false=>rw[Gi (by rw[hp];decide)];exact Ci _
    |true=>rw[EE hp,EE (h n _ hx hp)];exact AX _
   show _+ ([l[n]'(by lia)].filter p).length<=_
   lia
 have:=key l.length (AX _);rw[Dh]at this;exact this
theorem Ky.gok{one:Int}{k:Nat}{W:List Int}{c:Bool}{ms:List Int}{zs:List Bc}{fs:List SF}(h:Ky one k W c ms zs fs)(a:fs.length<=10)(hc:c=true->1<=fs.length)(hz:CV zs)(hm:KA ms)(d:ms.length<=fs.length+2)
  {nm:Bc}{go:List Int}{fields:List SF}(hp:fields.Perm fs)(hg:go.Perm (ms.drop fs.length)):pb k W ⟨nm,c,go,fields⟩:=by
 have en:fs.map (·.nam)=zs.take fs.length:=Si h.nam;have g:fs.map (·.num)=ms.take fs.length:=Si h.num;refine⟨by rw[hp.length_eq];exact a,λe z=>?_,λf hf=>?_,?_,?_,?_,?_⟩
 ·have:=hp.length_eq;rw[show fields=[]from z]at this;have:=hc e;simp at *
  lia
 ·obtain⟨i,hi⟩:=DB.mp (hp.mem_iff.mp hf);exact h.ok i f hi
 ·refine CV.perm (hp.map (·.nam)) ?_;rw[en];exact hz.take _
 ·have p1: (fields.map (·.num) ++go).Perm (ms.take fs.length++ms.drop fs.length):=by
   rw[<-g];exact(hp.map (·.num)).append hg
  rw[Ja]at p1;exact KA.perm p1 hm
 ·rw[hg.length_eq,DR];lia
 ·have j: (fields.filter λf=>qu f.kind).length=(fs.filter λf=>qu f.kind).length:=(hp.filter _).length_eq;rw[j];refine AJ (UI fs _ (ny one) λi f hi hf=>?_) (mT one fs.length a);cases b:f.kind with
  |form z=>exact h.fm i f hi z b
  |_=>rw[b]at hf;cases hf
def bF(W:List Int):Prop:=∀(i:Nat) w,W[i]?=some w->1<=w/\w<=81+ (i:Int)
theorem bF.bd{W:List Int}(h:bF W)(a:W.length<=6):vg W:=λx hx=>by
 obtain⟨i,hi⟩:=DB.mp hx;have:=h i x hi;have:i<W.length:=(AO.mp hi).1
 lia
theorem eV{W:List Int}(h:bF W){k:Lk}(a:k.ok W.length):1<=Fb W k/\(Fb W k<=80+ (W.length:Int)\/Fb W k=1):=by
 cases k with
 |form i=>
  have hi:i<W.length:=a;have e:W[i]?=some (W[i]'hi):=Az hi;have:=h i _ e;show 1<=W.getD i 0/\(W.getD i 0<=_\/_);rw[AL,e];show 1<=W[i]'hi/\(W[i]'hi<=_\/_)
  lia
 |_=>exact⟨Int.le_refl _,.inr rfl⟩
theorem pC{l:List Int}(h:∀x∈l,0<=x/\x<=8):0<=l.sum/\l.sum<=8* (l.length:Int):=by
 induction l with
 |nil=>exact⟨Aa,Aa⟩
 |cons x r a=>
  have h1:=h x (.head _);have h2:=a λy b=>h y (.tail _ b);rw[Sv,Cd]
  lia
theorem WT{W:List Int}(h:bF W){g:SG}(hg:pb W.length W g):1<=Hj W g.choice g.fields/\Hj W g.choice g.fields<=81+ (W.length:Int):=by
 unfold Hj;cases hc:g.choice with
 |true=>
  rw[wm rfl];have hm:=Qg (l:=g.fields.map λf=>Fb W f.kind) (by
   intro z;exact hg.ne hc (HH.mp z))
  obtain⟨f,hf,e⟩:=Bg.mp hm;rw[<-e];have:=eV h (hg.fs f hf).kind
  lia
 |false=>
  rw[wk Aa];have hs:=pC (l:=(g.fields.filter (·.must)).map λf=>Fb W f.kind) λx hx=>by
   obtain⟨f,hf,rfl⟩:=Bg.mp hx;obtain⟨hf,a⟩:=Eh.mp hf;have c:=hg.fs f hf;have h1:=eV h c.kind;refine⟨by lia,?_⟩;cases b:f.kind with
   |form i=>exact c.light i b a
   |_=>exact(by decide: (1:Int)<=8)
  have d: ((g.fields.filter (·.must)).map λf=>Fb W f.kind).length<=10:=by
   rw[Ay];exact AJ (Fn _ _) hg.len
  lia
theorem bF.snoc{W:List Int}(h:bF W){x:Int}(h1:1<=x)(h2:x<=81+ (W.length:Int)):bF (W++[x]):=λi w e=>by
 rcases NL e with e|⟨rfl,rfl⟩
 ·exact h i w e
 ·exact⟨h1,h2⟩
theorem GU.snoc{gs:List SG}{Ws:List Int}(h:GU gs Ws){g:SG}(hg:pb gs.length Ws g)(hn:CV ((gs++[g]).map (·.nam))):GU (gs++[g]) (Ws++[Hj Ws g.choice g.fields]):=by
 have a:=h.len;refine⟨by simp[a],hn,λk x e=>?_,λk x e=>?_⟩
 ·rcases NL e with e|⟨rfl,rfl⟩
  ·have b:k<gs.length:=(AO.mp e).1;rw[XY (by lia)];exact h.ok k x e
  ·rw[a,List.take_left']
   ·rw[<-a];exact hg
   ·rfl
 ·rcases NL e with e|⟨rfl,rfl⟩
  ·have b:k<gs.length:=(AO.mp e).1;rw[XY (by lia),El (by lia)];exact h.ws k x e
  ·rw[a,List.take_left' rfl,Ds (AX _),Vf];rfl
theorem mu{P:Nat->AE->Prop}:∀(ys:List V),(∀(i:Nat) y,ys[i]?=some y->∃t,y= .ref t/\P i t)->∃ts:List AE,ys=ts.map V.ref/\∀(i:Nat) t,ts[i]?=some t->P i t:=by
 intro ys;induction ys generalizing P with
 |nil=>exact λ_=>⟨[],rfl,λi t e=>by simp at e⟩
 |cons y r b=>
  intro h;obtain⟨t,rfl,c⟩:=h 0 y rfl;obtain⟨ts,rfl,a⟩:=b (P:=λi=>P (i+1)) λi y e=>h (i+1) y (by simpa using e);refine⟨t::ts,rfl,λi x e=>?_⟩;cases i with
  |zero=>simp at e;subst e;exact c
  |succ i=>exact a i x (by simpa using e)
theorem eL{b a:Type}{R:b->a->Prop}{fs:List b}{vs:List a}(h:Paired R fs vs)(d:b)(e:a):∀(js:List Nat),(∀j∈js,j<fs.length)->Paired R (js.map λj=>fs.getD j d) (js.map λj=>vs.getD j e)
 |[],_=>.nil
 |j::js,g=>by
  refine .cons ?_ (eL h d e js λi hi=>g i (.tail _ hi));have k:=g j (.head _);have f:fs.length=vs.length:=h.length;have c:vs[j]?=some (vs[j]'(by lia)):=Az _;obtain⟨x,hx,r⟩:=Hz h j _ c;show R (fs.getD j d) (vs.getD j e);rw[AL,AL,hx,c];exact r
theorem kX{xs:List V}{j:Nat}{v:V}(h:xs[j]?=some v):XM xs (0+ (j:Int))=some v:=by
 rw[Int.zero_add];exact HY h
abbrev sS(sc:AE)(many:Int)(nl sl wl:AE)(k one c cnt ml tl rl j fh fm:Option V):L2.St:=[some (.ref sc),some (.int 0),some (.int 6),some (.int many),some (.ref nl),some (.ref sl),some (.ref wl),k,one,c,cnt,ml,tl,rl,j,fh,fm]
structure bA(g:SG):Prop where
 fs: (g.fields.map (·.num)).Pairwise (·< ·)
 gone:g.gone.Pairwise (·<= ·)
theorem Xf{a b:Type}{R:a->b->Prop}{f:a->b}:∀(l:List a),(∀x∈l,R x (f x))->Paired R l (l.map f)
 |[],_=>.nil
 |x::l,h=>.cons (h x (.head _)) (Xf l λy c=>h y (.tail _ c))
inductive vi(sc:AE)(n:Nat)(nl sl wl:AE)(zs:List Bc)(H1:Hp)(k:Nat):L2.St->Hp->Prop
 |mk {H':Hp} {gs:List SG} {Ws:List Int} {as:List AE} {v7 one c cnt ml tl rl j fh fm:Option V} (hok:GU gs Ws) (hgl:gs.length=k) (hri:∀g∈gs,bA g) (hnm:gs.map (·.nam)=zs.take k) (hlast:∀g,gs[n - 1]?=some g->g.choice=false) (has:∀a∈as,H1 a=none) (hnd:as.Nodup) (s4:Be H1 H') (hsl:H' sl=some (.lst (as.map V.ref))) (hwl:H' wl=some (.lst (Ws.map V.int))) (hW:bF Ws) (hpa:Paired (λg a=>SQ (rm [sl,wl] H') g (.ref a)) gs as):vi sc n nl sl wl zs H1 k (sS sc n nl sl wl v7 one c cnt ml tl rl j fh fm) H'
def lK(K:AF):Sp:=λvs H Q _=>∃(a:AE) (ns:List Int),vs=[.ref a,.int 0,.int 6]/\Cj K H a (ns.map V.int)/\∀gs Ws as l H',GU gs Ws->(∀g∈gs,bA g)->1<=gs.length->gs.length<=6->(∀g,gs[gs.length - 1]?=some g->g.choice=false)->H l=none->(∀a∈as,H a=none)->as.Nodup->Be H H'->H' l=some (.lst (as.map V.ref))->Paired (λg a=>SQ H' g (.ref a)) gs as->Q (.ref l) H'
theorem rY: ((["_law_j"]:List Bc) ++ (["_law_one"]:List Bc)).Nodup:=by decide+kernel
theorem uE: ((["_law_j"]:List Bc) ++ (["_law_marks"]:List Bc)).Nodup:=by decide+kernel
theorem rW: ((["_law_mark","_law_j"]:List Bc) ++ (["_law_rows"]:List Bc)).Nodup:=by decide+kernel
def rF(a b c:V):List (Gk×V):=[(.inr "name",a),(.inr "choice",b),(.inr "gone",c)]
theorem qc(a b c:V):Kt [] (rF a b c)=rF a b c:=by kernel_rfl
theorem uu(g:SG)(gl fl:AE):JQ (rF (.str g.nam) (.bl g.choice) (.ref gl)) (.inr "fields") (.ref fl)=iQ g gl fl:=by kernel_rfl
theorem aQ{X:Cx}(K:AF)(a:X.K=K):tj X (rN K):=by
 subst a;exact CM
theorem mx{X:Cx}(K:AF)(b:X.K=K){pos:FX}{es:List Expr}{k:Nat}{t:oY}{n:Nat}(hc:X.calm=true)(h:qT X es t)(hn: (NC es X.env).length=n:=by rfl)(a: (NC es X.env).findIdx? (·.1)=none:=by rfl):PG X (.Tuple es k pos) (sI K n t):=by
 subst b;exact Ue hc h hn a
theorem mF(T:Tx K mg):HL.Et P w K mg base 6 950 ["_law_script","_law_base","_law_most"] (lK K):=by
 have G:=@Xi P w K mg base T;have Y:=@aw P w K mg base T;have Z:=@jA P w K mg base T;have d0:=@jG P w K mg base T;have a0:=@Uk P w K mg base T;refine(T.df 47 rfl).ok EW (λvs H Q E h=>?_) (λcdv A outer s H vs Q E hr h=>?_)
 ·obtain⟨a,ns,rfl,_⟩:=h;rfl
 ·obtain⟨sc,ns,rfl,f7,q⟩:=h;have hu:=hr.units;have l2:=BS (BA (show 1<=64 by decide) _) hu;refine⟨_,Bh (BV (i:=3) EW.nd rfl (Bn rfl) (Bz Dg AH (Bz Df (AW G (hr.mono Aa) T.NJ (Ax (pv 0) (Ax (pv 1) AA))) (pv 2)))) (Bh (BV (i:=4) EW.nd rfl (Bn rfl) (AW Y (hr.mono Aa) T.Tp (Ax (AW G (hr.mono Aa) T.NJ (Ax (pv 0) (Ax (Bz Dg (pv 1) AH) AA))) (Ax (pv 3) AA)))) (AV (BV (i:=5) EW.nd rfl (Bn rfl) (CP AA)) (AV (BV (i:=6) EW.nd rfl (Bn rfl) (CP AA)) (Bh (JA DT rfl (HA rfl T.JT (Ax (pv 3) AA)) (Cb (i:=7) EW.nd rfl (Bn rfl)) (Bh (BV (i:=8) EW.nd rfl (Cw rfl) (AW G (hr.mono Aa) T.NJ (Ax (pv 0) (Ax (Bz Dg (Bz Dg (pv 1) AH) (pv 7)) AA)))) (Bh (BV (i:=9) EW.nd rfl (Bn rfl) (Io (EY oG (pv 7) (Bz cR (pv 3) AH) (Bw _)) (Im (EY De (Bz Df (pv 8) AH) AH (Bw _))))) (Bh (BV (i:=10) EW.nd rfl (Bn rfl) (Cp CM (CP (Ax (Bz Dg AH (Bz Df (Bz Ej (pv 8) AH) AH)) (Ax (Bz Df (Bz Ej (pv 8) AH) AH) (Ax (Bz Dg AH (Bz Df (Bz Ej (pv 8) AH) AH)) AA)))) (Bz Df (Bz Ej (pv 8) AH) AH) (λ_ _=>rfl))) (Bh (BV (i:=10) EW.nd rfl (Bn rfl) (Bl (XE rfl) rfl T.oh kQ (Ax (pv 10) (Ax (Ee XF rfl T.dP Zi (Ax (pv 9) AA)) AA)))) (Bh (BV (i:=11) EW.nd rfl (Cw rfl) (CJ (ts:=["_law_j"]) (xs:=["_law_one"]) (js:=[8]) rfl ⟨rfl,rfl,Ab,Ab,CZ rfl⟩ (.cons rfl (.inl rfl) rfl .nil) Ab (HA rfl T.JT (Ax (Bz Dg (pv 10) (Bz Df (Bz Ej (pv 8) AH) AH)) AA)) (λC s_ H_ fp=>Cb (X:=Di _ _ _ C s_ H_ fp) (i:=0) rY rfl (Bn rfl) (Cw rfl)) (λC s_ H_ fp=>CT (X:=Di _ _ _ C s_ H_ fp)) (λC s_ H_ fp=>Bz (X:=Di _ _ _ C s_ H_ fp) Dg AH (Bz Df (Bz Dg (Bz Ej (pv 1) AH) (Bz Kp AH (pv 0))) AH)))) (Bh (BH (Bp De (Bz Df (Bz Ej (pv 8) AH) AH) AH (Bw _)) (AD (BV (i:=11) EW.nd rfl (Cw rfl) (CJ (ts:=["_law_j"]) (xs:=["_law_one"]) (js:=[8]) rfl ⟨rfl,rfl,Ab,Ab,CZ rfl⟩ (.cons rfl (.inl rfl) rfl .nil) Ab (HA rfl T.JT (Ax (Bl Cs (by rfl) T.Fy Eg (Ax (pv 11) AA)) AA)) (λC s_ H_ fp=>Cb (X:=Di _ _ _ C s_ H_ fp) (i:=0) rY rfl (Bn rfl) (Cw rfl)) (λC s_ H_ fp=>CT (X:=Di _ _ _ C s_ H_ fp)) (λC s_ H_ fp=>Bz (X:=Di _ _ _ C s_ H_ fp) Dg (Bz Dg AH (Bz Df (pv 1) AH)) (pv 0)))))
      Bd)
     (Bh (BV (i:=12) EW.nd rfl (Bn rfl) (AW Y (hr.mono Aa) T.Tp (Ax (AW Z (hr.mono Aa) T.Zz (Ax (pv 8) (Ax AH AA))) (Ax (Bl (XE rfl) rfl T.oh kQ (Ax AH (Ax (pv 10) AA))) AA))))
     (AV (BV (i:=13) EW.nd rfl (Cw rfl) (CP AA))
     (Bh (JA DT rfl (HA rfl T.JT (Ax (pv 10) AA)) (Cb (i:=14) EW.nd rfl (Bn rfl)) (AV (BV (i:=15) EW.nd rfl (Bn rfl) (AW d0 (hr.mono Aa) (T.d6 44 rfl λ_ _ _ _ _ _ _ _ _ _ _ _=>rfl) (Ax (AW Z (hr.mono Aa) T.Zz (Ax (pv 8) (Ax (Bz Dg (pv 14) AH) AA))) (Ax (Cp CM (pv 11) (pv 14) (λ_ _=>rfl)) (Ax (Cp CM (pv 12) (pv 14) (λ_ _=>rfl)) (Ax (pv 7) (Ax (pv 6) (Ax (pv 9) AA)))))))) (AD (EX (Gr BO Cn Cm EF (pv 13) (Ax (pv 15) AA))))))
     (Bh (BV (i:=16) EW.nd rfl (Bn rfl) (YJ (GC AQ (Cp CM (pv 4) (pv 7) (λ_ _=>rfl)) (GC AQ (pv 9) (GC AQ (Bl Ll rfl T.MK Rz (Ax (Hb Yu (pv 11) (Iy (pv 10)) Iz) AA)) YH))) rfl rfl Aa Aa))
     (Bh (Tc l2 (pv 16) AQ (CJ (ts:=["_law_mark","_law_j"]) (xs:=["_law_rows"]) (js:=[13]) rfl ⟨rfl,rfl,Ab,Ab,CZ rfl⟩ (.cons rfl (.inl rfl) rfl .nil) Ab (CU (Bl Oe rfl T.MK Rz (Ax (CJ (ts:=["_law_j"]) (xs:=["_law_marks"]) (js:=[11]) rfl ⟨rfl,rfl,Ab,Ab,CZ rfl⟩ (.cons rfl (.inl rfl) rfl .nil) Ab (HA rfl T.JT (Ax (pv 10) AA))
     (λC s_ H_ fp=>Cb (X:=Di _ _ _ C s_ H_ fp) (i:=0) uE rfl (Bn rfl) (Cw rfl))
     (λC s_ H_ fp=>CT (X:=Di _ _ _ C s_ H_ fp))
     (λC s_ H_ fp=>DG (X:=Di _ _ _ C s_ H_ fp) (Ax (Cp (aQ K rfl) (pv 1) (pv 0) (λ_ _=>rfl)) (Ax (pv 0) AA)))) AA)))
     (λC s_ H_ fp=>mx (X:=Di _ _ _ C s_ H_ fp) K rfl (n:=2) rfl (Ha (Cb (i:=0) rW rfl (Bn rfl) (Cw rfl)) (Ha (Cb (i:=1) rW rfl (Bn rfl) (Cw rfl)) PV)))
     (λC s_ H_ fp=>CT (X:=Di _ _ _ C s_ H_ fp))
     (λC s_ H_ fp=>Cp (X:=Di _ _ _ C s_ H_ fp) (aQ K rfl) (pv 2) (pv 1) (λ_ _=>rfl))) rfl)
     (AV (EX (Gr BO Cn Cm EF (pv 5) (Ax (pv 16) AA)))
     (AD (EX (Gr BO Cn Cm EF (pv 6) (Ax (AW a0 (hr.mono Aa) T.RW (Ax (pv 16) (Ax (pv 6) AA))) AA)))))))))))))))))
   (AD (AN (pv 5))))))),?_⟩
  refine Cq (λl H'=>∃n:Nat,1<=n/\n<=6/\H=H'/\l=[some (.ref sc),some (.int 0),some (.int 6),some (.int (n:Int)),none,none,none,none,none,none,none,none,none,none,none,none,none]) ?_ ?_
  ·refine⟨_,rfl,_,rfl,sc,ns,0,rfl,f7,Aa,Aa,λr h0 h1=>⟨_,rfl,_,_,rfl,rfl,(by show(0:Int) <6;decide),_,_,rfl,rfl,(1+r%6).toNat,by lia,by lia,rfl,?_⟩⟩;rw[show(((1+r%6).toNat:Nat):Int)=1+r%6 by lia];rfl
  rintro l H' ⟨n,p0,o9,rfl,rfl⟩;refine Cq (λl H'=>∃(nl:AE) (zs:List Bc),zs.length=n/\CV zs/\Be H H'/\H' nl=some (.lst (zs.map V.str))/\l=[some (.ref sc),some (.int 0),some (.int 6),some (.int (n:Int)),some (.ref nl),none,none,none,none,none,none,none,none,none,none,none,none]) ?_ ?_
  ·refine⟨_,rfl,_,rfl,_,_,rfl,rfl,sc,ns,1,rfl,f7,Aa,Aa,λr h0 h1=>⟨_,rfl,r,n,rfl,h0,by lia,by lia,λzs hz hok nl H1 j2 s1 e1=>⟨nl,zs,hz,hok,s1,e1,rfl⟩⟩⟩
  rintro l H1 ⟨nl,zs,o3,i0,s1,j2,rfl⟩;refine⟨zl 0,λsl hsl=>⟨zl 0,λwl hwl=>?_⟩⟩;have s3:Be H1 (upd (upd H1 sl (.lst [])) wl (.lst [])):=(By hsl).trans (By hwl);have f6:sl≠wl:=λz=>by rw[z,AC]at hwl;cases hwl
  have i2:H1 wl=none:=(By hsl).free hwl;refine Cq (vi sc n nl sl wl zs H1 n) ?_ ?_
  ·refine⟨_,rfl,(n:Int),rfl,by lia,by lia,?_⟩;rw[show((n:Int)).toNat=n by lia];refine Xu (vi sc n nl sl wl zs H1) ?_ (λk l H' hk h=>?_) (λl H' h=>h)
   ·refine .mk (gs:=[]) (Ws:=[]) (as:=[]) ⟨rfl,⟨(λ_ z=>nomatch z),Vk⟩,(λk g e=>by simp at e),(λk g e=>by simp at e)⟩ rfl (λ_ z=>nomatch z) (by simp) (λg e=>by simp at e) (λ_ z=>nomatch z) Vk s3 ?_ AC (λi w e=>by simp at e) .nil;rw[Bb f6];exact AC
   ·obtain @⟨_,gs,Ws,as,v7,m9,c0,e9,d5,b3,a4,j0,U,S,hok,hgl,hri,hnm,hlast,has,hnd,s4,b7,a9,hW,hpa⟩:=h;have p1:k<6:=by lia
    have i9:Cj K H' sc (ns.map V.int):=(s1.trans s4).seq f7;refine Cq (λl H5=>∃one:Int,0<=one/\one<2147483629/\H'=H5/\l=sS sc n nl sl wl (some (.int (0+ (k:Int)))) (some (.int one)) c0 e9 d5 b3 a4 j0 U S) ?_ ?_
    ·exact⟨_,rfl,_,rfl,_,_,rfl,rfl,_,rfl,_,_,rfl,rfl,sc,ns,0+2+ (0+ (k:Int)),rfl,i9,by lia,by lia,λr h0 h1=>⟨r,h0,h1,rfl,rfl⟩⟩
    rintro l H5 ⟨one,o8,o7,rfl,rfl⟩;refine Cq (λl H5=>∃c:Bool,(c=true->k+1<n)/\H'=H5/\l=sS sc n nl sl wl (some (.int (0+ (k:Int)))) (some (.int one)) (some (.bl c)) e9 d5 b3 a4 j0 U S) ?_ ?_
    ·refine⟨_,rfl,_,rfl,_,_,rfl,rfl,_,_,rfl,rfl,_,rfl,FT (λj4=>?_) (λ_=>?_)⟩
     ·have n3:=wj j4;exact⟨_,rfl,_,_,rfl,rfl,(by show(0:Int) <4;decide),rfl,_,λ_=>by lia,rfl,rfl⟩
     ·rename_i j4;exact⟨false,λz=>(by cases z),rfl,rfl⟩
    rintro l H5 ⟨c,hc,rfl,rfl⟩;refine Cq (λl H5=>∃x:Int,0<=x/\x<=10/\Be H' H5/\l=sS sc n nl sl wl (some (.int (0+ (k:Int)))) (some (.int one)) (some (.bl c)) (some (.int x)) d5 b3 a4 j0 U S) ?_ ?_
    ·refine⟨_,rfl,_,_,rfl,rfl,⟨Aa,Aa⟩,_,_,rfl,rfl,(by show(0:Int) <4;decide),_,_,rfl,rfl,_,rfl,_,_,rfl,rfl,⟨Aa,Aa⟩,_,_,rfl,rfl,(by show(0:Int) <4;decide),_,rfl,_,_,rfl,rfl,⟨Aa,Aa⟩,_,_,rfl,rfl,(by show(0:Int) <10;decide),_,_,rfl,rfl,zl 3,λp hp=>?_⟩;obtain⟨x,hx,l0⟩:=UT (xs:=([1+one/4%4,one/4%4,1+one/4%10]:List Int).map V.int) (i:=one/64%3) (by lia) (by rw[Ay];show one/64%3<3;lia);obtain⟨i,rfl,hi⟩:=Lh (P:=λi=>0<=i/\i<=10) (by
      intro i hi;simp only[AU,BL,or_false]at hi;rcases hi with rfl|rfl|rfl <;> lia) l0
     exact⟨_,rfl,_,_,rfl,rfl,⟨Aa,Aa⟩,_,_,rfl,rfl,(by show(0:Int) <3;decide),p,_,_,_,rfl,rfl,Cj.of AC,hx,i,hi.1,hi.2,By hp,rfl⟩
    rintro l H5 ⟨x,o5,o4,s5,rfl⟩;refine Cq (λl H6=>∃m:Nat,m<=10/\(c=true->1<=m)/\H5=H6/\l=sS sc n nl sl wl (some (.int (0+ (k:Int)))) (some (.int one)) (some (.bl c)) (some (.int (m:Int))) d5 b3 a4 j0 U S) ?_ ?_
    ·refine⟨_,rfl,_,rfl,.inr ⟨c,rfl,_,_,rfl,(if (if c then (1:Int)else 0) >x then (if c then (1:Int)else 0)else x).toNat,?_,?_,rfl,?_⟩⟩
     ·cases c with
      |true=>
       show(if (1:Int) >x then (1:Int)else x).toNat<=10
       split <;> lia
      |false=>
       show(if (0:Int) >x then (0:Int)else x).toNat<=10
       split <;> lia
     ·rintro rfl;show 1<= (if (1:Int) >x then (1:Int)else x).toNat
      split <;> lia
     ·rw[FZ (by cases c <;> simp <;> split <;> lia)];rfl
    rintro l H6 ⟨m,n2,l7,rfl,rfl⟩;have p3: (one/11%3).toNat<=2:=by lia
    refine Cq (λl H6=>∃(ml:AE) (ms:List Int),ms.length=m+ (one/11%3).toNat/\KA ms/\Be H5 H6/\H6 ml=some (.lst (ms.map V.int))/\l=sS sc n nl sl wl (some (.int (0+ (k:Int)))) (some (.int one)) (some (.bl c)) (some (.int (m:Int))) (some (.ref ml)) b3 a4 j0 U S) ?_ ?_
    ·refine⟨_,rfl,_,rfl,_,_,rfl,rfl,⟨Aa,Aa⟩,_,_,rfl,rfl,(by show(0:Int) <3;decide),_,_,rfl,rfl,(m:Int) +one/11%3,rfl,by lia,by lia,?_⟩;rw[show((m:Int) +one/11%3).toNat=m+ (one/11%3).toNat by lia];refine Dc (Wk.rng 0 _) (by rw[Ay,BB];lia) (λj=>.int (1+ (one/7+37* (0+ (j:Int))) %200)) (λj x hx H2 R s2 hR=>?_) (λD H2 hD s2 e2=>?_)
     ·obtain⟨rfl,N⟩:=Rn hx;exact⟨Sub.set rfl,_,rfl,_,_,rfl,rfl,⟨Aa,Aa⟩,_,rfl,_,_,rfl,rfl,.inl ⟨Aa,Aa⟩,_,_,rfl,rfl,_,_,rfl,rfl,(by show(0:Int) <200;decide),_,_,rfl,rfl,hR H2 λ_ _ e=>e⟩
     ·refine⟨D,_,?_,qf one (n:=m+ (one/11%3).toNat) (by lia),s2,?_,rfl⟩
      ·rw[Ay,BB]
      ·rw[e2,Ay,BB,Bi];rfl
    rintro l H6 ⟨ml,ms,j3,d8,s6,d9,rfl⟩;refine Cq (λl H7=>∃(ml:AE) (ms:List Int),ms.length=m+ (one/11%3).toNat/\KA ms/\Be H6 H7/\H7 ml=some (.lst (ms.map V.int))/\l=sS sc n nl sl wl (some (.int (0+ (k:Int)))) (some (.int one)) (some (.bl c)) (some (.int (m:Int))) (some (.ref ml)) b3 a4 j0 U S) ?_ ?_
    ·refine⟨_,rfl,_,_,rfl,rfl,⟨Aa,Aa⟩,_,_,rfl,rfl,(by show(0:Int) <2;decide),rfl,_,rfl,FT (λ_=>?_) (λ_=>⟨ml,ms,j3,d8,Be.refl _,d9,rfl⟩)⟩;refine⟨_,rfl,ml,_,rfl,.inl (Cj.of d9),_,rfl,by lia,by rw[Ay];lia,?_⟩;rw[show((((ms.map V.int).length:Nat):Int)).toNat=m+ (one/11%3).toNat by rw[Ay];lia];refine Dc (Wk.rng 0 _) (by rw[Ay,BB];lia) (λj=>.int (1+one%3+ (0+ (j:Int)))) (λj x hx H2 R s2 hR=>?_) (λD H2 hD s2 e2=>?_)
     ·obtain⟨rfl,N⟩:=Rn hx;exact⟨Sub.set rfl,_,rfl,_,_,rfl,rfl,(by show(0:Int) <3;decide),_,_,rfl,rfl,_,rfl,_,_,rfl,rfl,hR H2 λ_ _ e=>e⟩
     ·refine⟨D,_,?_,qe one (n:=m+ (one/11%3).toNat) (by lia),s2,?_,rfl⟩
      ·rw[Ay,BB]
      ·rw[e2,Ay,BB,Bi];rfl
    rintro l H7 ⟨ml,ms,j3,d8,s7,d9,rfl⟩;refine Cq (λl H8=>∃(tl:AE) (ts:List Bc),ts.length=max 1 m/\CV ts/\Be H7 H8/\H8 tl=some (.lst (ts.map V.str))/\l=sS sc n nl sl wl (some (.int (0+ (k:Int)))) (some (.int one)) (some (.bl c)) (some (.int (m:Int))) (some (.ref ml)) (some (.ref tl)) a4 j0 U S) ?_ ?_
    ·have e: (if (m:Int) >1 then (m:Int)else 1)=((max 1 m:Nat):Int):=by split <;> lia
     have c1:=Hk (one%2147483629*40692+ (1+5) * (1+5) *30269) (b:=2147483399) Aa;refine⟨_,rfl,one,1,rfl,Aa,Aa,_,rfl,_,_,rfl,WF one 1,max 1 m,(by show [V.int (WF one 1),V.int (if (m:Int) >1 then (m:Int)else 1)]=_;rw[e]),c1.1,KG c1.2 Aa,by lia,λts i5 f5 tl H8 i6 s8 e8=>⟨tl,ts,i5,f5,s8,e8,rfl⟩⟩
    rintro l H8 ⟨tl,ts,i5,f5,s8,i6,rfl⟩;refine⟨zl 0,λrl j1=>?_⟩;have I:Be H' H8:=((s5.trans s6).trans s7).trans s8;have e6:=s8 _ _ d9;have g8:Ws.length=k:=by rw[<-hok.len];exact hgl
    refine Cq (λl o=>∃fs vs a2 a1,l=sS sc n nl sl wl (some (.int (0+ (k:Int)))) (some (.int one)) (some (.bl c)) (some (.int (m:Int))) (some (.ref ml)) (some (.ref tl)) (some (.ref rl)) a2 a1 S/\fs.length=m/\Ky one k Ws c ms ts fs/\Be H8 o/\o rl=some (.lst vs)/\Paired (UW (rm [sl,wl,rl] o)) fs vs) ?_ ?_
    ·refine⟨_,rfl,(m:Int),rfl,by lia,by lia,?_⟩;rw[show((m:Int)).toNat=m by lia];refine Xu (λj l o=>∃fs vs a2 a1,l=sS sc n nl sl wl (some (.int (0+ (k:Int)))) (some (.int one)) (some (.bl c)) (some (.int (m:Int))) (some (.ref ml)) (some (.ref tl)) (some (.ref rl)) a2 a1 S/\fs.length=j/\Ky one k Ws c ms ts fs/\Be H8 o/\o rl=some (.lst vs)/\Paired (UW (rm [sl,wl,rl] o)) fs vs) ⟨[],[],j0,U,rfl,rfl,Ky.nil,By j1,AC,.nil⟩ (λj l o N h=>?_) (λl o h=>h);obtain⟨fs,vs,a2,a1,rfl,M,d7,B,J,b9⟩:=h;have c3:ms[j]?=some (ms[j]'(by lia)):=Az _;have i7:ts[j]?=some (ts[j]'(by lia)):=Az _;have c1:=Hk (one%2147483629*40692+ (0+ (j:Int) +2+5) * (0+ (j:Int) +2+5) *30269) (b:=2147483399) Aa;refine⟨_,rfl,_,rfl,_,_,rfl,rfl,one,0+ (j:Int) +2,rfl,by lia,by lia,_,rfl,_,rfl,ml,_,_,_,rfl,rfl,Cj.of (B _ _ e6),kX (v:=.int (ms[j]'(by lia))) (by rw[AT,c3];rfl),_,rfl,_,rfl,tl,_,_,_,rfl,rfl,Cj.of (B _ _ i6),kX (v:=.str (ts[j]'(by lia))) (by rw[AT,i7];rfl),_,rfl,_,rfl,_,rfl,WF one (0+ (j:Int) +2),ms[j]'(by lia),ts[j]'(by lia),k,wl,Ws,c,(by show [V.int (WF one (0+ (j:Int) +2)),V.int (ms[j]'(by lia)),V.str (ts[j]'(by lia)),V.int (0+ (k:Int)),V.ref wl,V.bl c]=_;rw[Int.zero_add (k:Int)]),B _ _ (I _ _ a9),g8,c1.1,KG c1.2 Aa,λf e1 e2 j9 m1 u k3 b6 hz=>?_⟩;have hL:∀a∈ [sl,wl,rl],∃xs,o a=some (.lst xs):=λa ha=>by
      simp only[AU,BL,or_false]at ha;rcases ha with rfl|rfl|rfl
      ·exact⟨_,B _ _ (I _ _ b7)⟩
      ·exact⟨_,B _ _ (I _ _ a9)⟩
      ·exact⟨_,J⟩
     have l1:fs.length=vs.length:=b9.length;refine⟨_,rfl,.inl ⟨rfl,_,Cj.of (b6 _ _ J)⟩,_,rfl,rl,vs,u,rfl,rfl,b6 _ _ J,DC (by lia),fs++[f],vs++[u],_,_,rfl,by rw[AZ,M];rfl,?_,(B.trans b6).put j1,AC,?_⟩
     ·refine d7.snoc (by rw[M,e1];exact c3) (by rw[M,e2];exact i7) j9 λz hz=>?_;have:=m1 z hz;rw[Int.zero_add]at this;rw[M];exact wg this
     ·have sr:Be (rm [sl,wl,rl] k3) (rm [sl,wl,rl] (upd k3 rl (.lst (vs++[u])))):=Ro (by simp);refine Nb (L2.Paired.imp' (λ_ _ z=>z.sm (Sm.of ((Ka b6).trans sr))) b9) (.cons ?_ .nil);exact(hz.rm hL b6 (j9.dfl.imp id λz=>z.2.2)).sm (Sm.of sr)
    rintro l o ⟨fs,vs,a2,a1,rfl,M,d7,B,J,b9⟩;obtain⟨nm,f2⟩:∃nm,zs[k]?=some nm:=⟨_,Az (by lia)⟩;have g1:o nl=some (.lst (zs.map V.str)):=B _ _ (I _ _ (s4 _ _ j2));have c2:=B _ _ e6;refine Cq (λl c9=>∃(fm gl:AE) (go:List Int),l=sS sc n nl sl wl (some (.int (0+ (k:Int)))) (some (.int one)) (some (.bl c)) (some (.int (m:Int))) (some (.ref ml)) (some (.ref tl)) (some (.ref rl)) a2 a1 (some (.ref fm))/\o fm=none/\o gl=none/\go.Perm (ms.drop m)/\go.Pairwise (·<= ·)/\Be o c9/\c9 gl=some (.lst (go.map V.int))/\c9 fm=some (.dK (rF (.str (nm)) (.bl c) (.ref gl)))) ?_ ?_
    ·refine λp hp=>?_;have t0:Be o (upd o p (.dK [])):=By hp;refine⟨_,rfl,_,rfl,nl,_,_,_,rfl,rfl,Cj.of (t0 _ _ g1),kX (v:=.str (nm)) (by rw[AT,f2];rfl),_,rfl,_,rfl,_,rfl,_,rfl,ml,_,rfl,Cj.of (t0 _ _ c2),λpS l6=>?_⟩;have t1:=By (u:=.lst (UO (ms.map V.int) (some (m:Int)) none)) l6;refine⟨pS,ms.drop m,rfl,Cj.of (by rw[AC,Qv rfl,List.map_drop]),by rw[DR];lia,λgl hgl=>?_⟩;have t2:=By (u:=.lst ((MD (ms.drop m)).map V.int)) hgl;refine⟨t2 _ _ (t1 _ _ AC),rF (.str (nm)) (.bl c) (.ref gl),rfl,by show 3<=15;decide,p,gl,_,rfl,hp,t0.free (t1.free hgl),PySem.W.sortI_perm _,PySem.W.sortI_rises _,((t0.trans t1).trans t2).put hp,?_,?_⟩
     ·rw[Bb]
      ·exact AC
      ·rintro rfl;rw[t1 _ _ AC]at hgl;cases hgl
     ·rw[AC,qc]
    rintro l c9 ⟨fm,gl,go,rfl,L,b1,l9,l8,b5,a8,c7⟩;have l1:fs.length=vs.length:=b9.length;have g2:=b5 _ _ c2;have f8:=b5 _ _ J;refine Cq (λl O=>∃(fl:AE) (js:List Nat),js.Perm (Bm m)/\(js.map λj=>ms.getD j 0).Pairwise (·< ·)/\l=sS sc n nl sl wl (some (.int (0+ (k:Int)))) (some (.int one)) (some (.bl c)) (some (.int (m:Int))) (some (.ref ml)) (some (.ref tl)) (some (.ref rl)) a2 a1 (some (.ref fm))/\c9 fl=none/\Be o O/\O gl=some (.lst (go.map V.int))/\O fl=some (.lst (js.map λj=>vs.getD j .non))/\O fm=some (.dK (iQ ⟨nm,c,go,js.map λj=>fs.getD j fK⟩ gl fl))) ?_ ?_
    ·refine⟨_,rfl,(m:Int),rfl,by lia,by lia,?_⟩;rw[show((m:Int)).toNat=m by lia];refine kK (Wk.rng 0 m) (by rw[Ay,BB];lia) (λj H y=>∃t,y= .ref t/\H t=some (.tup [.int (ms.getD j 0),.int (0+ (j:Int))])) (λi H H' v s j8=>(by obtain⟨t,e,h⟩:=j8;exact⟨t,e,s _ _ h⟩)) (λi H D zs us v hD j7=>(by obtain⟨t,e,h⟩:=j7;exact⟨t,e,by rw[Bb (λz=>by rw[z,hD]at h;cases h)];exact h⟩)) (λj x hx H2 R s2 hR=>?_) (λD1 c8 ys p5 f0 m6 f3 k9=>?_)
     ·obtain⟨rfl,N⟩:=Rn hx;have c3:ms[j]?=some (ms[j]'(by lia)):=Az _;refine⟨Sub.set rfl,_,rfl,_,rfl,ml,_,_,_,rfl,rfl,Cj.of (s2 _ _ g2),kX (v:=.int (ms[j]'(by lia))) (by rw[AT,c3];rfl),_,rfl,zl 2,λt ht=>hR _ _ (By ht) ⟨t,rfl,?_⟩⟩;rw[AC,AL,c3];rfl
     ·obtain⟨tt,rfl,l3⟩:=mu (P:=λi t=>c8 t=some (.tup [.int (ms.getD i 0),.int (0+ (i:Int))])) ys k9;rw[Ay,Ay,BB]at f3;have htk:∀j,j<m->(ms.take m).getD j 0=ms.getD j 0:=λj N=>by
       rw[AL,AL,FJ N]
      have e5:∀j,j<tt.length->c8 (tt.getD j 0)=some (.tup [.int (ms.getD j 0),.int (0+ (j:Int))]):=λj N=>by
       refine l3 j _ ?_;rw[AL,Az N];rfl
      refine⟨D1,tt,ms.take m,rfl,m6,by rw[BY];lia,d8.nd.sublist (Vh _ _),λj N=>⟨_,by rw[htk j (by lia)];exact e5 j N⟩,by lia,λD2 js m4 k8 f9=>?_⟩
      ·have t2:Be c8 (upd c8 D2 (.lst ((js.map λi=>tt.getD i 0).map V.ref))):=By m4;have pj:js.Perm (Bm m):=by rw[<-f3];exact k8
       have N:Paired (λ(i:Nat) t=>c8 t=some (.tup [.int (ms.getD i 0),.int (0+ (i:Int))])) js (js.map λi=>tt.getD i 0):=Xf js λj N=>e5 j (by rw[f3];exact CG.mp (pj.mem_iff.mp N));have g4: (js.map λj=>ms.getD j 0).Pairwise (·< ·):=by
        rw[Dj (g:=λi=>(ms.take m).getD i 0) λj N=>(htk j (CG.mp (pj.mem_iff.mp N))).symm];exact f9
       generalize (js.map λi=>tt.getD i 0)=h8 at N t2;have j5:js.length=h8.length:=N.length;have n1:h8.length=m:=by rw[<-j5,pj.length_eq,BB]
       refine⟨D2,rfl,⟨_,Cj.of AC⟩,Dc (Wk.list (Cj.of AC)) (by rw[Ay];lia) (λi=>match js[i]? with|some j=>vs.getD j .non|none=>.non) (λi x hx h6 R d4 hR=>?_) (λfl h6 M d4 h3=>?_)⟩
       ·rw[AT]at hx;obtain⟨t,ht,rfl⟩:=Cc.mp hx;obtain⟨j,j6,i4⟩:=Hz N i t ht;have p2:j<m:=CG.mp (pj.mem_iff.mp (AY j6));have i3:vs[j]?=some (vs[j]'(by lia)):=Az _;have k0:R (vs.getD j .non) h6:=by
         have:=hR h6 λ_ _ e=>e;rw[j6]at this;exact this
        refine⟨t,_,rfl,DW.of (d4 _ _ (t2 _ _ i4)),rfl,_,_,rfl,_,_,rfl,rfl,(Sub.set rfl).trans (Sub.set rfl),_,rfl,_,rfl,rl,_,_,_,rfl,rfl,Cj.of (d4 _ _ (t2 _ _ (f0 _ _ f8))),kX i3,?_⟩;rw[show vs.getD j .non=vs[j]'(by lia)by rw[AL,i3];rfl]at k0;exact k0
       ·have a3:=(f0.trans t2).trans d4;have c6:=a3 _ _ c7;refine⟨_,rfl,fm,_,rfl,bD.k (k:=.inr "fields") c6 (by show 3<sizeLine;decide),fl,js,pj,g4,rfl,f0.free (t2.free M),(b5.trans a3).put L,?_,?_,?_⟩
        ·rw[Bb (λz=>by rw[z,c7]at a8;cases a8)];exact a3 _ _ a8
        ·rw[Bb (λz=>by rw[z,c6]at h3;cases h3),h3,Ay,<-j5,Il js (λj=>vs.getD j .non) _ (λi d hd=>by rw[hd])]
        ·rw[AC,<-uu]
    rintro l O ⟨fl,js,pj,g4,rfl,b2,b4,g5,g7,g6⟩;have c4:∀j∈js,j<fs.length:=λj N=>by rw[M];exact CG.mp (pj.mem_iff.mp N)
    have g0: (js.map λj=>fs.getD j fK).Perm fs:=gz fs fK (by rw[M];exact pj);have b0:pb k Ws ⟨nm,c,go,js.map λj=>fs.getD j fK⟩:=d7.gok (by lia) (by rw[M];exact l7) f5 d8 (by lia) g0 (by rw[M];exact l9);have l5:bA ⟨nm,c,go,js.map λj=>fs.getD j fK⟩:=⟨by
     show((js.map λj=>fs.getD j fK).map (·.num)).Pairwise (·< ·);rw[Bi,Dj (g:=λj=>ms.getD j 0) λj N=>?_]
     ·exact g4
     ·have e:=d7.num j _ (Az (c4 j N));show(fs.getD j fK).num=ms.getD j 0;rw[AL,AL,e,Az (c4 j N)];rfl,l8⟩
    have b8:=b4 _ _ (B _ _ (I _ _ b7));have f4:=b4 _ _ (B _ _ (I _ _ a9));have n4:gs.length=as.length:=hpa.length;refine⟨_,rfl,.inl ⟨rfl,_,Cj.of b8⟩,_,rfl,sl,_,.ref fm,rfl,rfl,b8,DC (by rw[Ay];lia),?_⟩;have a7:=B _ _ (I _ _ b7);have a6:=B _ _ (I _ _ a9);have f1:∀{b:AE},b≠sl->b≠wl->b∉ [sl,wl]:=λh1 h2 z=>by
     simp only[AU,BL,or_false]at z;exact z.elim h1 h2
    have e7:SQ (rm [sl,wl] O) ⟨nm,c,go,js.map λj=>fs.getD j fK⟩ (.ref fm):=by
     refine⟨fm,gl,fl,_,rfl,Jy (f1 (λz=>?_) (λz=>?_)) g6,Jy (f1 (λz=>?_) (λz=>?_)) g5,Jy (f1 (λz=>?_) (λz=>?_)) g7,?_⟩
     ·rw[z,a7]at L;cases L
     ·rw[z,a6]at L;cases L
     ·rw[z,a7]at b1;cases b1
     ·rw[z,a6]at b1;cases b1
     ·rw[z,b5 _ _ a7]at b2;cases b2
     ·rw[z,b5 _ _ a6]at b2;cases b2
     ·exact eL (L2.Paired.imp' (λ_ _ z=>z.sm (Sm.of ((Ka b4).trans (mi (by intro a ha;simp only[AU,BL,or_false]at ha ⊢;rcases ha with h|h <;> simp[h]))))) b9) fK .non js c4
    have sa:Be (rm [sl,wl] O) (rm [sl,wl] (upd O sl (.lst (as.map V.ref++[.ref fm])))):=Ro (by simp);have a5:upd O sl (.lst (as.map V.ref++[.ref fm])) wl=some (.lst (Ws.map V.int)):=by rw[Bb (CI f6)];exact f4
    have g3:Ws.length<=6:=by lia
    have c5:pb Ws.length Ws ⟨nm,c,go,js.map λj=>fs.getD j fK⟩:=by rw[g8];exact b0
    have i1:=WT hW c5;refine⟨_,rfl,.inl ⟨rfl,_,Cj.of a5⟩,_,rfl,_,rfl,.ref fm,⟨nm,c,go,js.map λj=>fs.getD j fK⟩,wl,Ws,rfl,e7.sm (Sm.of (sa.trans Uc)),a5,hW.bd g3,λf hf=>(c5.fs f hf).kind,BS b0.len Aa,b0.ne,λk2 d3=>?_⟩;have sb:Be (rm [sl,wl] k2) (rm [sl,wl] (upd k2 wl (.lst (Ws.map V.int++[.int (Hj Ws c (js.map λj=>fs.getD j fK))])))):=Ro (by simp);have h9:=(sa.trans (Ka d3)).trans sb;refine⟨wl,_,_,rfl,rfl,d3 _ _ a5,DC (by rw[Ay,g8];lia),.mk (gs:=gs++[⟨nm,c,go,js.map λj=>fs.getD j fK⟩]) (Ws:=Ws++[Hj Ws c (js.map λj=>fs.getD j fK)]) (as:=as++[fm]) (hok.snoc (by rw[hgl];exact b0) ?_) (by rw[AZ,hgl];rfl) (λg' m0=>(BZ.mp m0).elim (hri g') λz=>by rw[AM.mp z];exact l5) ?_ ?_ ?_ ?_ ?_ ?_ ?_ (hW.snoc i1.1 i1.2) ?_⟩
    ·rw[Ck,hnm,Bf,Dl];have:zs.take k++[nm]=zs.take (k+1):=by rw[Gh,f2];rfl
     rw[this];exact i0.take _
    ·rw[Ck,hnm,Bf,Dl,Gh,f2];rfl
    ·intro g' e;rcases NL e with e|⟨e,rfl⟩
     ·rw[Cz (by lia)]at e;cases e
     ·cases m2:c with
      |false=>rfl
      |true=>have:=hc m2;lia
    ·intro a ha;rcases BZ.mp ha with ha|ha
     ·exact has a ha
     ·rw[AM.mp ha];exact s4.free (I.free (B.free L))
    ·refine List.nodup_append.mpr ⟨hnd,List.pairwise_singleton _ _,λa ha b hb z=>?_⟩;rw[AM.mp hb]at z;obtain⟨i,hi⟩:=DB.mp ha;obtain⟨g',_,a',p6,p7,n6,e',m3,_⟩:=Hz hpa i a hi;cases e';have:=B _ _ (I _ _ (Ix m3).2);rw[z,L]at this;cases this
    ·have sH:Be H1 (upd O sl (.lst (as.map V.ref++[.ref fm]))):=(((s4.trans I).trans B).trans b4).put hsl;exact(sH.trans d3).put i2
    ·rw[Bb f6,d3 _ _ AC,Ck];rfl
    ·rw[AC,Ck];rfl
    ·exact Nb (L2.Paired.imp' (λ_ _ z=>z.sm (Sm.of ((Ka ((I.trans B).trans b4)).trans h9))) hpa) (.cons (e7.sm (Sm.of h9)) .nil)
  rintro l H2 @⟨_,gs,Ws,as,k,one,c,cnt,ml,tl,rl,j,fh,fm,hok,hgl,hri,hnm,hlast,has,hnd,s2,i8,n0,hW,hpa⟩;exact⟨_,rfl,q gs Ws as sl H2 hok hri (by lia) (by lia) (by rw[hgl];exact hlast) (s1.free hsl) (λa ha=>s1.free (has a ha)) hnd (s1.trans s2) i8 (L2.Paired.imp' (λ_ _ z=>z.sm (Sm.of Uc)) hpa)⟩
def JC(gs:List SG)(i:Nat):Bc:=((gs[i]?).map (·.nam)).getD ""
def EN(gs:List SG):Lk->Kx
 |.truth=>.truth
 |.count=>.count
 |.whole=>.whole
 |.upto n=>.upto (.int n)
 |.text n=>.text (.int n)
 |.form i=>.form (.str (JC gs i))
 |.list k=>.list (EN gs k)
def Nw(H:Hp)(gs:List SG)(v:V):Prop:=∃l as,v= .ref l/\H l=some (.lst (JL V.ref as))/\Paired (λg a=>SQ H g (.ref a)) gs as
theorem Nw.sm{H H':Hp}(s:Sm H H'){gs:List SG}{v:V}:Nw H gs v->Nw H' gs v:=λa=>by
 obtain⟨l,as,e,h,p⟩:=a;exact⟨l,as,e,s _ _ h rfl,L2.Paired.imp' (λ_ _ z=>z.sm s) p⟩
theorem Nw.at{H:Hp}{gs:List SG}{v:V}(h:Nw H gs v){i:Nat}{g:SG}(hi:gs[i]?=some g):∃l as a,v= .ref l/\H l=some (.lst (JL V.ref as))/\as[i]?=some a/\SQ H g (.ref a):=by
 obtain⟨l,as,e,d,p⟩:=h;have c:gs.length=as.length:=p.length;have f:i<gs.length:=(AO.mp hi).1;have ha:as[i]?=some (as[i]'(by lia)):=Az _;obtain⟨g',b,r⟩:=Hz p i _ ha;obtain rfl:g=g':=Ba (hi.symm.trans b);exact⟨l,as,_,e,d,ha,r⟩
def MU(gs:List SG)(k:Lk):Sp:=λvs H Q _=>∃v sv,vs=[v,sv]/\TL H k v/\Nw H gs sv/\CV (gs.map (·.nam))/\k.ok gs.length/\∀u H',Be H H'->Of H' (EN gs k) u->Q u H'
theorem eP{n:Nat}{k:Lk}(h: (Lk.list k).ok n):k.ok n:=by
 rcases h with h|⟨i,rfl,h⟩
 ·cases k with
  |form i=>exact h.elim
  |list j=>exact h.elim
  |_=>exact h
 ·exact h
theorem Tg{k:Nat}{f:AE}{fd:Ey}{ps:List Bc}:He P w K mg base Zr k f fd ps (λ_ _ _ _=>False):=⟨λ_ _ _ _ h=>h.elim,λ_ _ _ _ _ _ _ _ _ _ _ _ _ _ _ h=>h.elim⟩
theorem OC(T:Tx K mg){r:Nat}{g:Sp}(G:HL.Et P w K mg base (r+1) 957 An g){gs:List SG}{k:Lk}(J:∀B,k= .list B->∀vs H Q E,MU gs B vs H Q E->g vs H Q E):
  HL.Et P w K mg base (r+3) 957 An (MU gs k):=by
 obtain⟨D,y⟩:=QB T;have N:Cv [V.int 100] [EA 100 D]:=.cons ⟨_,rfl⟩ .nil;refine(T.df 48 rfl).ok Yx (λvs H Q E h=>?_) (λcdv A outer s H vs Q E o h=>?_)
 ·obtain⟨v,sv,rfl,_⟩:=h;rfl
 ·obtain⟨v,sv,rfl,e,hs,hn,hok,q⟩:=h;have Pe:FD (1+1) _:=o.mono (by lia);have F:=o.units;have m:=BS (BA (show 1<=64 by decide) _) F;refine⟨_,AV (BH (Bp De (Cp CW (pv 0) AH (λ_ _=>rfl)) AQ (Bw _)) (AD (AN (DF ⟨T.dV,T.RU,T.RQ,T.dR⟩ (Qc T) Pe rfl T.Yg T.RZ .nil CL (Ax (AW G (o.mono (by lia)) T.Pu (Ax (Cp CW (pv 0) AH (λ_ _=>rfl)) (Ax (pv 1) AA))) AA)))) Bd) (AV (BH (Bp De (Cp CW (pv 0) AH (λ_ _=>rfl)) AQ (Bw _)) (AD (AN (DF ⟨T.WQ,T.Op,T.Oo,T.WP⟩ (Ng T) Pe rfl T.KN T.Ou .nil CL (Ax (BK m (Cp CM (pv 1) (Cp CW (pv 0) AH (λ_ _=>rfl)) (λ_ _=>rfl)) AQ (λ_ _=>rfl)) AA)))) Bd) (AV (BH (Bp De (Cp CW (pv 0) AH (λ_ _=>rfl)) AQ (Bw _)) (AD (AN (DF ⟨T.dU,T.RT,T.RP,T.dQ⟩ (Qb T) Pe rfl T.Ye T.RY .nil CL (Ax (Cp CW (pv 0) AH (λ_ _=>rfl)) AA)))) Bd) (AV (BH (Bp De (Cp CW (pv 0) AH (λ_ _=>rfl)) AQ (Bw _)) (AD (AN (Gb (Bp De (Cp CW (pv 0) AH (λ_ _=>rfl)) AH (Bw _)) (ai ⟨T.SX,T.JX,T.JW,T.SW⟩ (Ji T) Pe rfl T.Lv y N CL) (DF ⟨T.SX,T.JX,T.JW,T.SW⟩ (Ji T) Pe rfl T.Lv (QA T) .nil CL (Ax (Cp CW (pv 0) AH (λ_ _=>rfl)) AA))))) Bd) (AV (BH (Bp De (Cp CW (pv 0) AH (λ_ _=>rfl)) AQ (Bw _)) (AD (AN (Le T.Zx T.Ps T.Zu rfl T.Pq))) Bd) (AD (AN (Gb (Bp De (Cp CW (pv 0) AH (λ_ _=>rfl)) AQ (Bw _)) (Le T.Zy T.Pt T.Zv rfl T.Tn) (Le T.Zw T.Pr T.Zt rfl T.Tl)))))))),?_⟩;have new:∀(C:AE) (fs:List (Bc×V)) (x dx:AE),H x=none->H dx=none->dx≠x->Be H (upd (upd (upd H dx (.own x)) x (.ins C dx [])) x (.ins C dx fs)):=λC fs x dx hx b hne=>by
   rw[Iv];refine(By b).trans (By ?_);rw[Bb (CI hne)];exact hx
  have d:∀(C:AE) (x dx:AE),H x=none->H dx=none->dx≠x->Be H (upd (upd H dx (.own x)) x (.ins C dx [])):=λC x dx hx b hne=>by
   refine(By b).trans (By ?_);rw[Bb (CI hne)];exact hx
  cases k with
  |upto n=>
   obtain⟨t,rfl,c⟩:=e;refine⟨_,rfl,t,_,_,_,rfl,rfl,DW.of c,GQ,rfl,_,rfl,Dk Ab ?_⟩;refine⟨_,rfl,t,_,_,_,rfl,rfl,DW.of c,GQ,rfl,_,rfl,Dk Ab ?_⟩;refine⟨_,rfl,t,_,_,_,rfl,rfl,DW.of c,GQ,rfl,_,rfl,HR rfl ?_⟩;refine⟨_,rfl,t,_,_,_,rfl,rfl,DW.of c,Zl,λx dx hx b hne=>⟨x,dx,_,rfl,AC,rfl,?_⟩⟩;exact q _ _ (new 362 _ x dx hx b hne) ⟨x,dx,_,rfl,AC,rfl⟩
  |form i=>
   obtain⟨t,rfl,c⟩:=e;have hi:i<gs.length:=hok;have hg:gs[i]?=some (gs[i]'hi):=Az hi;have hnm:JC gs i=(gs[i]'hi).nam:=by unfold JC;rw[hg];rfl
   obtain⟨l,as,a,rfl,I,ha,O,gl,fl,xs,M,L,_⟩:=hs.at hg;cases M;have p:=(Gj (hn.ok _ (Bg.mpr ⟨_,AY hg,rfl⟩)).1).2.1;refine⟨_,rfl,t,_,_,_,rfl,rfl,DW.of c,GQ,rfl,_,rfl,Dk Ab ?_⟩;refine⟨_,rfl,t,_,_,_,rfl,rfl,DW.of c,GQ,rfl,_,rfl,HR rfl ?_⟩;refine⟨_,rfl,_,rfl,t,_,_,_,rfl,rfl,DW.of c,Zl,l,_,_,_,rfl,rfl,Cj.of I,HY (j:=i) (v:=.ref a) (by rw[AT,ha];rfl),a,_,rfl,Eo L,λx dx hx b hne=>⟨x,dx,_,rfl,AC,rfl,?_⟩⟩;refine q _ _ (new 528 _ x dx hx b hne) ⟨x,dx,_,rfl,AC,?_⟩;rw[hnm];exact⟨rfl,AJ p Aa⟩
  |text n=>
   obtain⟨t,rfl,c⟩:=e;refine⟨_,rfl,t,_,_,_,rfl,rfl,DW.of c,GQ,rfl,_,rfl,Dk Ab ?_⟩;refine⟨_,rfl,t,_,_,_,rfl,rfl,DW.of c,GQ,rfl,_,rfl,Dk Ab ?_⟩;refine⟨_,rfl,t,_,_,_,rfl,rfl,DW.of c,GQ,rfl,_,rfl,Dk Ab ?_⟩;refine⟨_,rfl,t,_,_,_,rfl,rfl,DW.of c,GQ,rfl,_,rfl,HR rfl ?_⟩;refine⟨_,rfl,t,_,_,_,rfl,rfl,DW.of c,Zl,rfl,_,rfl,FT (λh=>?_) (λh=>?_)⟩
   ·obtain rfl:n=100:=V.int.inj (wj h);refine λx dx hx b hne=>⟨x,dx,_,rfl,AC,rfl,?_⟩;exact q _ _ (new 415 _ x dx hx b hne) ⟨x,dx,_,rfl,AC,rfl⟩
   ·refine⟨_,rfl,t,_,_,_,rfl,rfl,DW.of c,Zl,λx dx hx b hne=>⟨x,dx,_,rfl,AC,rfl,?_⟩⟩;exact q _ _ (new 415 _ x dx hx b hne) ⟨x,dx,_,rfl,AC,rfl⟩
  |truth=>
   obtain⟨t,rfl,c⟩:=e;refine⟨_,rfl,t,_,_,_,rfl,rfl,DW.of c,GQ,rfl,_,rfl,Dk Ab ?_⟩;refine⟨_,rfl,t,_,_,_,rfl,rfl,DW.of c,GQ,rfl,_,rfl,Dk Ab ?_⟩;refine⟨_,rfl,t,_,_,_,rfl,rfl,DW.of c,GQ,rfl,_,rfl,Dk Ab ?_⟩;refine⟨_,rfl,t,_,_,_,rfl,rfl,DW.of c,GQ,rfl,_,rfl,Dk Ab ?_⟩;refine⟨_,rfl,t,_,_,_,rfl,rfl,DW.of c,GQ,rfl,_,rfl,HR rfl ?_⟩;exact λx dx hx b hne=>q _ _ (d 242 x dx hx b hne) ⟨x,dx,rfl,AC⟩
  |count=>
   obtain⟨t,rfl,c⟩:=e;refine⟨_,rfl,t,_,_,_,rfl,rfl,DW.of c,GQ,rfl,_,rfl,Dk Ab ?_⟩;refine⟨_,rfl,t,_,_,_,rfl,rfl,DW.of c,GQ,rfl,_,rfl,Dk Ab ?_⟩;refine⟨_,rfl,t,_,_,_,rfl,rfl,DW.of c,GQ,rfl,_,rfl,Dk Ab ?_⟩;refine⟨_,rfl,t,_,_,_,rfl,rfl,DW.of c,GQ,rfl,_,rfl,Dk Ab ?_⟩;refine⟨_,rfl,t,_,_,_,rfl,rfl,DW.of c,GQ,rfl,_,rfl,Dk Ab ?_⟩;refine⟨_,rfl,t,_,_,_,rfl,rfl,DW.of c,GQ,rfl,_,rfl,HR rfl ?_⟩;exact λx dx hx b hne=>q _ _ (d 275 x dx hx b hne) ⟨x,dx,rfl,AC⟩
  |whole=>
   obtain⟨t,rfl,c⟩:=e;refine⟨_,rfl,t,_,_,_,rfl,rfl,DW.of c,GQ,rfl,_,rfl,Dk Ab ?_⟩;refine⟨_,rfl,t,_,_,_,rfl,rfl,DW.of c,GQ,rfl,_,rfl,Dk Ab ?_⟩;refine⟨_,rfl,t,_,_,_,rfl,rfl,DW.of c,GQ,rfl,_,rfl,Dk Ab ?_⟩;refine⟨_,rfl,t,_,_,_,rfl,rfl,DW.of c,GQ,rfl,_,rfl,Dk Ab ?_⟩;refine⟨_,rfl,t,_,_,_,rfl,rfl,DW.of c,GQ,rfl,_,rfl,Dk Ab ?_⟩;refine⟨_,rfl,t,_,_,_,rfl,rfl,DW.of c,GQ,rfl,_,rfl,Dk Ab ?_⟩;exact λx dx hx b hne=>q _ _ (d 308 x dx hx b hne) ⟨x,dx,rfl,AC⟩
  |list k=>
   obtain⟨t,u,rfl,c,f⟩:=e;refine⟨_,rfl,t,_,_,_,rfl,rfl,DW.of c,GQ,rfl,_,rfl,HR rfl ?_⟩;refine⟨_,rfl,t,_,_,_,rfl,rfl,DW.of c,Zl,_,rfl,J _ rfl _ _ _ _ ⟨u,sv,rfl,f,hs,hn,eP hok,λz H' s' f=>?_⟩⟩;refine λx dx hx b hne=>⟨x,dx,_,rfl,AC,rfl,?_⟩;have s2:Be H' (upd (upd (upd H' dx (.own x)) x (.ins 474 dx [])) x (.ins 474 dx [("item",z)])):=by
    rw[Iv];refine(By b).trans (By ?_);rw[Bb (CI hne)];exact hx
   exact q _ _ (s'.trans s2) ⟨x,dx,z,rfl,AC,f.sm (Sm.of s2)⟩
theorem kn{k:Nat}{f:AE}{fd:Ey}{ps:List Bc}{sp r:Sp}(h:∀vs H Q E,r vs H Q E->sp vs H Q E)(F:He P w K mg base Zr k f fd ps sp):He P w K mg base Zr k f fd ps r:=⟨λvs H Q E x=>F.1 vs H Q E (h _ _ _ _ x),λa b c d e f g i j l m n o p q x=>F.2 a b c d e f g i j l m n o p q (h _ _ _ _ x)⟩
theorem oS{t:Type}{k:Nat}{f:AE}{fd:Ey}{ps:List Bc}{sp:t->Sp}(F:∀i,He P w K mg base Zr k f fd ps (sp i)):He P w K mg base Zr k f fd ps (λvs H Q E=>∃i,sp i vs H Q E):=⟨λvs H Q E s=>(by obtain⟨i,x⟩:=s;exact(F i).1 vs H Q E x),λa b c d e f g h j l m n o p q r=>(by obtain⟨i,x⟩:=r;exact(F i).2 a b c d e f g h j l m n o p q x)⟩
theorem gF(T:Tx K mg)(gs:List SG)(k:Lk):HL.Et P w K mg base 6 957 An (MU gs k):=by
 have base:∀k:Lk,(∀j,k≠ .list j)->HL.Et P w K mg base 3 957 An (MU gs k):=λk c=>
  OC T (r:=0) (Tg (k:=0+1)) (λa e=>wo e (c a))
 cases k with
 |list k=>
  by_cases b:∃j,k= .list j
  ·obtain⟨j,rfl⟩:=b;refine kn (sp:=λ_ _ _ _=>False) (λvs H Q E h=>?_) Tg;obtain⟨v,sv,_,_,_,_,hok,_⟩:=h;rcases hok with h|⟨i,h,_⟩
   ·exact h
   ·cases h
  ·exact(OC T (r:=2) (base k λj e=>b ⟨j,e⟩) λa e vs H Q E h=>by cases e;exact h).mono Aa
 |_=>exact(base _ λj e=>by cases e).mono Aa
def gd:Sp:=λvs H Q E=>∃i:List SG×Lk,MU i.1 i.2 vs H Q E
theorem jD(T:Tx K mg):HL.Et P w K mg base 6 957 An gd:=oS λi=>gF T i.1 i.2
theorem NK{a b:Bc}(h:decide (a=b)=false:=by kernel_rfl):¬V.str a=V.str b:=λe=>of_decide_eq_false h (V.str.inj e)
def SK(gs:List SG)(f:SF):Fx:=⟨.int f.num,.str f.nam,EN gs f.kind,.bl f.must,f.dfl⟩
theorem Nv(gs:List SG)(k:Lk):GT (EN gs k)=Dy k:=by cases k <;> rfl
theorem db(gs:List SG):∀k:Lk,(EN gs k).may
 |.truth=>trivial
 |.count=>trivial
 |.whole=>trivial
 |.upto _=>trivial
 |.text _=>trivial
 |.form _=>trivial
 |.list k=>db gs k
def ls(f:SF):Prop:=f.dfl=Dy f.kind\/(f.must=false/\QG f.kind f.dfl)
theorem pR{gs:List SG}{k:Lk}{d:Dt}(h:d=Dy k\/QG k d):cQ (EN gs k) d=d:=by
 rcases h with rfl|h
 ·cases k <;> rfl
 ·cases k with
  |truth=>rw[show d= .bl true from h];rfl
  |text n=>obtain⟨z,rfl,_⟩:=h;rfl
  |upto m=>obtain⟨i,rfl,_⟩:=h;rfl
  |whole=>obtain⟨i,rfl,_⟩:=h;rfl
  |count=>obtain⟨i,rfl,_⟩:=h;rfl
  |form i=>exact h.elim
  |list k=>exact h.elim
theorem aN{H H':Hp}{k:Lk}{d:Dt}{v:V}(h:QG k d)(h1:Th H d v)(h2:Th H' (Dy k) v):d=Dy k:=by
 cases k with
 |truth=>
  rw[show d= .bl true from h]at h1;rw[show v=V.bl true from h1]at h2;cases h2
 |text n=>
  obtain⟨z,rfl,_⟩:=h;rw[h1.1]at h2;obtain⟨e,_⟩:=h2;injection e with e;rw[e];rfl
 |upto m=>
  obtain⟨i,rfl,_⟩:=h;rw[show v=V.int i from h1]at h2;cases h2;rfl
 |whole=>
  obtain⟨i,rfl,_⟩:=h;rw[show v=V.int i from h1]at h2;cases h2;rfl
 |count=>
  obtain⟨i,rfl,_⟩:=h;rw[show v=V.int i from h1]at h2;cases h2;rfl
 |form i=>exact h.elim
 |list k=>exact h.elim
def iE:Sp:=λvs H Q _=>∃v sv gs f,vs=[v,sv]/\UW H f v/\Nw H gs sv/\CV (gs.map (·.nam))/\f.kind.ok gs.length/\RA f.nam/\ls f/\∀u H',Be H H'->QH H H' (SK gs f) u->Q u H'
theorem YY{H H':Hp}{k:Lk}{d:Dt}{v u:V}(a:∀j,k≠ .list j)(hd:d=Dy k\/QG k d)(h:Th H d v)(h2:Th H' (Dy k) u):pH v u=true:=by
 cases k with
 |truth=>
  rw[show u=V.bl false from h2];rcases hd with rfl|hd
  ·rw[show v=V.bl false from h];rfl
  ·rw[show d= .bl true from hd]at h;rw[show v=V.bl true from h];rfl
 |text n=>
  rw[h2.1];rcases hd with rfl|hd
  ·rw[h.1];rfl
  ·obtain⟨z,rfl,_⟩:=hd;rw[h.1];rfl
 |form i=>
  rw[show u=V.non from h2];rcases hd with rfl|hd
  ·rw[show v=V.non from h];rfl
  ·exact hd.elim
 |list j=>exact wo rfl (a j)
 |count=>
  rw[show u=V.int 0 from h2];rcases hd with rfl|hd
  ·rw[show v=V.int 0 from h];rfl
  ·obtain⟨i,rfl,_⟩:=hd;rw[show v=V.int i from h];rfl
 |whole=>
  rw[show u=V.int 0 from h2];rcases hd with rfl|hd
  ·rw[show v=V.int 0 from h];rfl
  ·obtain⟨i,rfl,_⟩:=hd;rw[show v=V.int i from h];rfl
 |upto m=>
  rw[show u=V.int 0 from h2];rcases hd with rfl|hd
  ·rw[show v=V.int 0 from h];rfl
  ·obtain⟨i,rfl,_⟩:=hd;rw[show v=V.int i from h];rfl
theorem nU{gs:List SG}{H:Hp}{p:AE}{xs:List V}{u:HO}(hp:H p=some (.lst xs)):∀{k:Lk} {v:V},Of H (EN gs k) v->Of (upd H p u) (EN gs k) v:=by
 have c:∀{b:AE} {C dx:AE} {fs:List (Bc×V)},H b=some (.ins C dx fs)->upd H p u b=some (.ins C dx fs):=λ{b C dx fs} hb=>by rw[Bb (λz=>by rw[z,hp]at hb;cases hb)];exact hb
 intro k;induction k with
 |truth=>intro v h;obtain⟨a,dx,e,h⟩:=h;exact⟨a,dx,e,c h⟩
 |count=>intro v h;obtain⟨a,dx,e,h⟩:=h;exact⟨a,dx,e,c h⟩
 |whole=>intro v h;obtain⟨a,dx,e,h⟩:=h;exact⟨a,dx,e,c h⟩
 |upto n=>intro v h;obtain⟨a,dx,u,e,h,r⟩:=h;exact⟨a,dx,u,e,c h,r⟩
 |text n=>intro v h;obtain⟨a,dx,u,e,h,r⟩:=h;exact⟨a,dx,u,e,c h,r⟩
 |form n=>intro v h;obtain⟨a,dx,u,e,h,r⟩:=h;exact⟨a,dx,u,e,c h,r⟩
 |list k d=>intro v h;obtain⟨a,dx,u,e,h,r⟩:=h;exact⟨a,dx,u,e,c h,d r⟩
theorem jF(T:Tx K mg):HL.Et P w K mg base 7 964 Ao iE:=by
 have o:=@jD P w K mg base T;have D:=@Rr P w K mg base T;have v1:Cv [V.non] [DX]:=.cons rfl .nil;have v2:Cv [V.bl false,V.non] [EB false,DX]:=.cons rfl (.cons rfl .nil);refine(T.df 49 rfl).ok Iw (λvs H Q E h=>?_) (λcdv A outer s H vs Q E hr h=>?_)
 ·obtain⟨v,sv,gs,f,rfl,_⟩:=h;rfl
 ·obtain⟨v,sv,gs,f,rfl,hf,hs,hn,hok,hnm,a4,q⟩:=h;have Pe:FD (3+1) _:=hr.mono Aa;have hu:=hr.units;have c:=BS (BA (show 1<=64 by decide) _) hu;refine⟨_,Bh (BV (i:=2) Iw.nd rfl (Bn rfl) (AW o (hr.mono Aa) T.Pu (Ax (BK c (pv 0) AQ (λ_ _=>rfl)) (Ax (pv 1) AA)))) (AV (BH (BI (BK c (pv 0) AQ (λ_ _=>rfl))) (AD (AN (DF ⟨T.Ju,T.FR,T.FQ,T.Jt⟩ (Fo T) Pe rfl T.GY (OM T) v1 CL (Ax (BK c (pv 0) AQ (λ_ _=>rfl)) (Ax (BK c (pv 0) AQ (λ_ _=>rfl)) (Ax (pv 2) (Ax DA AA)))))))
    Bd)
   (Bh (BH (PW.pt (Gm (Bp (MI.or De (al hu)) (BK c (pv 0) AQ (λ_ _=>rfl)) (AW D (hr.mono Aa) T.Pw (Ax (BK c (pv 0) AQ (λ_ _=>rfl)) AA)) (Bw _)) (Fv (Bp De (Bz Df (BK c (pv 0) AQ (λ_ _=>rfl)) AH) AH (Bw _))))) (AD (AN (DF ⟨T.Ju,T.FR,T.FQ,T.Jt⟩ (Fo T) Pe rfl T.GY (ON T) v2 CL (Ax (BK c (pv 0) AQ (λ_ _=>rfl)) (Ax (BK c (pv 0) AQ (λ_ _=>rfl)) (Ax (pv 2) AA))))))
    Bd)
   (Bh (BV (i:=3) Iw.nd rfl (Bn rfl) (AW D (hr.mono Aa) T.Pw (Ax (BK c (pv 0) AQ (λ_ _=>rfl)) AA)))
   (AV (BH (Bp Ih (Cp CW (BK c (pv 0) AQ (λ_ _=>rfl)) AH (λ_ _=>rfl)) AQ (Bw _)) (AD (AN (DF ⟨T.Ju,T.FR,T.FQ,T.Jt⟩ (Fo T) Pe rfl T.GY (Kw T) .nil CL (Ax (BK c (pv 0) AQ (λ_ _=>rfl)) (Ax (BK c (pv 0) AQ (λ_ _=>rfl)) (Ax (pv 2) (Ax DA (Ax (BK c (pv 0) AQ (λ_ _=>rfl)) AA))))))))
    Bd)
   (Bh (BV (i:=4) Iw.nd rfl (Bn rfl) (DF ⟨T.Ju,T.FR,T.FQ,T.Jt⟩ (Fo T) Pe rfl T.GY (Kw T) .nil CL (Ax (BK c (pv 0) AQ (λ_ _=>rfl)) (Ax (BK c (pv 0) AQ (λ_ _=>rfl)) (Ax (pv 2) (Ax DA (Ax (pv 3) AA)))))))
   (AV (EX (Gr BO Cn Cm EF (pv 3) (Ax AH AA)))
   (AD (AN (pv 4))))))))),?_⟩
  obtain⟨a,kv,dv,rfl,ha,hT,hd⟩:=hf;have b6:=(Gj hnm.1).2.1;have L:f.dfl=Dy f.kind\/QG f.kind f.dfl:=a4.imp id λz=>z.2;refine Cq (λg H'=>∃k,g=[some (.ref a),some sv,some k,none,none]/\Be H H'/\Of H' (EN gs f.kind) k) ?_ ?_
  ·exact⟨_,rfl,a,_,rfl,DD ha,_,rfl,(gs,f.kind),kv,sv,rfl,hT,hs,hn,hok,λu H' s' b3=>⟨u,rfl,s',b3⟩⟩
  rintro g H1 ⟨k,rfl,s1,hk⟩;have B:=s1 _ _ ha;have a2:Th H1 (.str f.nam) (.str f.nam):=⟨rfl,AJ b6 Aa⟩;have N:∀{R:VK} {H2:Hp} {m a6:V} {d:Dt} {x dx:AE},Be H1 H2->H2 x=none->H2 dx=none->dx≠x->Th H2 (.bl f.must) m->Th H2 d a6->f.dfl=cQ (EN gs f.kind) d->(∀v H',Be H2 H'->QH H2 H' (SK gs f) v->R v H')->PL (.ref x::[.int f.num,.str f.nam,k,m,a6]) (upd (upd H2 dx (.own x)) x (.ins 555 dx [])) (λv H2=>v= .non/\R (.ref x) H2) E0:=λs2 hx l hne hm c0 e r=>
   LU (f:=SK gs f) hx l hne (db gs _) rfl (Th.sm (Sm.of s2) _ _ a2) (hk.sm (Sm.of s2)) hm c0 e r
  have fin:∀{H2:Hp},Be H1 H2->∀v H',Be H2 H'->QH H2 H' (SK gs f) v->Q v H':=λs2 v H' s' hF=>q v H' ((s1.trans s2).trans s') (hF.back (s1.trans s2));refine⟨_,rfl,a,_,rfl,Kd B,_,rfl,?_⟩;cases hm:f.must with
  |true=>
   have e:f.dfl=Dy f.kind:=a4.resolve_right λz=>by rw[hm]at z;cases z.1
   refine CY ⟨_,rfl,a,_,rfl,Dn B,_,rfl,a,_,rfl,Fd B,_,rfl,λx dx hx l hne=>?_⟩;exact N (Be.refl _) hx l hne (by rw[hm];rfl) (d:=.non) rfl (by rw[e];exact(Nv gs _).symm) (fin (Be.refl _))
  |false=>
   refine Ch ?_;have yes:∀{H2:Hp},Be H1 H2->f.dfl=Dy f.kind->∀x dx,H2 x=none->H2 dx=none->dx≠x->PL (.ref x::[.int f.num,.str f.nam,k,.bl false,.non]) (upd (upd H2 dx (.own x)) x (.ins 555 dx [])) (λv H2=>v= .non/\Q (.ref x) H2) E0:=λs2 e x dx hx l hne=>
    N s2 hx l hne (by rw[hm];rfl) (d:=.non) rfl (by rw[e];exact(Nv gs _).symm) (fin s2)
   refine Cq (λg H2=>g=[some (.ref a),some sv,some k,none,none]/\Be H1 H2) ?_ ?_
   ·refine⟨_,rfl,a,_,rfl,EI B,_,rfl,a,_,rfl,DD B,kv,f.kind,rfl,hT.sm (Sm.of s1),λu H2 s2 O _=>?_⟩;have I:=s2 _ _ B;have a0:Th H2 f.dfl dv:=Th.sm (Sm.of (s1.trans s2)) _ _ hd;by_cases hl:∃j,f.kind= .list j
    ·obtain⟨j,U⟩:=hl;have e:f.dfl=Dy f.kind:=L.resolve_right λz=>by rw[U]at z;exact z
     have X:=a0;rw[e,U]at X;rw[U]at O;obtain⟨p,xs,rfl,hp,hx,_⟩:=X;obtain⟨p',a8,rfl,b5,Y,_⟩:=O;obtain rfl:xs=[]:=hx;obtain rfl:a8=[]:=Y;refine .inr ⟨p,p',[],rfl,rfl,hp,b5,_,rfl,CY ⟨_,rfl,a,_,rfl,Dn I,_,_,rfl,rfl,(by show(0:Int) <2;decide),rfl,_,rfl,FT (λ_=>?_) (λ_=>⟨rfl,s2⟩)⟩⟩;exact⟨_,rfl,a,_,rfl,Dn I,_,rfl,a,_,rfl,Fd I,_,rfl,yes s2 e⟩
    ·have Z:∀j,f.kind≠ .list j:=λj e=>hl ⟨j,e⟩;refine .inl ⟨YY Z L a0 O,_,rfl,FT (λh=>?_) (λh=>Ch ⟨rfl,s2⟩)⟩;have e1:dv=u:=wj h;have e:f.dfl=Dy f.kind:=L.elim id λz=>aN z a0 (by rw[e1];exact O);refine⟨_,rfl,a,_,rfl,Dn I,_,_,rfl,rfl,(by show(0:Int) <2;decide),rfl,_,rfl,FT (λ_=>?_) (λ_=>⟨rfl,s2⟩)⟩;exact⟨_,rfl,a,_,rfl,Dn I,_,rfl,a,_,rfl,Fd I,_,rfl,yes s2 e⟩
   rintro g H2 ⟨rfl,s2⟩;refine Cq (λg W=>∃u,g=[some (.ref a),some sv,some k,some u,none]/\Be H2 W/\Th W (Dy f.kind) u/\Fz H2 u) ?_ ?_
   ·exact⟨_,rfl,a,_,rfl,DD (s2 _ _ B),kv,f.kind,rfl,hT.sm (Sm.of (s1.trans s2)),λu W s3 J hz=>⟨u,rfl,s3,J,hz⟩⟩
   rintro g W ⟨u,rfl,s3,J,hz⟩;have y:=s2.trans s3;have G:=y _ _ B;have c1:Th W f.dfl dv:=Th.sm (Sm.of (s1.trans y)) _ _ hd;obtain⟨t,ys,rfl,ht⟩:=(hT.sm (Sm.of (s1.trans y))).word;refine⟨_,rfl,a,_,rfl,DD G,t,_,_,_,rfl,rfl,DW.of ht,GQ,rfl,_,rfl,?_⟩;by_cases hl:∃j,f.kind= .list j
   ·obtain⟨j,U⟩:=hl;have e:f.dfl=Dy f.kind:=L.resolve_right λz=>by rw[U]at z;exact z
    rw[U];refine Gc rfl ?_;refine Cq (λg M=>∃m,g=[some (.ref a),some sv,some k,some u,some m]/\Be W M/\QH W M (SK gs f) m) ?_ ?_
    ·exact⟨_,rfl,a,_,rfl,Dn G,_,rfl,a,_,rfl,Fd G,_,rfl,_,rfl,λx dx hx l hne=>N (R:=λv M=>∃m,([some (.ref a),some sv,some k,some u,some v]:L2.St)=[some (.ref a),some sv,some k,some u,some m]/\Be W M/\QH W M (SK gs f) m) y hx l hne (show V.bl false=V.bl f.must by rw[hm]) J (by rw[e,U];rfl) λv M s4 hF=>⟨v,rfl,s4,hF⟩⟩
    rintro g M ⟨m,rfl,s4,hF⟩;rw[U]at J;obtain⟨p,xs,rfl,hp,Y,_⟩:=J;obtain rfl:xs=[]:=Y;have S:=s4 _ _ hp;have b4:H1 p=none:=s2.free (hz p rfl);refine⟨_,rfl,.inl ⟨rfl,_,Cj.of S⟩,p,[],_,rfl,rfl,S,by show 0<sizeLine;decide,_,rfl,?_⟩;have s5:Be H1 (upd M p (.lst ([] ++[.int 1]))):=(y.trans s4).put b4;obtain⟨fa,c2,n,z,kk,mm,d,e1,b9,h1,h2,h3,h4,h5,h6⟩:=hF;have b0:∀{b:AE} {C dx:AE} {fs:List (Bc×V)},M b=some (.ins C dx fs)->upd M p (.lst ([] ++[.int 1])) b=some (.ins C dx fs):=λ{b C dx fs} hb=>by rw[Bb (λz=>by rw[z,S]at hb;cases hb)];exact hb
    refine q _ _ (s1.trans s5) ⟨fa,c2,n,z,kk,mm,d,e1,b0 b9,h1,h2,?_,h4,?_,?_⟩
    ·exact nU S h3
    ·rw[show(SK gs f).dfl= .lst []by show f.dfl=_;rw[e,U];rfl]at h5 ⊢;obtain⟨b,xs,rfl,hb,b2,b7⟩:=h5;exact⟨b,xs,rfl,by rw[Bb (λz=>h6 b rfl [] (by rw[z];exact hp))];exact hb,b2,b7⟩
    ·exact h6.back (s1.trans y)
   ·have Z:¬V.str f.kind.word=V.str "list":=by
     cases b8:f.kind with
     |list j=>exact wo ⟨j,b8⟩ hl
     |_=>exact NK
    rw[wh Z];exact CY ⟨_,rfl,a,_,rfl,Dn G,_,rfl,a,_,rfl,Fd G,_,rfl,_,rfl,a,_,rfl,EI G,λx dx hx l hne=>N y hx l hne (show V.bl false=V.bl f.must by rw[hm]) c1 (pR L).symm (fin y)⟩
theorem Lf{d c:Type}{R:d->c->Prop}:∀{l:List d} {m:List c},l.length=m.length->(∀(i:Nat) x y,l[i]?=some x->m[i]?=some y->R x y)->Paired R l m
 |[],[],_,_=>.nil
 |x::l,y::m,e,h=>.cons (h 0 x y rfl rfl) (Lf (KF e) λi a b h1 h2=>h (i+1) a b (by simpa using h1) (by simpa using h2))
theorem PF{H:Hp}{D:AE}{o:HO}(h:H D=none):Ly (upd H D o) D=H:=by
 funext b;by_cases hb:b=D
 ·subst hb;rw[KW,h]
 ·rw[HK hb,Bb hb]
theorem Rx{K:AF}{l:AE}{xs:List V}{H1:Hp}{b:L2.St}{g:TG}{te:TE}{Q:VK}(q:H1 l=some (.lst xs))(hz:xs.length<=1000)(Y:Hp->Prop)(A:Y H1)(n:Nat->Hp->V->Prop)(p:∀i H H' v,Sm H H'->n i H v->n i H' v)(hs:∀(j:Nat) x,xs[j]?=some x->∀(D:AE) (ys:List V) (a:Hp) (R:VK),a D=none->Sm H1 a->Y a->(∀y H',Sm a H'->Y H'->H' D=none->n j H' y->R y (upd H' D (.lst ys)))->g x b (upd a D (.lst ys)) λh H2=>Sub b h/\te h H2 R)(hd:∀D H' ys,H' D=none->Sm H1 H'->Y H'->ys.length=xs.length->(∀(i:Nat) y,ys[i]?=some y->n i H' y)->Q (.ref D) (upd H' D (.lst ys))):QJ (qM K l) H1 b g WV te Q:=by
 intro D u;refine⟨λi m ys H=>m=xs.length - i/\i<=xs.length/\ys.length=i/\∃a,a D=none/\H=upd a D (.lst ys)/\Sm H1 a/\Y a/\∀(j:Nat) y,ys[j]?=some y->n j a y,⟨xs.length,by simp,Ci _,rfl,H1,u,rfl,Sm.refl _,A,λj y e=>by simp at e⟩,?_⟩;rintro i m ys H ⟨rfl,hi,c,a,k,rfl,sm,t,hp⟩;have f:upd a D (.lst ys) l=some (.lst xs):=by
  rw[Bb (λz=>by rw[z,u]at q;cases q)];exact sm _ _ q rfl
 refine⟨AC,?_⟩;by_cases d:i<xs.length
 ·have hx:xs[i]?=some (xs[i]'d):=Az d;refine .inr ⟨⟨xs,_,Cj.of f,hx⟩,λx H' y=>?_⟩;obtain⟨e,B⟩:=y;subst e;have o:xs[i]?=some x:=B _ (Cj.of f);refine hs i x o D ys a _ k sm t λy E s4 w C s=>?_;refine⟨AC,DC (by lia),xs.length - (i+1),by lia,rfl,d,by rw[AZ,c];rfl,E,C,by rw[Iv],sm.trans s4,w,λj z r=>?_⟩;rcases NL r with r|⟨rfl,rfl⟩
  ·exact p _ _ _ _ s4 (hp j z r)
  ·rw[c];exact s
 ·have e:i=xs.length:=by lia
  subst e;exact .inl ⟨⟨xs,Cj.of f,by lia⟩,hd D a ys k sm t c hp⟩
def tm(n:Nat)(fs:List SF):Prop:=∀f∈fs,f.kind.ok n/\RA f.nam/\ls f
def GH(gs:List SG)(f:SF):Ex:=.fld (SK gs f)
def iD:Sp:=λvs H Q _=>∃v sv gs g b,vs=[v,sv,.int b]/\(b=0\/b=1)/\SQ H g v/\Nw H gs sv/\CV (gs.map (·.nam))/\RA g.nam/\tm gs.length g.fields/\bA g/\g.fields.length<40/\g.gone.length<40/\Lm H/\∀v H',Sm H H'->Lm H'->Jm H' ⟨g.choice,.str g.nam,some (g.fields.map (GH gs)),g.gone⟩ v->Q v H'
theorem Xc{f:Type}{k:f->Int}{a b:List f}(p:a.Perm b)(ha: (a.map k).Pairwise (·<= ·))(hb: (b.map k).Pairwise (·< ·)):a=b:=by
 have c:=Ed.mp hb;refine List.Perm.eq_of_pairwise (le:=λx y=>k x<=k y) (λx y hx l h1 h2=>?_) (Ed.mp ha) (c.imp λh=>Int.le_of_lt h) p;have d:=p.mem_iff.mp hx;have e:k x=k y:=by lia
 obtain⟨i,hi,rfl⟩:=JK.mp d;obtain⟨j,g,rfl⟩:=JK.mp l;have hp:=Ft.mp c;rcases Nat.lt_trichotomy i j with h|h|h
 ·have:=hp i j hi g h;lia
 ·subst h;rfl
 ·have:=hp j i g hi h;lia
theorem TF{a b:List Int}(p:a.Perm b)(hb:b.Pairwise (·<= ·)):MD a=b:=List.Perm.eq_of_pairwise (le:=(·<= ·)) (λx y _ _ h1 h2=>by lia) (PySem.W.sortI_rises a) hb ((PySem.W.sortI_perm a).trans p)
theorem uQ(gs:List SG)(fs:List SF): (fs.map (GH gs)).map lx=fs.map (·.num):=by
 rw[Bi];rfl
theorem ic(gs:List SG)(fs:List SF):∀e∈fs.map (GH gs),Re e=true:=λe a=>by
 obtain⟨f,_,rfl⟩:=Bg.mp a;rfl
theorem sd: ((Aw:List Bc) ++ (Ap:List Bc)).Nodup:=by decide+kernel
theorem jl{o:Option (List Ex)}{es:List Ex}(h:XO o (some es)):∃a,o=some a/\a.Perm es/\qK es a:=by
 cases o with
 |none=>exact h.elim
 |some a=>exact⟨a,rfl,h⟩
theorem qd(gs:List SG)(fs:List SF):∀e∈fs.map (GH gs),Ex.may e:=λe a=>by
 obtain⟨f,_,rfl⟩:=Bg.mp a;exact db gs f.kind
theorem qB{H:Hp}{es:List Ex}{xs:List V}(h:Es H es xs):Es H es.reverse xs.reverse:=by
 induction h with
 |nil=>exact .nil
 |cons a r b=>
  rw[GR,GR];exact Nb b (.cons a .nil)
theorem jE(T:Tx K mg)(kb:K.In base):HL.Et P w K mg base 8 969 ["_law_form","_law_spec_here","_law_bit"] iD:=by
 have d:=@jF P w K mg base T;have v1:Cv [V.non] [DX]:=.cons rfl .nil;refine(T.df 50 rfl).ok HP (λvs H Q E h=>?_) (λcdv A outer s H vs Q E hr h=>?_)
 ·obtain⟨v,sv,gs,g,b,rfl,_⟩:=h;rfl
 ·obtain⟨v,sv,gs,g,b,rfl,hb,hg,hs,hn,c0,c2,hri,M,O,hL,q⟩:=h;have Pe:FD (4+1) _:=hr.mono Aa;have hu:=hr.units;have l:=BS (BA (show 1<=64 by decide) _) hu;refine⟨_,Bh (LN (i:=3) (ts:=Aw) (xs:=Ap) (js:=[1]) rfl ⟨rfl,rfl,Ab,Ab,CZ rfl⟩ (.cons rfl (.inl rfl) rfl .nil) Ab (CU (BK l (pv 0) AQ (λ_ _=>rfl))) (λC s_ H_ fp=>Cb (X:=Di _ _ _ C s_ H_ fp) (i:=0) sd rfl (Bn rfl) (Cw rfl)) (λC s_ H_ fp=>CT (X:=Di _ _ _ C s_ H_ fp)) (λC s_ H_ fp=>PY (X:=Di _ _ _ C s_ H_ fp) (AW (X:=Di _ _ _ C s_ H_ fp) d (hr.mono Aa) (T.d2 49 rfl λ_ _ _ _ _ _ _ _=>rfl) (Ax (pv 0) (Ax (pv 1) AA))))
     HP.nd rfl (Bn rfl) rfl)
   (Bh (BV (i:=4) HP.nd rfl (Bn rfl) (Ee HX rfl T.Ho FU (Ax (BK l (pv 0) AQ (λ_ _=>rfl)) AA)))
   (Bh (BH (Bp De (pv 2) AH (Bw _)) (AV (BV (i:=3) HP.nd rfl (Bn rfl) (Ee OJ rfl T.SV Qz (Ax (jm (pv 3) (PX Lz AH)) AA))) (AD (BV (i:=4) HP.nd rfl (Bn rfl) (Ee OJ rfl T.SV Qz (Ax (jm (pv 4) (PX Lz AH)) AA)))))
    Bd)
   (AV (BH (Bp De (Bl Cs (by rfl) T.Fy Eg (Ax (pv 4) AA)) AH (Bw _)) (AD (AN (Gb (BI (BK l (pv 0) AQ (λ_ _=>rfl))) (DF ⟨T.Ra,T.Kk,T.Hy,T.QY⟩ (GN T kb (NT T)) Pe rfl T.NI (QC T) v1 CL (Ax (BK l (pv 0) AQ (λ_ _=>rfl)) (Ax (pv 3) AA))) (DF ⟨T.QZ,T.Kj,T.Hy,T.QX⟩ (GN T kb (NS T)) Pe rfl T.NH (QC T) v1 CL (Ax (BK l (pv 0) AQ (λ_ _=>rfl)) (Ax (pv 3) AA))))))
    Bd)
   (AD (AN (Gb (BI (BK l (pv 0) AQ (λ_ _=>rfl))) (DF ⟨T.Ra,T.Kk,T.Hy,T.QY⟩ (GN T kb (NT T)) Pe rfl T.NI (Jk T) .nil CL (Ax (BK l (pv 0) AQ (λ_ _=>rfl)) (Ax (pv 3) (Ax (pv 4) AA)))) (DF ⟨T.QZ,T.Kj,T.Hy,T.QX⟩ (GN T kb (NS T)) Pe rfl T.NH (Jk T) .nil CL (Ax (BK l (pv 0) AQ (λ_ _=>rfl)) (Ax (pv 3) (Ax (pv 4) AA)))))))))),?_⟩
  obtain⟨a,gl,fl,xs,rfl,ha,hgl,S,hp⟩:=hg;obtain⟨nam,choice,gone,fields⟩:=g;have L:fields.length=xs.length:=hp.length;have b7:fields.length<40:=M;have c1:gone.length<40:=O;have b6:=(Gj c0.1).2.1;refine Cq (λk H'=>∃D ys,k=[some (.ref a),some sv,some (.int b),some (.ref D),none]/\Sm H H'/\Lm H'/\H' D=some (.lst ys)/\Es H' (fields.map (GH gs)) ys) ?_ ?_
  ·refine⟨_,rfl,a,_,rfl,Fp ha,fl,rfl,⟨_,Cj.of S⟩,?_⟩;refine Rx S (by lia) Lm hL (λj H' y=>∃f,fields[j]?=some f/\Ms H' (SK gs f) y) (λi H' H2 v s N=>(by obtain⟨f,e,h⟩:=N;exact⟨f,e,XR.sm s (e:=.fld (SK gs f)) h⟩)) (λj x hx D ys Hu R a8 sm hy hR=>?_) (λD H' ys h0 sm hy a4 hP=>?_)
   ·obtain⟨f,hf,a7⟩:=Hz hp j x hx;obtain⟨h1,h2,h3⟩:=c2 f (AY hf);refine⟨Sub.set rfl,D,ys,AC,?_⟩;rw[PF a8];refine⟨_,rfl,_,rfl,x,sv,gs,f,rfl,a7.sm sm,hs.sm sm,hn,h1,h2,h3,λu H' s' a9 h0=>?_⟩;exact hR u H' (Sm.of s') (hy.same s') h0 ⟨f,hf,a9.isF⟩
   ·refine⟨D,ys,rfl,sm.trans (Sm.of (By h0)),hy.same (By h0),AC,?_⟩;refine Lf (by rw[Ay,a4,L]) λi x y hx a5=>?_;obtain⟨f,hf,hF⟩:=hP i y a5;rw[AT,hf]at hx;obtain rfl:GH gs f=x:=Ba hx;exact XR.sm (Sm.of (By h0)) (e:=.fld (SK gs f)) hF
  rintro k H1 ⟨D,ys,rfl,s1,c4,hD,U⟩;have Y:=s1 _ _ ha rfl;refine Cq (λk H'=>∃p,k=[some (.ref a),some sv,some (.int b),some (.ref D),some (.ref p)]/\Be H1 H'/\H' p=some (.lst (gone.map V.int))) ?_ ?_
  ·exact⟨_,rfl,a,_,rfl,Kc Y,gl,_,rfl,.inl (Cj.of (s1 _ _ hgl rfl)),λp b5=>⟨p,rfl,By b5,AC⟩⟩
  rintro k H2 ⟨p,rfl,s2,J⟩;refine Cq (λk H'=>∃(Z G:AE) (o:List V) (es:List Ex) (ns:List Int),k=[some (.ref a),some sv,some (.int b),some (.ref Z),some (.ref G)]/\Be H2 H'/\XN H' Z o/\Es H' es o/\es.Perm (fields.map (GH gs))/\XN H' G (ns.map V.int)/\ns.Perm gone) ?_ ?_
  ·refine⟨_,rfl,rfl,_,rfl,FT (λ_=>?_) (λ_=>⟨D,p,ys,_,gone,rfl,Be.refl _,.inl (s2 _ _ hD),U.sm (Sm.of s2),.refl _,.inl J,.refl _⟩)⟩;refine⟨_,rfl,1,rfl,rfl,D,ys,rfl,Cj.of (s2 _ _ hD),λl1 b9=>⟨l1,_,rfl,.inl ⟨Cj.of AC,λt1 b1=>?_⟩⟩⟩;have u1:=(By (u:=.lst ys.reverse) b9).trans (By (u:=.tup ys.reverse) b1);refine⟨_,rfl,1,rfl,rfl,p,_,rfl,Cj.of (u1 _ _ J),λl2 b8=>⟨l2,_,rfl,.inl ⟨Cj.of AC,λt2 b0=>?_⟩⟩⟩;have u2:=(By (u:=.lst (gone.map V.int).reverse) b8).trans (By (u:=.tup (gone.map V.int).reverse) b0);refine⟨t1,t2,ys.reverse,(fields.map (GH gs)).reverse,gone.reverse,rfl,u1.trans u2,.inr (u2 _ _ AC),qB (U.sm (Sm.of ((s2.trans u1).trans u2))),List.reverse_perm _,.inr ?_,List.reverse_perm _⟩;rw[AC,List.map_reverse]
  rintro k H3 ⟨Z,G,o,es,ns,rfl,s3,c6,B,r,F,I⟩;have n:=s3 _ _ (s2 _ _ Y);have z:=(c4.same s2).same s3;have d9:es.length=fields.length:=by rw[r.length_eq,Ay]
  have c9:ns.length=gone.length:=I.length_eq;have t:dM H3 (some es) (.ref Z):=⟨Z,o,rfl,c6,B,λe he=>qd gs fields e (r.mem_iff.mp he),by rw[<-B.length];lia⟩;have hnm:Th H3 (.str nam) (.str nam):=⟨rfl,AJ b6 Aa⟩;have fin:∀v o' H',Sm H3 H'->Lm H'->XO o' (some es)->Jm H' ⟨choice,.str nam,o',MD ns⟩ v->Q v H':=λv o' H' s' c5 b4 hG=>by
   obtain⟨c7,rfl,pe,b2⟩:=jl b4;have e1:c7=fields.map (GH gs):=Xc (pe.trans r) (b2 λe he=>ic gs fields e (r.mem_iff.mp he)) (by rw[uQ];exact hri.fs);have e2:MD ns=gone:=TF I hri.gone;rw[e1,e2]at hG;exact q v H' (((s1.trans (Sm.of s2)).trans (Sm.of s3)).trans s') c5 hG
  refine⟨_,rfl,G,_,rfl,F.sq,rfl,_,rfl,FT (λh0=>?_) (λ_=>?_)⟩
  ·have e0:ns=[]:=by
    have:=V.int.inj (wj h0);rw[Ay]at this;exact XZ (by lia)
   refine⟨_,rfl,a,_,rfl,Hc n,_,rfl,?_⟩;cases choice with
   |true=>
    refine CY ⟨_,rfl,a,_,rfl,Eo n,_,rfl,λx dx hx m hne=>?_⟩;exact Jo (c:=true) hx m hne hnm t (.inl ⟨rfl,e0⟩) z fin
   |false=>
    refine Ch ⟨_,rfl,a,_,rfl,Eo n,_,rfl,λx dx hx m hne=>?_⟩;exact Jo (c:=false) hx m hne hnm t (.inl ⟨rfl,e0⟩) z fin
  ·refine⟨_,rfl,a,_,rfl,Hc n,_,rfl,?_⟩;cases choice with
   |true=>
    refine CY ⟨_,rfl,a,_,rfl,Eo n,_,rfl,_,rfl,λx dx hx m hne=>?_⟩;exact Jo (c:=true) hx m hne hnm t (.inr ⟨G,rfl,F,by lia⟩) z fin
   |false=>
    refine Ch ⟨_,rfl,a,_,rfl,Eo n,_,rfl,_,rfl,λx dx hx m hne=>?_⟩;exact Jo (c:=false) hx m hne hnm t (.inr ⟨G,rfl,F,by lia⟩) z fin
theorem kR: (BJ " ")=⟨#[32]⟩:=by decide+kernel
def Qr:List (List Nat)->List Nat
 |[]=>[]
 |[x]=>x
 |x::y::r=>x++32::Qr (y::r)
theorem TJ:∀ys:List Bc,sg (Ec ⟨#[32]⟩ ys)=Qr (ys.map sg)
 |[]=>rfl
 |[x]=>rfl
 |x::y::r=>by
  show sg (x++ ⟨#[32]⟩ ++Ec ⟨#[32]⟩ (y::r))=sg x++32::Qr ((y::r).map sg);rw[MX,MX,TJ (y::r),FH];rfl
theorem kY{c:Nat}:∀{x y a b:List Nat},c∉x->c∉y->x++c::a=y++c::b->x=y/\a=b
 |[],[],_,_,_,_,e=>⟨rfl,(FK e).2⟩
 |[],z::y,_,_,_,d,e=>wo (AU.mpr (.inl (FK e).1)) d
 |z::x,[],_,_,hx,_,e=>wo (AU.mpr (.inl (FK e).1.symm)) hx
 |z::x,u::y,_,_,hx,d,e=>by
  obtain⟨h1,h2⟩:=kY (λz=>hx (BG _ z)) (λz=>d (BG _ z)) (FK e).2;exact⟨by rw[(FK e).1,h1],h2⟩
theorem aU:∀{xs ys:List (List Nat)},xs≠[]->ys≠[]->(∀x∈xs,32∉x)->(∀y∈ys,32∉y)->Qr xs=Qr ys->xs=ys
 |[],_,h,_,_,_,_=>wo rfl h
 |_,[],_,h,_,_,_=>wo rfl h
 |[x],[y],_,_,_,_,e=>by rw[show x=y from e]
 |[x],y::z::r,_,_,hx,_,e=>wo (by rw[show x=y++32::Qr (z::r)from e];simp) (hx x (BQ ..))
 |x::z::r,[y],_,_,_,a,e=>wo (by rw[show y=x++32::Qr (z::r)from e.symm];simp) (a y (BQ ..))
 |x::u::r,y::v::t,_,_,hx,a,e=>by
  obtain⟨h1,h2⟩:=kY (hx x (BQ ..)) (a y (BQ ..)) (show x++32::Qr (u::r)=y++32::Qr (v::t)from e);rw[h1,aU (xs:=u::r) (ys:=v::t) (λz=>by cases z) (λz=>by cases z) (λz h=>hx z (BG _ h)) (λz h=>a z (BG _ h)) h2]
theorem Ux:∀{xs ys:List Bc},xs.map sg=ys.map sg->xs=ys
 |[],[],_=>rfl
 |[],_::_,e=>by cases e
 |_::_,[],e=>by cases e
 |x::xs,y::ys,e=>by
  rw[Bf,Bf]at e;rw[bW (FK e).1,Ux (FK e).2]
theorem bX{ys:List Bc}(h0:ys≠[])(hb:∀y∈ys,32∉sg y):Txt.split (Ec ⟨#[32]⟩ ys) ⟨#[32]⟩=ys:=by
 refine Ux (aU ?_ (λz=>h0 (HH.mp z)) (λx hx=>?_) (λy a=>?_) ?_)
 ·intro z;have:=PyProof.Rows.split_pos (Ec ⟨#[32]⟩ ys) ⟨#[32]⟩;rw[HH.mp z]at this;cases this
 ·obtain⟨y,a,rfl⟩:=Bg.mp hx;exact StrLaws.split_free _ _ y a
 ·obtain⟨x,hx,rfl⟩:=Bg.mp a;exact hb x hx
 ·rw[<-TJ,<-TJ,StrLaws.join_split]
open PyProof.Rows PySem.NumText
def tq:Bc:="0123456789"
theorem kq:tq.cps.toList=[48,49,50,51,52,53,54,55,56,57]:=by decide+kernel
theorem ff(c:Nat):ka tq c=decide (48<=c/\c<=57):=by
 unfold ka;rw[StrLaws.found_one,kq,decide_eq_decide];constructor
 ·intro h;exact(by decide:∀d∈ [48,49,50,51,52,53,54,55,56,57],48<=d/\d<=57) c h
 ·intro h;exact(by decide:∀d,d<58->48<=d->d∈ [48,49,50,51,52,53,54,55,56,57]) c (Nat.lt_succ_of_le h.2) h.1
theorem LH(z:Bc)(c:Nat):Txt.startswith z ⟨#[c]⟩=decide ((sg z).head?=some c):=by
 obtain⟨⟨l⟩⟩:=z;cases l with
 |nil=>rfl
 |cons d r=>
  show(decide (0+1<= (d::r).length) && ((d::r).toArray.extract 0 (0+1)==#[c]))=decide (some d=some c);rw[show(d::r).toArray.extract 0 (0+1)=#[d]by simp];simp;by_cases h:d=c <;> simp[h]
theorem ZO(z:Bc):sg (Dx z (some 1) none)=(sg z).drop 1:=by
 by_cases h:z.length=0
 ·have e:=RH z (some 1) none;have c: (sg (Dx z (some 1) none)).length=0:=by rw[Gy];lia
  have a: (sg z).length=0:=by rw[Gy];exact h
  rw[NF.mp c,NF.mp a];rfl
 ·have e:=eq_of_beq (slice_closes_fromL (x:=z) (i:=1) (b:=(z.length:Int)) Aa (by lia) rfl);rw[e];show((z.cps.toList.drop 1).take ((z.length:Int) - 1).toNat)=(sg z).drop 1;apply IM;rw[DR,Gy]
  lia
def OH(l:List Nat):Bool:=decide (l.head?=some 45)
def Gd(l:List Nat):List Nat:=if OH l=true then l.drop 1 else l
def SM(l:List Nat):Bool:=decide (1<=l.length) &&decide (l.length<=80) &&l.all (ka tq)
def Sl(l:List Nat):Bool:=SM (Gd l) && !(decide ((Gd l).head?=some 48) && !decide (l=[48]))
def bN(l:List Nat):Int:=if OH l=true then -((digitsVal (Gd l):Nat):Int)else ((digitsVal (Gd l):Nat):Int)
def Ks(z:Bc):V:=if Sl (sg z)=true then .int (bN (sg z))else .non
theorem aZ{l:List Nat}(h:SM l=true):AllDigits l/\l≠[]/\l.length<=80:=by
 unfold SM at h;rw[AI,AI,BM]at h;obtain⟨⟨h1,h2⟩,h3⟩:=h;refine⟨λc hc=>?_,λe=>?_,wj h2⟩
 ·have:=h3 c hc;rw[ff]at this;exact wj this
 ·rw[e]at h1;exact wo (wj h1) Aa
theorem nF{l:List Nat}(h:AllDigits l)(h1:l≠[])(h2:l.length<=80):SM l=true:=by
 unfold SM;rw[AI,AI,BM];refine⟨⟨wg ?_,wg h2⟩,λc hc=>?_⟩
 ·cases l with
  |nil=>exact wo rfl h1
  |cons c r=>simp
 ·rw[ff];exact wg (h c hc)
theorem Xk{l:List Nat}(h:OH l=true):l=45::l.drop 1:=by
 unfold OH at h;have:=wj h;cases l with
 |nil=>cases this
 |cons c r=>
  cases this;rfl
theorem jX{z:Bc}(h:SM (Gd (sg z))=true):PySem.intText? z=some (bN (sg z))/\z.length<=640:=by
 obtain⟨h1,h2,h3⟩:=aZ h;have b:=Gy z;unfold bN;by_cases hn:OH (sg z)=true
 ·rw[wm hn];have e:=Xk hn;have a:Gd (sg z)=(sg z).drop 1:=by unfold Gd;rw[wm hn]
  rw[a]at h1 h2 h3 ⊢;have hz:z.length<=640:=by
   rw[DR]at h3
   lia
  exact⟨intText_neg e h1 h2 (by lia),hz⟩
 ·rw[wk hn];have a:Gd (sg z)=sg z:=by unfold Gd;rw[wk hn]
  rw[a]at h1 h2 h3 ⊢;exact⟨intText_digits h1 h2 (by lia),by lia⟩
def Ie(n:Nat):List Nat:=if n<10 then [48+n]else (48+n%10)::Ie (n/10)
theorem Jz{n:Nat}(h:n<10):Ie n=[48+n]:=by rw[Ie,wm h]
theorem PR{n:Nat}(h:¬n<10):Ie n=(48+n%10)::Ie (n/10):=by rw[Ie,wk h]
theorem UL:∀d:Nat,d<10->(Nat.digitChar d).toNat=48+d:=by decide
theorem Na(n:Nat): (Ve 10 n).map Char.toNat=(Ie n).reverse:=by
 induction n using Nat.strongRecOn with
 |_ m a=>
  by_cases h:m<10
  ·rw[Nat.toDigits_of_lt_base h,Jz h];show [(Nat.digitChar m).toNat]=[48+m];rw[UL m h]
  ·have hm:m%10<10:=Nat.mod_lt m Aa;have t:Ve 10 (m/10) ++Ve 10 (m%10)=Ve 10 (10* (m/10) +m%10):=Nat.toDigits_append_toDigits Aa (by lia) hm;rw[Nat.div_add_mod]at t;rw[<-t,Ck,Nat.toDigits_of_lt_base hm,PR h,GR,a (m/10) (by lia)];show _++[(Nat.digitChar (m%10)).toNat]=_;rw[UL _ hm]
theorem rE(t:String):sg (BJ t)=t.toList.map Char.toNat:=signs_ofString t
theorem cz(n:Int):sg (BJ (toString n))=(if n<0 then [45]else []) ++ (Ie n.natAbs).reverse:=by
 rw[<-Na];by_cases h:n<0
 ·rw[wm h];obtain⟨m,rfl⟩:∃m:Nat,n= -((m+1:Nat):Int):=⟨n.natAbs - 1,by lia⟩;rw[rE];show(("-" ++Nat.repr (m+1):String)).toList.map Char.toNat=_;rw[String.toList_append,Ck,Nat.toList_repr];show [45] ++_=_;rw[show(-((m+1:Nat):Int)).natAbs=m+1 by lia]
 ·rw[wk h];obtain⟨m,rfl⟩:=Int.eq_ofNat_of_zero_le (by lia:0<=n);exact PySem.W.KIN.signs_num m
theorem ac(n:Nat):AllDigits (Ie n):=by
 induction n using Nat.strongRecOn with
 |_ m a=>
  intro c hc;by_cases h:m<10
  ·rw[Jz h]at hc;have:=AM.mp hc
   lia
  ·rw[PR h]at hc;rcases AU.mp hc with e|hc
   ·lia
   ·exact a (m/10) (by lia) c hc
theorem YG(n:Nat):Ie n≠[]:=by
 by_cases h:n<10
 ·rw[Jz h];simp
 ·rw[PR h];simp
theorem aa{n:Nat}(h:n<10 ^ 80): (Ie n).length<=80:=by
 have e:=wn QQ (Na n);rw[Ay,Kg]at e;rw[<-e];exact digits10_le Aa h
theorem Xb(n:Nat): (Ie n).reverse.head?=some 48->n=0:=by
 induction n using Nat.strongRecOn with
 |_ m d=>
  intro a;by_cases h:m<10
  ·rw[Jz h]at a;have:48+m=48:=by simpa using a
   lia
  ·rw[PR h,GR]at a;cases b: (Ie (m/10)).reverse with
   |nil=>exact wo (NE.mp b) (YG _)
   |cons c r=>
    rw[b]at a;have:=d (m/10) (by lia) (by rw[b];exact a)
    lia
theorem jI{n:Int}(h:n.natAbs<10 ^ 80):Ks (BJ (toString n))= .int n:=by
 have hd:AllDigits (Ie n.natAbs).reverse:=(ac _).reverse;have hne: (Ie n.natAbs).reverse≠[]:=λe=>YG _ (NE.mp e);have a: (Ie n.natAbs).reverse.length<=80:=by rw[Kg];exact aa h
 have d:digitsVal (Ie n.natAbs).reverse=n.natAbs:=by rw[<-Na];exact PySem.W.KIN.val_back _
 have hb:=nF hd hne a;unfold Ks;rw[cz];by_cases hn:n<0
 ·rw[wm hn];have c:OH ([45] ++ (Ie n.natAbs).reverse)=true:=by unfold OH;simp
  have b:Gd ([45] ++ (Ie n.natAbs).reverse)=(Ie n.natAbs).reverse:=by unfold Gd;rw[wm c];rfl
  have g:Sl ([45] ++ (Ie n.natAbs).reverse)=true:=by
   unfold Sl;rw[b,hb,CN,MA];rw[wh (λz=>by have:=Xb _ z;lia),Cu]
  rw[wm g];unfold bN;rw[wm c,b,d];congr 1
  lia
 ·rw[wk hn,OT];have c:¬OH (Ie n.natAbs).reverse=true:=λz=>by
   have e:=Xk z;have:=hd 45 (by rw[e];exact BQ ..)
   lia
  have b:Gd (Ie n.natAbs).reverse=(Ie n.natAbs).reverse:=by unfold Gd;rw[wk c]
  have g:Sl (Ie n.natAbs).reverse=true:=by
   unfold Sl;rw[b,hb,CN,MA];by_cases hz: (Ie n.natAbs).reverse.head?=some 48
   ·have h0:=Xb _ hz;rw[h0,Jz Aa];decide
   ·rw[wh hz,Cu]
  rw[wm g];unfold bN;rw[wk c,b,d];congr 1
  lia
theorem Ef{K:AF}{H:Hp}:∀ys:List Bc,Mt K H (ys.map V.str) (ys.map Gq)
 |[]=>.nil
 |n::r=>.cons (.str n) (Ef r)
theorem UA:∀(ys:List Bc),(∀y∈ys,CB y=true)->OR (ys.map Gq)=true
 |[],_=>rfl
 |y::r,h=>by
  rw[Bf,OR,AI];exact⟨h y (BQ ..),UA r λz hz=>h z (BG _ hz)⟩
theorem UN:∀(ys:List Bc),PyData.depthAll (ys.map Gq)<=1
 |[]=>by decide
 |y::r=>by
  rw[Bf,PyData.depthAll];have:=UN r;simp only[PyData.depth]
  lia
theorem En{ys:List Bc}(h:∀y∈ys,CB y=true):Gg (.list (ys.map Gq))=true:=by
 unfold Gg;rw[AI];refine⟨UA ys h,wg ?_⟩;have:=UN ys;simp only[PyData.depth]
 lia
theorem Qt{ys:List Bc}(h:∀y∈ys,CB y=true):KE (.list (ys.map Gq)) (.list (ys.map Gq))=true:=SeqAt.eqv_refl _ (UA ys h)
theorem Ys{z:Bc}:CB z=true ↔ ∀c∈z.cps.toList,c<0x110000:=by
 unfold CB;rw[Array.all_eq_true_iff_forall_mem];exact⟨λh c hc=>wj (h c (QU.mp hc)),λh c hc=>wg (h c (QU.mpr hc))⟩
theorem SZ{x y:Bc}(hx:CB x=true)(a:CB y=true):CB (x++y)=true:=by
 rw[Ys]at hx a ⊢;intro c hc;rw[show(x++y).cps.toList=x.cps.toList++y.cps.toList from Ki]at hc;rcases BZ.mp hc with h|h
 ·exact hx c h
 ·exact a c h
theorem Do(s:String):CB (BJ s)=true:=by
 rw[Str.ofString_eq_toList,Ys];intro c hc;obtain⟨d,_,rfl⟩:=Bg.mp hc;have h:=d.valid;rcases h with h|h
 ·exact IL h Aa
 ·exact h.2
theorem lg{c:Nat}(h:ka Zp c=true):97<=c/\c<=122:=by
 unfold ka at h;rw[StrLaws.found_one,lb]at h;exact(by decide:∀d∈ [97,98,99,100,101,102,103,104,105,106,107,108,109,110,111,112,113,114,115,116,117,118,119,120,121,122],97<=d/\d<=122) c (wj h)
theorem eR{z:Bc}(h:Fa z=true):∀c∈sg z,97<=c/\c<=122:=λc hc=>lg (BM.mp (Gj h).2.2 c hc)
theorem KZ{z:Bc}(h:Fa z=true):CB z=true:=by
 rw[Ys];intro c hc;have:=eR h c hc
 lia
theorem Xa:∀l:List Bc,(∀a∈l,CB a=true)->CB (Eb (BJ " ") l)=true:=by
 intro l h;show CB (Builtin.Str.glued (BJ " ") l)=true;rw[StrLaws.glued_eq_join];have e:CB (BJ " ")=true:=by decide+kernel
 induction l with
 |nil=>decide+kernel
 |cons a r c=>
  cases r with
  |nil=>exact h a (BQ ..)
  |cons b r=>exact SZ (SZ (h a (BQ ..)) e) (c λx hx=>h x (BG _ hx))
theorem kx:∀(xs ys:List Bc),PyData.eqvAll (xs.map Gq) (ys.map Gq)=decide (xs=ys)
 |[],[]=>rfl
 |[],_::_=>rfl
 |_::_,[]=>rfl
 |x::xs,y::ys=>by
  rw[Bf,Bf];show(KE (.str x) (.str y) &&PyData.eqvAll (xs.map Gq) (ys.map Gq))=_;rw[kx xs ys];show((x==y) &&decide (xs=ys))=_;rw[GI,AI,beq_iff_eq,decide_eq_true_iff,decide_eq_true_iff,List.cons.injEq]
theorem ky(xs ys:List Bc):KE (.list (xs.map Gq)) (.list (ys.map Gq))=decide (xs=ys):=kx xs ys
def toS(i:Int):Bc:=BJ (toString i)
def Cy:Kx->List Bc
 |.truth=>["truth"]
 |.count=>["count"]
 |.whole=>["whole"]
 |.upto (.int n)=>["upto",toS n]
 |.text (.int n)=>if n=100 then ["text"]else ["text",toS n]
 |.form (.str z)=>["form",z]
 |.list k=>"list" ::Cy k
 |_=>[]
def Kx.good:Kx->Prop
 |.upto d=>∃n,d= .int n/\1<=n/\n<2 ^ 256
 |.text d=>∃n,d= .int n/\1<=n/\n<=100
 |.form d=>∃z,d= .str z/\Fa z=true
 |.list k=>k.flat=true/\k.good
 |.bare=>False
 |.thing _=>False
 |_=>True
theorem Kx.good.fine:∀{k:Kx},k.good->k.fine:=by
 intro k;induction k with
 |upto d=>exact λg=>(by obtain⟨n,e,_⟩:=g;exact⟨n,e⟩)
 |text d=>exact λf=>(by obtain⟨n,e,_⟩:=f;exact⟨n,e⟩)
 |list k i=>exact λc=>(by obtain⟨a,b⟩:=c;exact⟨a,i b⟩)
 |form d=>exact λ_=>trivial
 |_=>exact λh=>h
theorem Li{i:Int}(h0:i.natAbs<2 ^ 256):i.natAbs.log2<1920:=by
 by_cases h:i.natAbs=0
 ·rw[h];decide
 ·exact BP ((Nat.log2_lt h).mpr h0) Aa
def TC:Sp:=λvs H Q _=>∃i:Int,vs=[.int i]/\i.natAbs<2 ^ 256/\Q (.str (toS i)) H
theorem GE(T:Tx K mg):HL.Et P w K mg base 1 106 Ad TC:=by
 refine(T.df 4 rfl).ok TN (λvs H Q E h=>?_) (λcdv A outer s H vs Q E a h=>?_)
 ·obtain⟨i,rfl,_⟩:=h;rfl
 ·obtain⟨i,rfl,h0,q⟩:=h;refine⟨_,AD (AN (Ee HW rfl T.KM Iq (Ax (pv 0) AA))),?_⟩;exact⟨_,rfl,i,rfl,Li h0,q⟩
theorem mE(T:Tx K mg){k:Kx}(b:k= .truth\/k= .count\/k= .whole):HF P w K mg base 1 "word" k.cls (Vm (.str ((Cy k).getD 0 ""))):=by
 rcases b with rfl|rfl|rfl
 ·refine⟨T.MR,_,_,_,(T.me 5 3 rfl rfl),(T.mf 3 rfl).ok VR (λvs H Q E h=>?_) (λcdv A outer s H vs Q E a h=>?_),(HL.b1 (T.mf 3 rfl) λ_ _ _ _ _ _ _=>rfl)⟩
  ·obtain⟨v,rfl,_⟩:=h;rfl
  ·obtain⟨v,rfl,q⟩:=h;exact⟨_,AD (AN AQ),q⟩
 ·refine⟨T.MS,_,_,_,(T.me 10 6 rfl rfl),(T.mf 6 rfl).ok Wf (λvs H Q E h=>?_) (λcdv A outer s H vs Q E a h=>?_),(HL.b1 (T.mf 6 rfl) λ_ _ _ _ _ _ _=>rfl)⟩
  ·obtain⟨v,rfl,_⟩:=h;rfl
  ·obtain⟨v,rfl,q⟩:=h;exact⟨_,AD (AN AQ),q⟩
 ·refine⟨T.MQ,_,_,_,(T.me 15 9 rfl rfl),(T.mf 9 rfl).ok VN (λvs H Q E h=>?_) (λcdv A outer s H vs Q E a h=>?_),(HL.b1 (T.mf 9 rfl) λ_ _ _ _ _ _ _=>rfl)⟩
  ·obtain⟨v,rfl,_⟩:=h;rfl
  ·obtain⟨v,rfl,q⟩:=h;exact⟨_,AD (AN AQ),q⟩
def LJ(k:Kx):Sp:=λvs H Q _=>∃v,vs=[v]/\Of H k v/\Yk H Q ((Cy k).map V.str)
theorem Kr(T:Tx K mg){k:Kx}(b:k= .truth\/k= .count\/k= .whole):HL.Et P w K mg base 2 162 Aq (LJ k):=by
 refine(T.mf 0 rfl).ok VZ (λvs H Q E h=>?_) (λcdv A outer s H vs Q E e h=>?_)
 ·obtain⟨v,rfl,_⟩:=h;rfl
 ·obtain⟨v,rfl,d,q⟩:=h;refine⟨_,AD (AN (CP (Ax (DS (k:=1) rfl rfl rfl rfl rfl (pv 0) (e.mono Aa) CL) AA))),?_⟩;obtain⟨a,dx,fs,rfl,ha,hf⟩:=d.ins (by rcases b with rfl|rfl|rfl <;> rfl);refine⟨_,rfl,a,_,dx,fs,_,rfl,ha,hf _ Aa Aa Aa,mE T b,_,rfl,zl 1,λl c=>?_⟩;refine q l _ c (By c) ?_;rcases b with rfl|rfl|rfl <;> exact AC
theorem Wu(T:Tx K mg){n:Int}(hn: (Kx.upto (.int n)).good):HL.Et P w K mg base 2 338 Aq (LJ (.upto (.int n))):=by
 have G:=@GE P w K mg base T;obtain⟨_,e,h1,h2⟩:=hn;cases e;refine(T.mf 13 rfl).ok VO (λvs H Q E h=>?_) (λcdv A outer s H vs Q E c h=>?_)
 ·obtain⟨v,rfl,_⟩:=h;rfl
 ·obtain⟨v,rfl,⟨a,dx,u,rfl,ha,rfl⟩,q⟩:=h;refine⟨_,AD (AN (CP (Ax AQ (Ax (AW G (c.mono Aa) T.Gv (Ax (BF (pv 0) rfl) AA)) AA)))),?_⟩;refine⟨_,rfl,a,_,dx,_,_,rfl,ha,T.JY,T.JU,rfl,n,rfl,by lia,zl 2,λl b=>?_⟩;exact q l _ b (By b) AC
theorem SH(T:Tx K mg){z:Bc}:HL.Et P w K mg base 2 504 Aq (LJ (.form (.str z))):=by
 refine(T.mf 25 rfl).ok SC (λvs H Q E h=>?_) (λcdv A outer s H vs Q E c h=>?_)
 ·obtain⟨v,rfl,_⟩:=h;rfl
 ·obtain⟨v,rfl,⟨a,dx,u,rfl,ha,⟨rfl,_⟩⟩,q⟩:=h;refine⟨_,AD (AN (CP (Ax AQ (Ax (BF (pv 0) rfl) AA)))),?_⟩;refine⟨_,rfl,a,_,dx,_,_,rfl,ha,T.GL,T.GX,rfl,zl 2,λl b=>?_⟩;exact q l _ b (By b) AC
theorem Wx(T:Tx K mg){n:Int}(hn: (Kx.text (.int n)).good):HL.Et P w K mg base 2 393 Aq (LJ (.text (.int n))):=by
 have G:=@GE P w K mg base T;obtain⟨t,d⟩:=T.Po;obtain⟨_,e,h1,h2⟩:=hn;cases e;refine(T.mf 16 rfl).ok VS (λvs H Q E h=>?_) (λcdv A outer s H vs Q E c h=>?_)
 ·obtain⟨v,rfl,_⟩:=h;rfl
 ·obtain⟨v,rfl,⟨a,dx,u,rfl,ha,rfl⟩,q⟩:=h;refine⟨_,AV (BH (Bp De (BF (pv 0) rfl) (af d) (Bw _)) (AD (AN (CP (Ax AQ AA)))) Bd) (AD (AN (CP (Ax AQ (Ax (AW G (c.mono Aa) T.Gv (Ax (BF (pv 0) rfl) AA)) AA))))),?_⟩;refine⟨_,rfl,a,_,dx,_,_,rfl,ha,T.Jf,T.IB,rfl,rfl,_,rfl,FT (λh=>?_) (λh=>?_)⟩
  ·have e:n=100:=V.int.inj (wj h);refine⟨zl 1,λl b=>q l _ b (By b) ?_⟩;rw[AC];unfold Cy;rw[wm e];rfl
  ·have e:¬n=100:=λz=>h (wg (wn V.int z));refine⟨_,rfl,a,_,dx,_,_,rfl,ha,T.Jf,T.IB,rfl,n,rfl,by lia,zl 2,λl b=>q l _ b (By b) ?_⟩;rw[AC];unfold Cy;rw[wk e];rfl
theorem fH(T:Tx K mg){k:Kx}(hf:k.flat=true)(a:k.good):HF P w K mg base 2 "words" k.cls (LJ k):=by
 cases k with
 |truth=>exact⟨T.MR,_,_,_,(T.me 1 0 rfl rfl),Kr T (.inl rfl),T.Lx⟩
 |count=>exact⟨T.MS,_,_,_,(T.me 6 0 rfl rfl),Kr T (.inr (.inl rfl)),T.Lx⟩
 |whole=>exact⟨T.MQ,_,_,_,(T.me 11 0 rfl rfl),Kr T (.inr (.inr rfl)),T.Lx⟩
 |upto n=>obtain⟨n,rfl,h⟩:=a;exact⟨T.JY,_,_,_,(T.me 17 13 rfl rfl),Wu T ⟨n,rfl,h⟩,(HL.b1 (T.mf 13 rfl) λ_ _ _ _ _ _ _=>rfl)⟩
 |text n=>obtain⟨n,rfl,h⟩:=a;exact⟨T.Jf,_,_,_,(T.me 22 16 rfl rfl),Wx T ⟨n,rfl,h⟩,(HL.b1 (T.mf 16 rfl) λ_ _ _ _ _ _ _=>rfl)⟩
 |form z=>obtain⟨z,rfl,h⟩:=a;exact⟨T.GL,_,_,_,(T.me 32 25 rfl rfl),SH T,(HL.b1 (T.mf 25 rfl) λ_ _ _ _ _ _ _=>rfl)⟩
 |list k=>cases hf
 |bare=>exact a.elim
 |thing d=>exact a.elim
theorem WR:∀{k:Kx},k.flat=true->(Cy k).length<=2:=by
 intro k h;unfold Cy;split <;> first|exact AX 2|exact Da 1|exact Ci 2|cases h|skip
 split <;> first|exact AX 2|exact Da 1
theorem WA(T:Tx K mg){k:Kx}(hf:k.flat=true)(e:k.good):HL.Et P w K mg base 3 445 Aq (LJ (.list k)):=by
 refine(T.mf 20 rfl).ok VW (λvs H Q E h=>?_) (λcdv A outer s H vs Q E f h=>?_)
 ·obtain⟨v,rfl,_⟩:=h;rfl
 ·obtain⟨v,rfl,⟨a,dx,u,rfl,ha,d⟩,q⟩:=h;refine⟨_,AD (AN (Bz Nc (CP (Ax AQ AA)) (DS (k:=2) rfl rfl rfl rfl rfl (BF (pv 0) rfl) (f.mono Aa) CL))),?_⟩;refine⟨zl 1,λl g=>?_⟩;have s1:Be H (upd H l (.lst [.str "list"])):=By g;obtain⟨b,j,fs,rfl,hb,c⟩:=(d.sm (Sm.of s1)).ins e.fine.isK;refine⟨_,rfl,a,_,dx,_,_,rfl,s1 _ _ ha,T.JZ,T.JV,rfl,b,_,j,fs,_,rfl,hb,c _ Aa Aa Aa,fH T hf e,_,rfl,d.sm (Sm.of s1),λl2 H2 h2 s2 i=>?_⟩;refine⟨l,l2,_,_,rfl,rfl,s2 _ _ AC,i,?_,λp hp=>?_⟩
  ·rw[Ay];exact AJ (BA (WR hf) 1) Aa
  ·exact q p _ (s1.free (s2.free hp)) ((s1.trans s2).trans (By hp)) AC
theorem kG(T:Tx K mg){k:Kx}(a:k.good):HF P w K mg base 3 "words" k.cls (LJ k):=by
 by_cases hf:k.flat=true
 ·exact HF.mono (fH T hf a) Aa
 ·cases k with
  |list k=>exact⟨T.JZ,_,_,_,(T.me 27 20 rfl rfl),WA T a.1 a.2,(HL.b1 (T.mf 20 rfl) λ_ _ _ _ _ _ _=>rfl)⟩
  |_=>exact wo rfl hf
def Kv:Dt->Bc
 |.bl b=>if b then "yes" else "no"
 |.str z=>z
 |.int i=>toS i
 |_=>""
def qO(d:Dt):Prop:=(∃b,d= .bl b)\/(∃z,d= .str z/\Fa z=true)\/∃i,d= .int i/\i.natAbs<2 ^ 256
def lr:Kx->Dt->Prop
 |.truth,d=>d= .bl true
 |.text _,d=>∃z,d= .str z/\Fa z=true
 |.count,d=>∃i,d= .int i/\i.natAbs<2 ^ 256
 |.whole,d=>∃i,d= .int i/\i.natAbs<2 ^ 256
 |.upto _,d=>∃i,d= .int i/\i.natAbs<2 ^ 256
 |_,_=>False
theorem lr.dw{k:Kx}{d:Dt}(h:lr k d):qO d:=by
 cases k with
 |truth=>exact .inl ⟨_,h⟩
 |text n=>exact .inr (.inl h)
 |count=>exact .inr (.inr h)
 |whole=>exact .inr (.inr h)
 |upto n=>exact .inr (.inr h)
 |_=>exact h.elim
theorem UR{k:Kx}(h:k.good):EO k (GT k)=true:=by
 cases k with
 |truth=>rfl
 |count=>decide+kernel
 |whole=>decide+kernel
 |upto d=>
  obtain⟨n,rfl,h1,_⟩:=h;show(decide ((0:Int)<=0) &&decide ((0:Int)<=n)) &&true=true;rw[wg (show(0:Int)<=n by lia)];rfl
 |text d=>
  obtain⟨n,rfl,h1,_⟩:=h;show(!decide (((BJ "").length:Int) >n) && (BJ "").cps.toList.all Kl) &&decide ((BJ "")="")=true;rw[wh (show ¬ ((BJ "").length:Int) >n by rw[show(BJ "").length=0 by decide+kernel];lia)];rfl
 |form d=>rfl
 |list k=>rfl
 |bare=>exact h.elim
 |thing d=>exact h.elim
structure Pf where
 num:Int
 nam:Bc
 kind:Kx
 must:Bool
 dfl:Dt
def Pf.fx(p:Pf):Fx:=⟨.int p.num,.str p.nam,p.kind,.bl p.must,p.dfl⟩
structure Pf.Ok(p:Pf):Prop where
 num:1<=p.num/\p.num<=200
 nam:Fa p.nam=true
 kind:p.kind.good
 dfl:p.dfl=GT p.kind\/(p.must=false/\EO p.kind p.dfl=false/\lr p.kind p.dfl)
theorem Pf.Ok.dw{p:Pf}(h:p.Ok)(hb:EO p.kind p.dfl=false):p.must=false/\lr p.kind p.dfl:=by
 rcases h.dfl with e|⟨a,_,b⟩
 ·rw[e,UR h.kind]at hb;cases hb
 ·exact⟨a,b⟩
def Fs(p:Pf):List Bc:=if p.must=true then ["must"]else if EO p.kind p.dfl=true then []else ["=",Kv p.dfl]
def Ko(p:Pf):List Bc:=[toS p.num,p.nam] ++Cy p.kind++Fs p
def IH(p:Pf):Bc:=Eb " " (Ko p)
theorem OY{i:Int}(h:i.natAbs<2 ^ 256): (toS i).length<=100:=by
 have a:=aa (n:=i.natAbs) (IL h Aa);rw[<-Gy,show sg (toS i)=_ from cz i,AZ,Kg];split
 ·show 1+_<=100;lia
 ·show 0+_<=100;lia
theorem DP{z:Bc}(h:Fa z=true):z.length<=12:=(Gj h).2.1
theorem KU{k:Kx}(c:k.good): (Cy k).length<=3/\∀y∈Cy k,y.length<=100:=by
 induction k with
 |truth=>exact⟨Aa,λy b=>by rw[AM.mp b];decide+kernel⟩
 |count=>exact⟨Aa,λy b=>by rw[AM.mp b];decide+kernel⟩
 |whole=>exact⟨Aa,λy b=>by rw[AM.mp b];decide+kernel⟩
 |bare=>exact c.elim
 |thing d=>exact c.elim
 |upto d=>
  obtain⟨n,rfl,h1,h2⟩:=c;refine⟨Da 2,λy b=>?_⟩;rcases AU.mp b with rfl|b
  ·decide+kernel
  ·rw[AM.mp b];exact OY (by lia)
 |text d=>
  obtain⟨n,rfl,h1,h2⟩:=c;unfold Cy;split
  ·exact⟨Aa,λy b=>by rw[AM.mp b];decide+kernel⟩
  ·refine⟨Da 2,λy b=>?_⟩;rcases AU.mp b with rfl|b
   ·decide+kernel
   ·rw[AM.mp b];exact OY (by lia)
 |form d=>
  obtain⟨z,rfl,h⟩:=c;refine⟨Da 2,λy b=>?_⟩;rcases AU.mp b with rfl|b
  ·decide+kernel
  ·rw[AM.mp b];exact AJ (DP h) Aa
 |list k e=>
  have a:=e c.2;refine⟨Nat.succ_le_succ (WR c.1),λy b=>?_⟩;rcases AU.mp b with rfl|b
  ·decide+kernel
  ·exact a.2 y b
theorem hE{d:Dt}(h:qO d): (Kv d).length<=100:=by
 rcases h with⟨b,rfl⟩|⟨z,rfl,h⟩|⟨i,rfl,h⟩
 ·cases b <;> decide+kernel
 ·exact AJ (DP h) Aa
 ·exact OY h
theorem eK{p:Pf}(h:p.Ok): (Ko p).length<=7/\∀y∈Ko p,y.length<=100:=by
 have a:=KU h.kind;have t: (Fs p).length<=2/\∀y∈Fs p,y.length<=100:=by
  unfold Fs;split
  ·exact⟨Aa,λy b=>by rw[AM.mp b];decide+kernel⟩
  ·split
   ·exact⟨Aa,λy b=>by cases b⟩
   ·rename_i h1 h2;refine⟨AX 2,λy b=>?_⟩;rcases AU.mp b with rfl|b
    ·decide+kernel
    ·rw[AM.mp b];exact hE (h.dw (by simpa using h2)).2.dw
 refine⟨?_,λy b=>?_⟩
 ·unfold Ko;rw[AZ,AZ];exact CC (CC (AX 2) a.1) t.1
 ·rcases BZ.mp b with b|b
  ·rcases BZ.mp b with b|b
   ·rcases AU.mp b with rfl|b
    ·exact OY (by have:=h.num;lia)
    ·rw[AM.mp b];exact AJ (DP h.nam) Aa
   ·exact a.2 y b
  ·exact t.2 y b
theorem PH:∀{ys:List Bc} {b:Nat},(∀y∈ys,y.length<=b)->(ys.map (·.length)).sum<=ys.length*b
 |[],_,_=>Ci _
 |y::ys,b,h=>by
  rw[Bf,Sv,Cd,Nat.succ_mul,Nat.add_comm];exact CC (PH λz hz=>h z (BG _ hz)) (h y (BQ ..))
theorem No{ys:List Bc}(hn:ys.length<=1000)(h:∀y∈ys,y.length<=1000){z:Bc}(hz:z.length=1): (ys.map (·.length)).sum+ys.length*z.length<=16777216:=by
 have a:=PH h;have b:ys.length*1000<=1000*1000:=QP _ hn;rw[hz]
 lia
def Vv:Sp:=λvs H Q _=>∃b,vs=[.bl b]/\Q (.str (if b then "yes" else "no")) H
theorem Wi(T:Tx K mg):HL.Et P w K mg base 1 120 ["truth"] Vv:=by
 refine(T.df 6 rfl).ok VH (λvs H Q E h=>?_) (λcdv A outer s H vs Q E a h=>?_)
 ·obtain⟨i,rfl,_⟩:=h;rfl
 ·obtain⟨b,rfl,q⟩:=h;refine⟨_,AD (AN (Gb (BI (pv 0)) AQ AQ)),?_⟩;refine⟨_,rfl,b,rfl,?_⟩;cases b <;> exact q
def Sz:Sp:=λvs H Q _=>∃d v,vs=[v]/\Th H d v/\qO d/\Q (.str (Kv d)) H
theorem SE(T:Tx K mg):HL.Et P w K mg base 2 773 ["default"] Sz:=by
 have c:=@Wi P w K mg base T;have a:=@GE P w K mg base T;refine(T.df 26 rfl).ok SB (λvs H Q E h=>?_) (λcdv A outer s H vs Q E f h=>?_)
 ·obtain⟨d,v,rfl,_⟩:=h;rfl
 ·obtain⟨d,v,rfl,e,hd,q⟩:=h;refine⟨_,AV (BH (BI (Bl (BC K rfl) rfl T.Bv Br (Ax (pv 0) (Ax (QV T.OW Ma) AA)))) (AD (AN (AW c (f.mono Aa) (T.d1 6 rfl λ_ _ _ _ _ _ _=>rfl) (Ax (pv 0) AA))))
    Bd)
   (AV (BH (BI (Bl (BC K rfl) rfl T.Bv Br (Ax (pv 0) (Ax (QV T.KM Iq) AA)))) (AD (AN (pv 0)))
    Bd)
   (AD (AN (AW a (f.mono Aa) T.Gv (Ax (pv 0) AA))))),?_⟩
  refine⟨_,rfl,_,.ty "bool",_,_,_,rfl,e.ty,rfl,dj T d,_,rfl,?_⟩;rcases hd with⟨b,rfl⟩|⟨z,rfl,h⟩|⟨i,rfl,h⟩
  ·cases e;exact CY ⟨_,rfl,b,rfl,q⟩
  ·cases e.1;exact Ch ⟨_,rfl,_,.ty "str",_,_,_,rfl,e.ty,rfl,YS T _,_,rfl,CY ⟨_,rfl,q⟩⟩
  ·cases e;exact Ch ⟨_,rfl,_,.ty "str",_,_,_,rfl,.int i,rfl,YS T (.int i),_,rfl,Ch ⟨_,rfl,i,rfl,h,q⟩⟩
theorem LS(l m:List Bc):l.map V.str++m.map V.str=(l++m).map V.str:=Ck.symm
def VD:Sp:=λvs H Q _=>∃v p,vs=[v]/\Ms H (Pf.fx p) v/\p.Ok/\∀H',Be H H'->Q (.str (IH p)) H'
theorem Wq(T:Tx K mg):HL.Et P w K mg base 6 780 Ah VD:=by
 have e:=@GE P w K mg base T;have f:=@az P w K mg base T;have c:=@SE P w K mg base T;refine(T.df 27 rfl).ok OA (λvs H Q E h=>?_) (λcdv A outer s H vs Q E o h=>?_)
 ·obtain⟨v,p,rfl,_⟩:=h;rfl
 ·obtain⟨v,p,rfl,⟨a,dx,n,z,k,m,d,rfl,ha,rfl,⟨rfl,_⟩,C,rfl,hd⟩,ho,q⟩:=h;refine⟨_,Bh (BV (i:=1) OA.nd rfl (Bn rfl) (Bz Nc (CP (Ax (AW e (o.mono Aa) T.Gv (Ax (BF (pv 0) rfl) AA)) (Ax (BF (pv 0) rfl) AA))) (DS (k:=3) rfl rfl rfl rfl rfl (BF (pv 0) rfl) (o.mono Aa) CL))) (Bh (BH (BI (BF (pv 0) rfl)) (AD (EX (Gr BO Cn Cm EF (pv 1) (Ax AQ AA)))) (AD (BH (CK (BI (AW f (o.mono Aa) T.RX (Ax (BF (pv 0) rfl) (Ax (BF (pv 0) rfl) AA))))) (AD (EX (Gr BO MF ME Rt (pv 1) (Ax (CP (Ax AQ (Ax (AW c (o.mono Aa) (T.d1 26 rfl λ_ _ _ _ _ _ _=>rfl) (Ax (BF (pv 0) rfl) AA)) AA))) AA))))
      Bd)))
   (AD (AN (Gr Db Fk Fj NP AQ (Ax (pv 1) AA))))),?_⟩
  have B:=KU ho.kind;refine Cq (λg H1=>∃W,g=[some (.ref a),some (.ref W)]/\H W=none/\Be H H1/\H1 W=some (.lst (([toS p.num,p.nam] ++Cy p.kind).map V.str))) ?_ ?_
  ·refine⟨_,rfl,a,_,dx,_,_,rfl,ha,T.Ce,T.DM,rfl,p.num,rfl,by have:=ho.num;lia,_,rfl,a,_,dx,_,_,rfl,ha,T.Ce,T.EU,rfl,zl 2,λl x=>?_⟩;have s1:=By (u:=.lst [.str (toS p.num),.str p.nam]) x;obtain⟨b,N,fs,rfl,hb,D⟩:=(C.sm (Sm.of s1)).ins ho.kind.fine.isK;refine⟨_,rfl,a,_,dx,_,_,rfl,s1 _ _ ha,T.Ce,T.DN,rfl,b,_,N,fs,_,rfl,hb,D _ Aa Aa Aa,kG T ho.kind,_,rfl,C.sm (Sm.of s1),λl2 H2 h2 s2 M=>?_⟩;refine⟨l,l2,_,_,rfl,rfl,s2 _ _ AC,M,?_,λW hW=>⟨W,rfl,s1.free (s2.free hW),(s1.trans s2).trans (By hW),by rw[AC];rfl⟩⟩;rw[Ay];exact FN (AJ (BA B.1 2) Aa)
  rintro g H1 ⟨W,rfl,r,s1,hW⟩;refine Cq (λg H2=>g=[some (.ref a),some (.ref W)]/\Be H H2/\H2 W=some (.lst ((Ko p).map V.str))) ?_ ?_
  ·refine⟨_,rfl,a,_,dx,_,_,rfl,s1 _ _ ha,T.Ce,T.EV,rfl,p.must,rfl,FT (λh=>?_) (λh=>?_)⟩
   ·refine⟨_,rfl,.inl ⟨rfl,_,Cj.of hW⟩,W,_,_,rfl,rfl,hW,?_,rfl,s1.put r,?_⟩
    ·rw[Ay,AZ];exact DC (AJ (BA B.1 2) Aa)
    ·rw[AC];unfold Ko Fs;rw[wm h,<-LS _ ["must"]];rfl
   ·refine⟨_,rfl,a,_,dx,_,_,rfl,s1 _ _ ha,T.Ce,T.DN,rfl,_,rfl,a,_,dx,_,_,rfl,s1 _ _ ha,T.Ce,T.DU,rfl,k,d,p.kind,p.dfl,rfl,ho.kind.fine,C.sm (Sm.of s1),Th.sm (Sm.of s1) _ _ hd,λH2 s2=>⟨_,rfl,FT (λh2=>?_) (λh2=>?_)⟩⟩
    ·have hb:EO p.kind p.dfl=false:=by simpa using h2
     have j:=s1.trans s2;have G:=(ho.dw hb).2.dw;refine⟨_,rfl,.inl ⟨rfl,_,Cj.of (s2 _ _ hW)⟩,_,rfl,a,_,dx,_,_,rfl,j _ _ ha,T.Ce,T.DU,rfl,p.dfl,d,rfl,Th.sm (Sm.of j) _ _ hd,G,zl 2,λl t=>?_⟩;have J:=By (u:=.lst [.str "=",.str (Kv p.dfl)]) t;refine⟨W,l,_,_,rfl,rfl,J _ _ (s2 _ _ hW),AC,?_,rfl,(j.trans J).put r,?_⟩
     ·rw[Ay,AZ];exact FN (AJ (Nat.add_le_add_right (BA B.1 2) 2) Aa)
     ·rw[AC];unfold Ko Fs;rw[wk h,wk (by rw[hb];decide),<-LS _ ["=",_]];rfl
    ·refine⟨rfl,s1.trans s2,?_⟩;rw[s2 _ _ hW];unfold Ko Fs;rw[wk h,wm (by simpa using h2),CA]
  rintro g H2 ⟨rfl,s2,I⟩;have o:=eK ho;exact⟨rfl,_,rfl," ",W,_,rfl,rfl,Cj.of I,No (AJ o.1 Aa) (λy L=>AJ (o.2 y L) Aa) Ab,q _ s2⟩
theorem Hm{x y:Bc}{n m:Nat}(hx:x.length<=n)(a:y.length<=m): (x++y).length<=n+m:=by
 rw[strLen_append]
 lia
section
variable{J:It}{H1:Hp}{σ0:L2.St}{g:TG}{te:TE}{Q:VK}{xs:List V}
theorem JF{k:Type}{l:List k}(W:Wk J H1 xs)(n:l.length=xs.length)(hz:xs.length<=1000)(φ:k->V)(hs:∀(j:Nat) (a:k) (x:V),l[j]?=some a->xs[j]?=some x->∀(H:Hp) (R:VK),Be H1 H->(∀H',Be H H'->R (φ a) H')->g x h H λf H2=>Sub h f/\te f H2 R)(hd:∀D H',H1 D=none->Be H1 H'->H' D=some (.lst (l.map φ))->Q (.ref D) H'):QJ J H1 h g WV te Q:=by
 refine Dc W hz (λi=>match l[i]? with|some a=>φ a|none=>.non) (λj x hx H R s o=>?_) (λD H' a b c=>hd D H' a b ?_)
 ·obtain⟨y,m⟩:∃y,l[j]?=some y:=⟨_,Az (by rw[n];exact(AO.mp hx).1)⟩;rw[m]at o;exact hs j y x m hx H R s o
 ·rw[c,<-n,Il l φ _ λi d e=>by rw[e]]
end
structure Pg where
 nam:Bc
 choice:Bool
 fields:List Pf
 gone:List Int
def Pg.gx(g:Pg):Gx:=⟨g.choice,.str g.nam,some (g.fields.map λp=>.fld p.fx),g.gone⟩
structure Pg.Ok(g:Pg):Prop where
 nam:Fa g.nam=true
 fs:∀p∈g.fields,p.Ok
 len:g.fields.length<=10
 glen:g.gone.length<=10
 gone:∀n∈g.gone,1<=n/\n<=200
def Qo(g:Pg):Bc:=(if g.choice then ("choice" :Bc)else "record") ++ (" " :Bc) ++g.nam
def kf(ns:List Int):Bc:=Eb " " ("gone" ::ns.map toS)
def So(g:Pg):List Bc:=if g.gone=[]then []else [kf g.gone]
def DQ(g:Pg):List Bc:=Qo g::g.fields.map IH++So g
theorem Ld{e d c:Type}{R:c->d->Prop}{f:e->c}:∀{l:List e} {m:List d},Paired R (l.map f) m->Paired (λa b=>R (f a) b) l m
 |[],[],_=>.nil
 |[],_::_,h=>by cases h
 |_::_,[],h=>by cases h
 |a::l,b::m,h=>by cases h with|cons h t=>exact .cons h (Ld t)
theorem Hq{c b:Type}{R:c->b->Prop}:∀{l:List c} {m:List b},Paired R l m->∀(i:Nat) x y,l[i]?=some x->m[i]?=some y->R x y
 |_,_,.nil,i,x,y,e,_=>by simp at e
 |_,_,.cons h t,0,x,y,e,a=>by simp at e a;rw[<-e,<-a];exact h
 |_,_,.cons h t,i+1,x,y,e,a=>Hq t i x y (by simpa using e) (by simpa using a)
theorem rV: ((Ad:List Bc) ++ ([]:List Bc)).Nodup:=by decide+kernel
def VC:Sp:=λvs H Q _=>∃v g,vs=[v]/\Jm H (Pg.gx g) v/\g.Ok/\Yk H Q ((DQ g).map V.str)
theorem Wp(T:Tx K mg):HL.Et P w K mg base 7 785 ["form"] VC:=by
 have b:=@GE P w K mg base T;have c:=@Wq P w K mg base T;refine(T.df 28 rfl).ok Km (λvs H Q E h=>?_) (λcdv A outer s H vs Q E S h=>?_)
 ·obtain⟨v,p,rfl,_⟩:=h;rfl
 ·obtain⟨v,g,rfl,⟨a,dx,z,f,l,rfl,ha,⟨rfl,_⟩,⟨fl,fs,rfl,o,r⟩,W⟩,ho,q⟩:=h;have t:=IS T g.choice;have r:=Ld r;have I:g.fields.length=fs.length:=r.length;refine⟨_,AV (BV (i:=1) Km.nd rfl (Bn rfl) (jt (Gb (BI (DS (P:=P) (w:=w) (K:=K) (mg:=mg) (base:=base) (k:=1) rfl rfl rfl rfl rfl (pv 0) (S.mono Aa) CL)) AQ AQ))) (Bh (BV (i:=2) Km.nd rfl (Bn rfl) (Bz Nc (CP (Ax (Bz Du (Bz Du (pv 1) AQ) (BF (pv 0) rfl)) AA)) (CJ (ts:=Ah) (xs:=[]) (js:=[]) rfl ⟨rfl,rfl,Ab,Ab,CZ rfl⟩ .nil Ab (CU (BF (pv 0) rfl)) (λC s_ H_ fp=>Cb (X:=Di _ _ _ C s_ H_ fp) (i:=0) NO rfl (Bn rfl) (Cw rfl)) (λC s_ H_ fp=>CT (X:=Di _ _ _ C s_ H_ fp)) (λC s_ H_ fp=>AW (X:=Di _ _ _ C s_ H_ fp) c (S.mono Aa) (T.d1 27 rfl λ_ _ _ _ _ _ _=>rfl) (Ax (pv 0) AA))))) (Bh (BH (Bp Uf (Bl Cs (by rfl) T.Fy Eg (Ax (BF (pv 0) rfl) AA)) AH (Bw _)) (AD (EX (Gr BO Cn Cm EF (pv 2) (Ax (Gr Db Fk Fj NP AQ (Ax (Bz Nc (CP (Ax AQ AA)) (CJ (ts:=Ad) (xs:=[]) (js:=[]) rfl ⟨rfl,rfl,Ab,Ab,CZ rfl⟩ .nil Ab (CU (BF (pv 0) rfl)) (λC s_ H_ fp=>Cb (X:=Di _ _ _ C s_ H_ fp) (i:=0) rV rfl (Bn rfl) (Cw rfl)) (λC s_ H_ fp=>CT (X:=Di _ _ _ C s_ H_ fp)) (λC s_ H_ fp=>AW (X:=Di _ _ _ C s_ H_ fp) b (S.mono Aa) T.Gv (Ax (pv 0) AA)))) AA)) AA))))
    Bd)
   (AD (AN (pv 2))))),?_⟩
  refine⟨λv H'=>v= .str (if g.choice then "choice" else "record")/\H=H',?_,?_⟩
  ·refine⟨_,rfl,a,_,dx,_,_,rfl,ha,rfl,NU T g.choice,_,rfl,g.choice,rfl,?_⟩;cases g.choice <;> exact⟨rfl,rfl⟩
  rintro _ _ ⟨rfl,rfl⟩;have m: (if g.choice then ("choice" :Bc)else "record").length<=6:=by cases g.choice <;> decide+kernel
  have U:=DP ho.nam;have o:=λ(H':Hp) (s:Be H H')=>s _ _ o;refine Cq (λd H1=>∃L,d=[some (.ref a),some (.str (if g.choice then "choice" else "record")),some (.ref L)]/\H L=none/\Be H H1/\H1 L=some (.lst ((Qo g::g.fields.map IH).map V.str))) ?_ ?_
  ·refine⟨_,rfl,_,_,rfl,rfl,FN (AJ (CC m (show(BJ " ").length<=1 by decide+kernel)) Aa),_,rfl,a,_,dx,_,_,rfl,ha,t.cl,t.n1,rfl,_,_,rfl,rfl,FN (AJ (CC (Hm m (show(BJ " ").length<=1 by decide+kernel)) U) Aa),zl 1,λN B=>?_⟩;have s1:=By (u:=.lst [.str (Qo g)]) B;refine⟨_,rfl,a,_,dx,_,_,rfl,s1 _ _ ha,t.cl,t.n2,rfl,fl,rfl,⟨_,Cj.of (o _ s1)⟩,JF (Wk.list (Cj.of (o _ s1))) I (by have:=ho.len;lia) (λp=>.str (IH p)) (λj p x hp hx H2 R s2 Y=>?_) (λD H2 hD s2 e2=>?_)⟩
   ·exact⟨Sub.set rfl,_,rfl,x,p,rfl,Ms.sf (Sm.of (s1.trans s2)).sf (Hq r j p x hp hx),ho.fs p (AY hp),Y⟩
   ·refine⟨N,D,_,_,rfl,rfl,s2 _ _ AC,e2,?_,λL G=>⟨L,rfl,s1.free (s2.free G),(s1.trans s2).trans (By G),?_⟩⟩
    ·rw[Ay];exact FN (AJ (BA ho.len 1) Aa)
    ·rw[AC,Bf,Bi];rfl
  rintro d H1 ⟨L,rfl,J,s1,G⟩;refine Cq (λd H2=>d=[some (.ref a),some (.str (if g.choice then "choice" else "record")),some (.ref L)]/\Be H H2/\H2 L=some (.lst ((DQ g).map V.str))) ?_ ?_
  ·refine⟨_,rfl,a,_,dx,_,_,rfl,s1 _ _ ha,t.cl,t.n3,rfl,l,_,rfl,.inl (Cj.of (s1 _ _ W)),_,_,rfl,rfl,_,rfl,FT (λh=>?_) (λh=>?_)⟩
   ·have hne:g.gone≠[]:=λe=>by
     have:=wj h;rw[Ay,show g.gx.gone=g.gone from rfl,e]at this;exact wo this Aa
    refine⟨_,rfl,.inl ⟨rfl,_,Cj.of G⟩,rfl,zl 1,λN B=>?_⟩;have s2:=By (u:=.lst [.str "gone"]) B;refine⟨_,rfl,a,_,dx,_,_,rfl,s2 _ _ (s1 _ _ ha),t.cl,t.n3,rfl,l,rfl,⟨_,Cj.of (s2 _ _ (s1 _ _ W))⟩,JF (l:=g.gone) (Wk.list (Cj.of (s2 _ _ (s1 _ _ W)))) (Ay ..).symm (by rw[Ay];exact AJ ho.glen Aa) (λn=>.str (toS n)) (λj n x hn hx H2 R s2 Y=>?_) (λD H3 hD s3 e3=>?_)⟩
    ·rw[AT,show g.gx.gone[j]?=some n from hn]at hx;cases hx;exact⟨Sub.set rfl,_,rfl,n,rfl,by have:=ho.gone n (AY hn);lia,Y _ (Be.refl _)⟩
    ·refine⟨N,D,_,_,rfl,rfl,s3 _ _ AC,e3,?_,λM hM=>?_⟩
     ·rw[Ay];exact FN (AJ (BA ho.glen 1) Aa)
     have s4:=(s2.trans s3).trans (By (u:=.lst (V.str "gone" ::g.gone.map λn=>.str (toS n))) hM);refine⟨" ",M,"gone" ::g.gone.map toS,rfl,rfl,Cj.of (by rw[AC,Bf,Bi];rfl),No ?_ (λy O=>?_) Ab,?_⟩
     ·rw[Cd,Ay];have:=ho.glen;lia
     ·rcases AU.mp O with rfl|O
      ·decide+kernel
      ·obtain⟨n,hn,rfl⟩:=Bg.mp O;exact AJ (OY (by have:=ho.gone n hn;lia)) Aa
     ·refine⟨L,_,_,rfl,rfl,s4 _ _ G,?_,rfl,(s1.trans s4).put J,?_⟩
      ·rw[Ay,Cd,Ay];exact DC (AJ (Nat.succ_le_succ ho.len) Aa)
      ·rw[AC];unfold DQ So;rw[wk hne,<-LS _ [_]];rfl
   ·have he:g.gone=[]:=by
     simp at h;exact h
    refine⟨rfl,s1,?_⟩;rw[G];unfold DQ So;rw[wm he,CA]
  rintro d H2 ⟨rfl,s2,Z⟩;exact⟨_,rfl,q L _ J s2 Z⟩
def Ov:Sp:=λvs H Q _=>∃v xs ws gs,vs=[v]/\pa H xs ws v/\Paired (λg x=>Jm H (Pg.gx g) x) gs xs/\(∀g∈gs,g.Ok)/\gs.length<=8/\Yk H Q ((gs.map DQ).flatten.map V.str)
theorem Xn{g:Pg}(h:g.Ok): (DQ g).length<=12:=by
 unfold DQ So;have:=h.len;rw[AZ,Cd,Ay];split
 ·rw[OU];lia
 ·rw[Fm];lia
theorem Qs:∀{gs:List Pg},(∀g∈gs,g.Ok)->(gs.map DQ).flatten.length<=gs.length*12
 |[],_=>Ci _
 |g::gs,h=>by
  rw[Bf,FG,AZ,Cd,Nat.succ_mul,Nat.add_comm];exact CC (Qs λx hx=>h x (BG _ hx)) (Xn (h g (BQ ..)))
theorem Wt(T:Tx K mg):HL.Et P w K mg base 8 792 ["book"] Ov:=by
 have b:=@Wp P w K mg base T;refine(T.df 29 rfl).ok Kn (λvs H Q E h=>?_) (λcdv A outer s H vs Q E y h=>?_)
 ·obtain⟨v,_,_,_,rfl,_⟩:=h;rfl
 ·obtain⟨v,xs,ws,gs,rfl,⟨a,dx,l,D,rfl,ha,r,hw⟩,hp,hg,G,q⟩:=h;have f:gs.length=xs.length:=hp.length;refine⟨_,AV (BV (i:=1) Kn.nd rfl (Bn rfl) (CP AA)) (Bh (JA DT rfl (CU (BF (pv 0) rfl)) (Cb (i:=2) Kn.nd rfl (Bn rfl)) (AD (EX (Gr BO MF ME Rt (pv 1) (Ax (AW b (y.mono Aa) (T.d1 28 rfl λ_ _ _ _ _ _ _=>rfl) (Ax (pv 2) AA)) AA))))) (AD (AN (pv 1)))),?_⟩;refine⟨zl 0,λL o=>?_⟩;have s1:=By (u:=.lst []) o;refine Cq (λc H'=>(∃j,c=[some (.ref a),some (.ref L),j])/\Be H H'/\H' L=some (.lst ((gs.map DQ).flatten.map V.str))) ?_ ?_
  ·refine⟨_,rfl,a,_,dx,_,_,rfl,s1 _ _ ha,T.Hi,T.FP,rfl,l,rfl,⟨_,Cj.of (s1 _ _ r)⟩,?_⟩;refine Nq (xs:=xs) (λi c H'=>(∃j,c=[some (.ref a),some (.ref L),j])/\Be H H'/\H' L=some (.lst (((gs.take i).map DQ).flatten.map V.str))) ⟨⟨_,rfl⟩,s1,AC⟩ (λi c H' _ h=>Cj.of (h.2.1 _ _ r)) (λi x c H' hx h=>?_) (λc H' h=>?_)
   ·obtain⟨⟨j,rfl⟩,s2,d⟩:=h;have hi:i<gs.length:=by rw[f];exact(AO.mp hx).1
    have m:gs[i]?=some gs[i]:=Az hi;have k:=hg _ (NG hi);refine⟨_,rfl,.inl ⟨rfl,_,Cj.of d⟩,_,rfl,x,gs[i],rfl,(Hq hp i _ x m hx).sm (Sm.of s2),k,λt J z p B=>?_⟩;refine⟨L,t,_,_,rfl,rfl,p _ _ d,B,?_,⟨_,rfl⟩,(s2.trans p).put o,?_⟩
    ·rw[Ay,Ay];have C:=Qs (gs:=gs.take i) λg n=>hg g (Dp n);have I:=Xn k;rw[BY]at C;exact FN (by lia)
    ·have e: ((gs.take (i+1)).map DQ).flatten=((gs.take i).map DQ).flatten++DQ gs[i]:=by
      rw[Gh,m];simp only[Option.toList,Ck,List.flatten_append,Bf,Dl,FG,List.flatten_nil,CA]
     rw[AC,e,LS]
   ·obtain⟨h1,h2,h3⟩:=h;rw[<-f,Dh]at h3;exact⟨h1,h2,h3⟩
  rintro c H2 ⟨⟨j,rfl⟩,s2,d⟩;exact⟨_,rfl,q L _ o s2 d⟩
open PySem.NumText
theorem nn{b:Bool}(h:¬ (!b)=true):b=true:=by cases b <;> simp at h ⊢
theorem aH: (BJ "-")=⟨#[45]⟩:=by decide+kernel
theorem SY: (BJ "0")=⟨#[48]⟩:=by decide+kernel
theorem bj(z:Bc):decide (V.str z=V.str (BJ "0"))=decide (sg z=[48]):=by
 rw[decide_eq_decide];constructor
 ·intro h;cases h;rw[SY]
 ·intro h;exact wn V.str (bW (by rw[SY];exact h))
theorem kZ(n:Nat)(m:Nat):QE (.int (n:Int)) 1 (m:Int)=(decide (1<=n) &&decide (n<=m)):=by
 show(decide ((1:Int)<= (n:Int)) &&decide ((n:Int)<= (m:Int)))=_;congr 1 <;> (rw[decide_eq_decide];lia)
theorem Za(f:Bc):SM (sg f)=((decide (1<=f.length) &&decide (f.length<=80)) &&Qh f tq):=by
 unfold SM Qh;rw[Gy]
theorem aB{z:Bc}(h:SM (Gd (sg z))=false):Ks z= .non:=by
 unfold Ks Sl;rw[h,Cu];rfl
theorem aA{z:Bc}(h:SM (Gd (sg z))=true)(h0: (Gd (sg z)).head?=some 48)(h1:¬sg z=[48]):Ks z= .non:=by
 unfold Ks Sl;rw[h,wg h0,wh h1];rfl
theorem gH{z:Bc}(h:SM (Gd (sg z))=true)(h0:¬ (Gd (sg z)).head?=some 48\/sg z=[48]):Ks z= .int (bN (sg z)):=by
 unfold Ks Sl;rw[h];rcases h0 with h0|h0
 ·rw[wh h0];rfl
 ·rw[wg h0,Bool.not_true,Lr];rfl
theorem jQ{z f:Bc}(e:sg f=Gd (sg z)):f.length<=z.length:=by
 rw[<-Gy,<-Gy,e];unfold Gd;split
 ·rw[DR];lia
 ·exact AX _
def Yo:Sp:=λvs H Q _=>∃z,vs=[.str z]/\z.length<=1000/\∀H',Be H H'->Q (Ks z) H'
theorem Jh(T:Tx K mg):HL.Et P w K mg base 3 113 ["word"] Yo:=by
 have c:=@EZ P w K mg base T;have b:=@OD P w K mg base T;refine(T.df 5 rfl).ok PN (λvs H Q E h=>?_) (λcdv A outer s H vs Q E k h=>?_)
 ·obtain⟨x,rfl,_⟩:=h;rfl
 ·obtain⟨z,rfl,hz,q⟩:=h;obtain⟨_,a⟩:=(T.ui 1 rfl);obtain⟨_,d⟩:=(T.us 1 rfl);refine⟨_,AV (BH (CK (BI (Bl (BC K rfl) rfl T.Bv Br (Ax (pv 0) (Ax (QV T.KM Iq) AA))))) (AD (AN CO))
    Bd)
   (AV (BV (i:=1) PN.nd rfl (Bn rfl) (jt (Gb (BI (Gr Db PySem.F.slot_str_startswith PySem.F.type_str_startswith OF (pv 0) (Ax AQ AA))) (Hb Ri (pv 0) (Iy AH) Iz) (pv 0))))
   (AV (BH (PW.pt (GA (CK (BI (AW c (k.mono Aa) T.EC (Ax (Bl Jj (by rfl) T.Fy Eg (Ax (pv 1) AA)) (Ax AH (Ax (af a) AA)))))) (FS (CK (BI (AW b (k.mono Aa) T.Oq (Ax (pv 1) (Ax (vw d) AA)))))))) (AD (AN CO))
    Bd)
   (AV (BH (PW.pt (Gm (BI (Gr Db PySem.F.slot_str_startswith PySem.F.type_str_startswith OF (pv 1) (Ax AQ AA))) (Fv (Bp Ih (pv 0) AQ (Bw _))))) (AD (AN CO))
    Bd)
   (AD (AN (Ee WI rfl T.dP Zi (Ax (pv 0) AA))))))),?_⟩
  refine⟨_,rfl,_,.ty "str",_,_,_,rfl,.str z,rfl,YS T (.str z),_,rfl,?_⟩;refine Ch ⟨λv H'=>H=H'/\∃f,v= .str f/\sg f=Gd (sg z),?_,?_⟩
  ·refine⟨_,rfl,rfl,z,(BJ "-"),rfl,rfl,_,rfl,FT (λh=>?_) (λh=>?_)⟩
   ·refine⟨_,rfl,1,rfl,z,rfl,FN hz,rfl,_,rfl,?_⟩;rw[aH,LH]at h;rw[ZO];unfold Gd OH;rw[wm h]
   ·refine⟨_,rfl,rfl,z,rfl,?_⟩;rw[aH,LH]at h;unfold Gd OH;rw[wk h]
  ·rintro v H' ⟨rfl,f,rfl,g⟩;have hf:=AJ (jQ g) hz;have non:Ks z= .non->∀H',Be H H'->Q .non H':=λe H' s=>by rw[<-e];exact q _ s
   refine⟨_,rfl,f,rfl,FN hf,_,.int f.length,_,_,rfl,rfl,_,rfl,FT (λh=>?_) (λh=>?_)⟩
   ·rw[show(80:Int)=((80:Nat):Int)from rfl,kZ,MA]at h;exact CY (non (aB (by rw[<-g,Za,h,Cu])) _ (Be.refl _))
   ·rw[show(80:Int)=((80:Nat):Int)from rfl,kZ]at h;have h':=nn h;refine⟨_,rfl,f,tq,rfl,hf,λH1 s1=>⟨_,rfl,FT (λh2=>?_) (λh2=>?_)⟩⟩
    ·refine non (aB ?_) _ s1;rw[<-g,Za,h',CN];simpa using h2
    ·have hb:SM (Gd (sg z))=true:=by
      rw[<-g,Za,h',CN];simpa using h2
     have fin:¬ (Gd (sg z)).head?=some 48\/sg z=[48]->Q (.int (bN (sg z))) H1:=λh0=>by
      rw[<-gH hb h0];exact q _ s1
     obtain⟨j,i2⟩:=jX hb;refine⟨_,rfl,rfl,f,(BJ "0"),rfl,rfl,_,rfl,FT (λh0=>?_) (λh0=>?_)⟩
     ·rw[SY,LH,g]at h0;refine⟨_,rfl,rfl,_,rfl,FT (λh1=>?_) (λh1=>?_)⟩
      ·rw[bj]at h1;exact non (aA hb (wj h0) (by simpa using h1)) _ s1
      ·rw[bj]at h1;exact⟨_,rfl,z,_,rfl,j,i2,fin (.inr (by simpa using h1))⟩
     ·rw[SY,LH,g]at h0;exact Ch ⟨_,rfl,z,_,rfl,j,i2,fin (.inl (by simpa using h0))⟩
theorem gA(z y:Bc)(h:z.length<=1000): (Pj z (EM z y 0 z.length (z.length+1)) y.length).length<=2000:=by
 rw[length_partsBetween];have:=StrLaws.occ_length_le z y 0 z.length (z.length+1)
 lia
theorem gZ(ys:List Bc): (ys.map V.str).all Nr=true:=by
 rw[BM];intro x hx;obtain⟨y,_,rfl⟩:=Bg.mp hx;rfl
theorem nf{z:Bc}{ys:List Bc}(h:z∉ys):Vn (.str z) (ys.map V.str)=false:=by
 unfold Vn;rw[Mz];intro x hx e;obtain⟨y,a,rfl⟩:=Bg.mp hx;exact h (by rw[<- (eq_of_beq (show(y==z)=true from e))];exact a)
def ZG:Sp:=λvs H Q _=>∃z ys,vs=[.str z]/\z=Ec ⟨#[32]⟩ ys/\z.length<=1000/\ys.length<=1000/\ys≠[]/\(∀y∈ys,y≠ "" /\32∉sg y)/\Yk H Q (ys.map V.str)
theorem ao(T:Tx K mg):HL.Et P w K mg base 1 134 ["line"] ZG:=by
 refine(T.df 8 rfl).ok Sc (λvs H Q E h=>?_) (λcdv A outer s H vs Q E c h=>?_)
 ·obtain⟨x,_,rfl,_⟩:=h;rfl
 ·obtain⟨z,ys,rfl,b,hz,hn,hne,a,q⟩:=h;have es:Txt.split z " "=ys:=by rw[kR,b];exact bX hne λy h=>(a y h).2
  refine⟨_,AV (BH (CK (BI (Bl (BC K rfl) rfl T.Bv Br (Ax (pv 0) (Ax (QV T.KM Iq) AA))))) (AD (AN CO))
    Bd)
   (AV (BV (i:=1) Sc.nd rfl (Bn rfl) (Gr Db PySem.F.slot_str_split PySem.F.type_str_split jO (pv 0) (Ax AQ AA)))
   (AV (BH (Bp Lg AQ (pv 1) rfl) (AD (AN CO))
    Bd)
   (AD (AN (pv 1))))),?_⟩
  refine⟨_,rfl,_,.ty "str",_,_,_,rfl,.str z,rfl,YS T (.str z),_,rfl,Ch ⟨_,rfl,rfl,z," ",rfl,rfl,Ab,FN hz,by rw[es];exact FN hn,AJ (gA z _ hz) (by rw[DJ];decide),λp hp=>?_⟩⟩;rw[es];refine⟨_,rfl,p,_,rfl,.inl (Cj.of AC),rfl,gZ _,_,rfl,?_⟩;rw[nf λh=>(a _ h).1 rfl];exact Ch ⟨_,rfl,q p _ hp (By hp) AC⟩
theorem aK{H:Hp}{C x dx:AE}(hx:H x=none)(a:H dx=none)(hne:dx≠x):Be H (upd (upd H dx (.own x)) x (.ins C dx [])):=by
 refine(By a).trans (By ?_);rw[Bb (CI hne)];exact hx
theorem aJ{H:Hp}{C x dx:AE}{fs:List (Bc×V)}(hx:H x=none)(a:H dx=none)(hne:dx≠x):Be H (upd (upd (upd H dx (.own x)) x (.ins C dx [])) x (.ins C dx fs)):=by
 rw[Iv];refine(By a).trans (By ?_);rw[Bb (CI hne)];exact hx
theorem Rw{ys zs:List Bc}{i:Nat}(h:ys.drop i=zs)(j:Nat):ys.getD (i+j) ""=zs.getD j "":=by
 rw[<-h,AL,AL,List.getElem?_drop]
theorem NN{n:Int}(h:n.natAbs<2 ^ 256):Ks (toS n)= .int n:=jI (IL h Aa)
def Ws(H:Hp)(ys:List Bc)(v:V):Prop:=∃p,v= .ref p/\H p=some (.lst (ys.map V.str))/\ys.length<=1000/\∀y∈ys,y.length<=1000
theorem Ws.same{H H':Hp}(s:Be H H'){ys:List Bc}{v:V}(h:Ws H ys v):Ws H' ys v:=by
 obtain⟨p,e,h,r⟩:=h;exact⟨p,e,s _ _ h,r⟩
theorem ki{ys:List Bc}(h:∀y∈ys,y.length<=1000)(i:Nat): (ys.getD i "").length<=1000:=by
 rw[AL];cases e:ys[i]? with
 |none=>show(BJ "").length<=1000;decide+kernel
 |some y=>exact h y (AY e)
def pc(H:Hp)(k:Kx)(j:Nat)(v:V):Prop:=∃t u,v= .ref t/\H t=some (.tup [u,.int (j:Nat)])/\Of H k u
def bY:Sp:=λvs H Q _=>∃v ys,∃i:Nat,vs=[v,.int (i:Nat)]/\Ws H ys v/\Q (.str (ys.getD i "")) H
theorem Pb(T:Tx K mg):HL.Et P w K mg base 1 799 Ai bY:=by
 refine(T.df 30 rfl).ok cF (λvs H Q E h=>?_) (λcdv A outer s H vs Q E b h=>?_)
 ·obtain⟨v,ys,i,rfl,_⟩:=h;rfl
 ·obtain⟨v,ys,i,rfl,⟨p,rfl,hp,hn,a⟩,q⟩:=h;refine⟨_,AD (AN (Gb (Bp oG (pv 1) (Bl Cs (by rfl) T.Fy Eg (Ax (pv 0) AA)) (Bw _)) (Cp CM (pv 0) (pv 1) (λ_ _=>rfl)) AQ)),?_⟩;refine⟨_,rfl,_,rfl,p,_,rfl,.inl (Cj.of hp),_,_,rfl,rfl,_,rfl,FT (λh=>?_) (λh=>?_)⟩
  ·have hi:i<ys.length:=by
    have:=wj h;rw[Ay]at this
    lia
   refine⟨_,rfl,_,rfl,p,_,_,.str (ys.getD i ""),rfl,rfl,Cj.of hp,HY ?_,q⟩;rw[AT,AL,Az hi];rfl
  ·have hi:ys.length<=i:=by
    have:¬ (i:Int) <_:=λz=>h (wg z);rw[Ay]at this
    lia
   rw[AL,Cz hi]at q;exact q
def ZI:Sp:=λvs H Q _=>∃v ys,∃i:Nat,∃k rest,vs=[v,.int (i:Nat)]/\Ws H ys v/\ys.drop i=Cy k++rest/\k.good/\k.flat=true/\Ks (rest.getD 0 "")= .non/\∀u H',Be H H'->pc H' k (i+ (Cy k).length) u->Q u H'
theorem ar(T:Tx K mg):HL.Et P w K mg base 4 806 Ai ZI:=by
 have b:=@Pb P w K mg base T;have c:=@Jh P w K mg base T;have e:=@GG P w K mg base T;obtain⟨F,y⟩:=QB T;have M:Cv [V.int 100] [EA 100 F]:=.cons ⟨_,rfl⟩ .nil;refine(T.df 31 rfl).ok GM (λvs H Q E h=>?_) (λcdv A outer s H vs Q E l h=>?_)
 ·obtain⟨v,ys,i,k,rest,rfl,_⟩:=h;rfl
 ·obtain⟨v,ys,i,k,rest,rfl,hw,hd,o,hf,oQ,q⟩:=h;have Pe:FD (1+1) _:=l.mono (by lia);refine⟨_,AV (BV (i:=2) GM.nd rfl (Bn rfl) (AW b (l.mono Aa) T.Lw (Ax (pv 0) (Ax (pv 1) AA)))) (AV (BV (i:=3) GM.nd rfl (Bn rfl) (AW b (l.mono Aa) T.Lw (Ax (pv 0) (Ax (Bz Dg (pv 1) AH) AA)))) (Bh (BV (i:=4) GM.nd rfl (Bn rfl) (AW c (l.mono Aa) T.Je (Ax (pv 3) AA))) (AV (BH (Bp De (pv 2) AQ (Bw _)) (AD (AN (DG (Ax (Le T.Zx T.Ps T.Zu rfl T.Pq) (Ax (Bz Dg (pv 1) AH) AA)))))
    Bd)
   (AV (BH (Bp De (pv 2) AQ (Bw _)) (AD (AN (DG (Ax (Le T.Zy T.Pt T.Zv rfl T.Tn) (Ax (Bz Dg (pv 1) AH) AA)))))
    Bd)
   (AV (BH (Bp De (pv 2) AQ (Bw _)) (AD (AN (DG (Ax (Le T.Zw T.Pr T.Zt rfl T.Tl) (Ax (Bz Dg (pv 1) AH) AA)))))
    Bd)
   (AV (BH (PW.pt (Gm (Bp De (pv 2) AQ (Bw _)) (Fv (Bp PZ (pv 4) CO (Bw _))))) (AD (AN (DG (Ax (DF ⟨T.dU,T.RT,T.RP,T.dQ⟩ (Qb T) Pe rfl T.Ye T.RY .nil CL (Ax (pv 4) AA)) (Ax (Bz Dg (pv 1) AH) AA)))))
    Bd)
   (AV (BH (PW.pt (Gm (Bp De (pv 2) AQ (Bw _)) (Fv (Bp PZ (pv 4) CO (Bw _))))) (AD (AN (DG (Ax (DF ⟨T.SX,T.JX,T.JW,T.SW⟩ (Ji T) Pe rfl T.Lv (QA T) .nil CL (Ax (pv 4) AA)) (Ax (Bz Dg (pv 1) AH) AA)))))
    Bd)
   (AV (BH (Bp De (pv 2) AQ (Bw _)) (AD (AN (DG (Ax (ai ⟨T.SX,T.JX,T.JW,T.SW⟩ (Ji T) Pe rfl T.Lv y M CL) (Ax (Bz Dg (pv 1) AH) AA)))))
    Bd)
   (AV (BH (PW.pt (Gm (Bp De (pv 2) AQ (Bw _)) (Fv (BI (AW e (l.mono Aa) T.Gw (Ax (pv 3) AA)))))) (AD (AN (DG (Ax (DF ⟨T.WQ,T.Op,T.Oo,T.WP⟩ (Ng T) Pe rfl T.KN T.Ou .nil CL (Ax (pv 3) AA)) (Ax (Bz Dg (pv 1) AH) AA)))))
    Bd)
   (AD (AN CO))))))))))),?_⟩
  have u:=hw;obtain⟨p,rfl,hp,hn,G⟩:=u;have D:=Rw hd 0;have C:=Rw hd 1;rw[Nat.add_zero]at D;refine⟨_,rfl,_,rfl,_,ys,i,rfl,hw,_,rfl,_,rfl,_,_,rfl,rfl,_,ys,i+1,rfl,hw,?_⟩;rw[D,C];have r: ((Cy k++rest).getD 1 "").length<=1000:=by rw[<-C];exact ki G _
  refine Cq (λg H'=>Be H H'/\g=[some (.ref p),some (.int (i:Nat)),some (.str ((Cy k++rest).getD 0 "")),some (.str ((Cy k++rest).getD 1 "")),some (Ks ((Cy k++rest).getD 1 ""))]) ?_ ?_
  ·exact⟨_,rfl,_,rfl,r,λH' s'=>⟨s',rfl⟩⟩
  rintro g H1 ⟨s1,rfl⟩;have fin:∀{x:AE} {m:Int} {j:Nat} {H2:Hp},Be H1 H2->Of H2 k (.ref x)->m=((i+j:Nat):Int)->j=(Cy k).length->∀t,H2 t=none->Q (.ref t) (upd H2 t (.tup [.ref x,.int m])):=λs2 hx J L t B=>by
   subst L;rw[J];exact q _ _ ((s1.trans s2).trans (By B)) ⟨t,_,rfl,AC,hx.sm (Sm.of (By B))⟩
  have f:2<=sizeLine:=zl 2;cases k with
  |truth=>exact⟨_,rfl,rfl,_,rfl,HR rfl λx dx hx a hne=>⟨_,rfl,_,_,rfl,rfl,f,fin (aK hx a hne) ⟨x,dx,rfl,AC⟩ rfl rfl⟩⟩
  |count=>exact⟨_,rfl,rfl,_,rfl,Dk NK ⟨_,rfl,rfl,_,rfl,HR rfl λx dx hx a hne=>⟨_,rfl,_,_,rfl,rfl,f,fin (aK hx a hne) ⟨x,dx,rfl,AC⟩ rfl rfl⟩⟩⟩
  |whole=>exact⟨_,rfl,rfl,_,rfl,Dk NK ⟨_,rfl,rfl,_,rfl,Dk NK ⟨_,rfl,rfl,_,rfl,HR rfl λx dx hx a hne=>⟨_,rfl,_,_,rfl,rfl,f,fin (aK hx a hne) ⟨x,dx,rfl,AC⟩ rfl rfl⟩⟩⟩⟩
  |upto d=>
   obtain⟨n,rfl,h1,h2⟩:=o;have en:Ks ((Cy (.upto (.int n)) ++rest).getD 1 "")= .int n:=NN (by lia);rw[en];exact⟨_,rfl,rfl,_,rfl,Dk NK ⟨_,rfl,rfl,_,rfl,Dk NK ⟨_,rfl,rfl,_,rfl,Dk NK ⟨_,rfl,rfl,_,rfl,HR rfl ⟨_,rfl,rfl,_,rfl,CY ⟨_,rfl,λx dx hx a hne=>⟨x,dx,_,rfl,AC,rfl,_,rfl,_,_,rfl,rfl,f,fin (aJ hx a hne) ⟨x,dx,_,rfl,AC,rfl⟩ rfl rfl⟩⟩⟩⟩⟩⟩⟩
  |text d=>
   obtain⟨n,rfl,h1,h2⟩:=o;by_cases hn:n=100
   ·subst hn;have en:Ks ((Cy (.text (.int 100)) ++rest).getD 1 "")= .non:=oQ;rw[en];exact⟨_,rfl,rfl,_,rfl,Dk NK ⟨_,rfl,rfl,_,rfl,Dk NK ⟨_,rfl,rfl,_,rfl,Dk NK ⟨_,rfl,rfl,_,rfl,Dk NK (Ch ⟨_,rfl,rfl,_,rfl,HR rfl ⟨_,rfl,rfl,_,rfl,Ch ⟨_,rfl,rfl,_,rfl,HR rfl λx dx hx a hne=>⟨x,dx,_,rfl,AC,rfl,_,rfl,_,_,rfl,rfl,f,fin (aJ hx a hne) ⟨x,dx,_,rfl,AC,rfl⟩ rfl rfl⟩⟩⟩⟩)⟩⟩⟩⟩
   ·have I:Cy (.text (.int n))=(["text",toS n]:List Bc):=by unfold Cy;rw[wk hn]
    have en:Ks (((["text",toS n]:List Bc) ++rest).getD 1 "")= .int n:=NN (by lia);rw[I]at fin ⊢;rw[en];exact⟨_,rfl,rfl,_,rfl,Dk NK ⟨_,rfl,rfl,_,rfl,Dk NK ⟨_,rfl,rfl,_,rfl,Dk NK ⟨_,rfl,rfl,_,rfl,Dk NK (Ch ⟨_,rfl,rfl,_,rfl,HR rfl ⟨_,rfl,rfl,_,rfl,CY ⟨_,rfl,λx dx hx a hne=>⟨x,dx,_,rfl,AC,rfl,_,rfl,_,_,rfl,rfl,f,fin (aJ hx a hne) ⟨x,dx,_,rfl,AC,rfl⟩ rfl rfl⟩⟩⟩⟩)⟩⟩⟩⟩
  |form d=>
   obtain⟨z,rfl,hz⟩:=o;refine⟨_,rfl,rfl,_,rfl,Dk NK ⟨_,rfl,rfl,_,rfl,Dk NK ⟨_,rfl,rfl,_,rfl,Dk NK ⟨_,rfl,rfl,_,rfl,Dk NK (Ch ⟨_,rfl,rfl,_,rfl,Dk NK (Ch ⟨_,rfl,rfl,_,rfl,Dk NK ⟨_,rfl,rfl,_,rfl,HR rfl ⟨_,rfl,_,.str z,rfl,⟨rfl,AJ (DP hz) Aa⟩,λH2 s2=>⟨_,rfl,?_⟩⟩⟩⟩)⟩)⟩⟩⟩⟩;rw[show EH (.str z)=true from hz];exact CY ⟨_,rfl,λx dx hx a hne=>⟨x,dx,_,rfl,AC,rfl,_,rfl,_,_,rfl,rfl,f,fin (s2.trans (aJ hx a hne)) ⟨x,dx,_,rfl,AC,rfl,AJ (DP hz) Aa⟩ rfl rfl⟩⟩
  |list k=>cases hf
  |bare=>exact o.elim
  |thing d=>exact o.elim
theorem dm{c A B:Prop} [Decidable c](hc:¬c)(h:A):if (!decide c)=true then A else B:=by
 rw[wh hc];exact h
theorem nu{k:Kx}(a:k.good)(hf:k.flat=true)(rest:List Bc):¬V.str ((Cy k++rest).getD 0 "")=V.str "list":=by
 cases k with
 |truth=>exact NK
 |count=>exact NK
 |whole=>exact NK
 |upto d=>obtain⟨n,rfl,_⟩:=a;exact NK
 |text d=>
  obtain⟨n,rfl,_⟩:=a;unfold Cy;split <;> exact NK
 |form d=>obtain⟨n,rfl,_⟩:=a;exact NK
 |list k=>cases hf
 |bare=>exact a.elim
 |thing d=>exact a.elim
def bR:List (Gk×V):=[(.inr "yes",.bl true),(.inr "no",.bl false)]
def cc:Sp:=λvs H Q _=>∃v ys,∃i:Nat,∃k rest,vs=[v,.int (i:Nat)]/\Ws H ys v/\ys.drop i=Cy k++rest/\k.good/\Ks (rest.getD 0 "")= .non/\∀u H',Be H H'->pc H' k (i+ (Cy k).length) u->Q u H'
theorem cV(T:Tx K mg):HL.Et P w K mg base 5 813 Ai cc:=by
 have b:=@Pb P w K mg base T;have a:=@ar P w K mg base T;refine(T.df 32 rfl).ok TQ (λvs H Q E h=>?_) (λcdv A outer s H vs Q E d h=>?_)
 ·obtain⟨v,ys,i,k,rest,rfl,_⟩:=h;rfl
 ·obtain⟨v,ys,i,k,rest,rfl,hw,hd,e,oQ,q⟩:=h;have Pe:FD (1+1) _:=d.mono (by lia);refine⟨_,AV (BH (Bp Ih (AW b (d.mono Aa) T.Lw (Ax (pv 0) (Ax (pv 1) AA))) AQ (Bw _)) (AD (AN (AW a (d.mono Aa) T.KO (Ax (pv 0) (Ax (pv 1) AA)))))
    Bd)
   (AV (BV (i:=2) TQ.nd rfl (Bn rfl) (AW a (d.mono Aa) T.KO (Ax (pv 0) (Ax (Bz Dg (pv 1) AH) AA))))
   (AV (BH (Bp Kq (pv 2) CO (Bw _)) (AD (AN CO))
    Bd)
   (AD (AN (DG (Ax (DF ⟨T.dV,T.RU,T.RQ,T.dR⟩ (Qc T) Pe rfl T.Yg T.RZ .nil CL (Ax (Cp CW (pv 2) AH (λ_ _=>rfl)) AA)) (Ax (Cp CW (pv 2) AH (λ_ _=>rfl)) AA))))))),?_⟩
  have l:=Rw hd 0;rw[Nat.add_zero]at l;refine⟨_,rfl,_,rfl,_,ys,i,rfl,hw,?_⟩;rw[l];by_cases hf:k.flat=true
  ·exact⟨rfl,_,rfl,dm (nu e hf rest) ⟨_,rfl,_,rfl,_,ys,i,k,rest,rfl,hw,hd,e,hf,oQ,q⟩⟩
  ·cases k with
   |list k=>
    refine⟨rfl,_,rfl,Gc rfl ⟨_,rfl,_,rfl,_,_,rfl,rfl,_,ys,i+1,k,rest,rfl,hw,?_,e.2,e.1,oQ,λu H1 s1 f=>?_⟩⟩
    ·rw[<-List.drop_drop,hd];rfl
    obtain⟨t,u,rfl,j,f⟩:=f;refine⟨_,rfl,rfl,_,rfl,Dk (λz=>by cases z) ⟨_,rfl,t,_,_,_,rfl,rfl,DW.of j,GQ,λx dx hx g hne=>?_⟩⟩;have s2:Be H1 _:=aJ (C:=474) (fs:=[("item",u)]) hx g hne;refine⟨x,dx,_,rfl,AC,rfl,_,rfl,t,_,_,_,rfl,rfl,DW.of (s2 _ _ j),Zl,zl 2,λm c=>?_⟩;refine q _ _ ((s1.trans s2).trans (By c)) ⟨m,_,rfl,?_,Of.sm (Sm.of (By c)) (show Of _ (.list k) (.ref x)from⟨x,dx,_,rfl,AC,f.sm (Sm.of s2)⟩)⟩;rw[AC,show i+ (Cy (.list k)).length=i+1+ (Cy k).length by show i+ ((Cy k).length+1)=_;lia]
   |_=>exact wo rfl hf
def ZH:Sp:=λvs H Q _=>vs=[.str "yes"]/\Q (.bl true) H
theorem aq(T:Tx K mg)(a:KD P w K 73 bR):HL.Et P w K mg base 1 127 ["word"] ZH:=by
 refine(T.df 7 rfl).ok ZP (λvs H Q E h=>?_) (λcdv A outer s H vs Q E b h=>?_)
 ·obtain⟨rfl,_⟩:=h;rfl
 ·obtain⟨rfl,q⟩:=h;refine⟨_,AD (AN (jq a (YK (T.g _ _ (T.nr 13 rfl))) (pv 0) ⟨rfl,rfl,rfl,rfl⟩)),?_⟩;exact⟨rfl,_,rfl,.inr "yes",rfl,q⟩
def VE:Sp:=λvs H Q _=>∃a k d,vs=[a,.str (Kv d)]/\Of H k a/\k.good/\lr k d/\∀u H',Be H H'->Th H' d u->u≠ .non->Q u H'
theorem Wr(T:Tx K mg)(m:KD P w K 73 bR):HL.Et P w K mg base 4 820 ["kind","word"] VE:=by
 have c:=@aq P w K mg base T m;have f:=@GG P w K mg base T;have b:=@Jh P w K mg base T;refine(T.df 33 rfl).ok VM (λvs H Q E h=>?_) (λcdv A outer s H vs Q E g h=>?_)
 ·obtain⟨l,k,d,rfl,_⟩:=h;rfl
 ·obtain⟨l,k,d,rfl,hx,j,hd,q⟩:=h;refine⟨_,AV (BH (BI (Bl (BC K rfl) rfl T.Bv Br (Ax (pv 0) (Ax (YK T.Pq) AA)))) (AD (AN (AW c (g.mono Aa) (T.d1 7 rfl λ_ _ _ _ _ _ _=>rfl) (Ax (pv 1) AA))))
    Bd)
   (AV (BH (BI (Bl (BC K rfl) rfl T.Bv Br (Ax (pv 0) (Ax (YK T.Lv) AA)))) (AD (AN (Gb (BI (AW f (g.mono Aa) T.Gw (Ax (pv 1) AA))) (pv 1) CO)))
    Bd)
   (AV (BH (BI (DS (P:=P) (w:=w) (K:=K) (mg:=mg) (base:=base) (k:=1) rfl rfl rfl rfl rfl (pv 0) (g.mono Aa) CL)) (AD (AN (AW b (g.mono Aa) T.Je (Ax (pv 1) AA))))
    Bd)
   (AD (AN CO)))),?_⟩
  obtain⟨t,ty,_,k1,_,_,_,k5,_⟩:=aP T j.fine.may hx;obtain⟨a,dx,fs,rfl,ha,hf⟩:=hx.ins j.fine.isK;have p: (k= .truth/\d= .bl true)\/(∃n z,k= .text n/\d= .str z/\Fa z=true)\/∃i:Int,d= .int i/\i.natAbs<2 ^ 256/\LO k=true/\k.isOf 1=false/\k.isOf 5=false:=by
   cases k with
   |truth=>exact .inl ⟨rfl,hd⟩
   |text n=>obtain⟨z,e,hz⟩:=hd;exact .inr (.inl ⟨n,z,rfl,e,hz⟩)
   |count=>obtain⟨i,e,hi⟩:=hd;exact .inr (.inr ⟨i,e,hi,rfl,rfl,rfl⟩)
   |whole=>obtain⟨i,e,hi⟩:=hd;exact .inr (.inr ⟨i,e,hi,rfl,rfl,rfl⟩)
   |upto n=>obtain⟨i,e,hi⟩:=hd;exact .inr (.inr ⟨i,e,hi,rfl,rfl,rfl⟩)
   |_=>exact hd.elim
  rcases p with⟨rfl,rfl⟩|⟨n,z,rfl,rfl,hz⟩|⟨i,rfl,hi,hp,h1,o⟩
  ·exact⟨_,rfl,_,.ref 242,t,_,_,rfl,ty,rfl,k1,_,rfl,CY ⟨_,rfl,rfl,q _ _ (Be.refl _) rfl (λz=>by cases z)⟩⟩
  ·refine⟨_,rfl,_,.ref 242,t,_,_,rfl,ty,rfl,k1,_,rfl,Ch ⟨_,rfl,_,.ref 415,t,_,_,rfl,ty,rfl,k5,_,rfl,CY ⟨_,rfl,_,.str z,rfl,⟨rfl,AJ (DP hz) Aa⟩,λH' s'=>⟨_,rfl,?_⟩⟩⟩⟩;rw[show EH (.str z)=true from hz];exact CY ⟨_,rfl,q _ _ s' ⟨rfl,AJ (DP hz) Aa⟩ (λz=>by cases z)⟩
  ·rw[h1]at k1;rw[o]at k5;have dp:=kI (P:=P) (w:=w) (base:=base) T j.fine;rw[hp]at dp;refine⟨_,rfl,_,.ref 242,t,_,_,rfl,ty,rfl,k1,_,rfl,Ch ⟨_,rfl,_,.ref 415,t,_,_,rfl,ty,rfl,k5,_,rfl,Ch ⟨_,rfl,a,_,dx,fs,_,rfl,ha,hf _ Aa Aa Aa,dp,_,rfl,true,rfl,CY ⟨_,rfl,_,rfl,AJ (OY hi) Aa,λH' s'=>?_⟩⟩⟩⟩;rw[show Ks (Kv (.int i))= .int i from NN hi];exact q _ _ s' rfl (λz=>by cases z)
theorem il(p:Pf):Ks ((Fs p).getD 0 "")= .non:=by
 unfold Fs;split
 ·decide+kernel
 ·split
  ·decide+kernel
  ·show Ks "="= .non;decide+kernel
theorem LG{p:Pf}(h:p.Ok): (Fs p=[]/\p.must=false/\p.dfl=GT p.kind)\/(Fs p=(["must"]:List Bc)/\p.must=true/\p.dfl=GT p.kind)\/(Fs p=(["=",Kv p.dfl]:List Bc)/\p.must=false/\lr p.kind p.dfl):=by
 unfold Fs;cases hm:p.must with
 |true=>
  refine .inr (.inl ⟨rfl,rfl,?_⟩);rcases h.dfl with e|⟨a,_⟩
  ·exact e
  ·rw[hm]at a;cases a
 |false=>
  cases hb:EO p.kind p.dfl with
  |true=>
   refine .inl ⟨rfl,rfl,?_⟩;rcases h.dfl with e|⟨_,a,_⟩
   ·exact e
   ·rw[hb]at a;cases a
  |false=>exact .inr (.inr ⟨rfl,rfl,(h.dw hb).2⟩)
theorem lr.own{k:Kx}{d:Dt}(h:lr k d):cQ k d=d:=by
 cases k with
 |truth=>rw[show d= .bl true from h];rfl
 |text n=>obtain⟨z,rfl,_⟩:=h;rfl
 |upto m=>obtain⟨i,rfl,_⟩:=h;rfl
 |whole=>obtain⟨i,rfl,_⟩:=h;rfl
 |count=>obtain⟨i,rfl,_⟩:=h;rfl
 |_=>exact h.elim
theorem iZ{p:Pf}(h:p.Ok):∀y∈Fs p,CB y=true:=by
 intro y a;rcases LG h with⟨e,_⟩|⟨e,_⟩|⟨e,_,hd⟩ <;> rw[e]at a
 ·cases a
 ·rw[AM.mp a];exact Do _
 ·rcases AU.mp a with rfl|a
  ·exact Do _
  ·rw[AM.mp a];rcases hd.dw with⟨b,e⟩|⟨z,e,hz⟩|⟨i,e,_⟩ <;> rw[e]
   ·cases b <;> exact Do _
   ·exact KZ hz
   ·exact Do _
theorem ja(p:Pf): (Ko p).drop (2+ (Cy p.kind).length)=Fs p:=List.drop_left' (by rw[AZ];rfl)
def ZN:Sp:=λvs H Q _=>∃v p c,vs=[v,.bl c]/\Ws H (Ko p) v/\p.Ok/\(c=true->Fs p=[])/\∀u H',Be H H'->QH H H' p.fx u->Q u H'
theorem ay(T:Tx K mg)(hT:KD P w K 73 bR):HL.Et P w K mg base 6 827 ["words","in_choice"] ZN:=by
 have j:=@Pb P w K mg base T;have k:=@cV P w K mg base T;have m:=@GG P w K mg base T;have g:=@Jh P w K mg base T;have b:=@Wr P w K mg base T hT;have v1:Cv [V.non] [DX]:=.cons rfl .nil;have v2:Cv [V.bl false,V.non] [EB false,DX]:=.cons rfl (.cons rfl .nil);refine(T.df 34 rfl).ok Gz (λvs H Q E h=>?_) (λcdv A outer s H vs Q E G h=>?_)
 ·obtain⟨v,p,c,rfl,_⟩:=h;rfl
 ·obtain⟨v,p,c,rfl,hw,ho,hc,q⟩:=h;have F:FD (3+1) _:=G.mono (by lia);have D:=G.units;refine⟨_,Bh (BV (i:=2) Gz.nd rfl (Bn rfl) (AW g (G.mono Aa) T.Je (Ax (Cp CM (pv 0) AH (λ_ _=>rfl)) AA))) (AV (BV (i:=3) Gz.nd rfl (Bn rfl) (AW j (G.mono Aa) T.Lw (Ax (pv 0) (Ax AH AA)))) (Bh (BV (i:=4) Gz.nd rfl (Bn rfl) (AW k (G.mono Aa) (T.d2 32 rfl λ_ _ _ _ _ _ _ _=>rfl) (Ax (pv 0) (Ax AH AA)))) (Bh (BH (PW.pt (GA (Bp Kq (pv 2) CO (Bw _)) (GA (CK (BI (AW m (G.mono Aa) T.Gw (Ax (pv 3) AA)))) (FS (Bp Kq (pv 4) CO (Bw _)))))) (AD (AN CO))
    Bd)
   (AV (BV (i:=5) Gz.nd rfl (Bn rfl) (Cp CW (pv 4) AH (λ_ _=>rfl)))
   (Bh (BV (i:=6) Gz.nd rfl (Bn rfl) (Hb Yu (pv 0) (Iy (Cp CW (pv 4) AH (λ_ _=>rfl))) Iz))
   (AV (BH (Bp De (Bl Cs (by rfl) T.Fy Eg (Ax (pv 6) AA)) AH (Bw _)) (AD (AN (DF ⟨T.Ju,T.FR,T.FQ,T.Jt⟩ (Fo T) F rfl T.GY (ON T) v2 CL (Ax (pv 2) (Ax (pv 3) (Ax (pv 5) AA))))))
    Bd)
   (AV (BH (BI (pv 1)) (AD (AN CO))
    Bd)
   (Bh (BH (Bp (Ug D) (pv 6) (CP (Ax AQ AA)) (Bw _)) (AD (AN (DF ⟨T.Ju,T.FR,T.FQ,T.Jt⟩ (Fo T) F rfl T.GY (OM T) v1 CL (Ax (pv 2) (Ax (pv 3) (Ax (pv 5) (Ax DA AA)))))))
    Bd)
   (Bh (BV (i:=7) Gz.nd rfl (Bn rfl) (Gb (PW.pt (Gm (Bp De (Bl Cs (by rfl) T.Fy Eg (Ax (pv 6) AA)) AH (Bw _)) (Fv (Bp De (Cp CM (pv 6) AH (λ_ _=>rfl)) AQ (Bw _))))) (AW b (G.mono Aa) (T.d2 33 rfl λ_ _ _ _ _ _ _ _=>rfl) (Ax (pv 5) (Ax (Cp CM (pv 6) AH (λ_ _=>rfl)) AA))) CO))
   (AV (BH (Bp Kq (pv 7) CO (Bw _)) (AD (AN CO))
    Bd)
   (AD (AN (DF ⟨T.Ju,T.FR,T.FQ,T.Jt⟩ (Fo T) F rfl T.GY (Kw T) .nil CL (Ax (pv 2) (Ax (pv 3) (Ax (pv 5) (Ax DA (Ax (pv 7) AA)))))))))))))))))),?_⟩
  have a2:=hw;obtain⟨W,rfl,hW,b0,a6⟩:=a2;have hn:=ho.num;have C:p.nam.length<=1000:=AJ (DP ho.nam) Aa;refine Cq (λa H1=>Be H H1/\a=[some (.ref W),some (.bl c),some (.int p.num),none,none,none,none,none]) ?_ ?_
  ·refine⟨_,rfl,W,_,_,_,rfl,rfl,Cj.of hW,GQ,_,rfl,a6 _ (BQ ..),λH1 s1=>⟨s1,?_⟩⟩;rw[NN (by lia)];rfl
  rintro a H1 ⟨s1,rfl⟩;refine⟨_,rfl,_,Ko p,1,rfl,hw.same s1,?_⟩;refine Cq (λa H2=>Be H H2/\∃t u,a=[some (.ref W),some (.bl c),some (.int p.num),some (.str p.nam),some (.ref t),none,none,none]/\H2 t=some (.tup [u,.int ((2+ (Cy p.kind).length:Nat):Int)])/\Of H2 p.kind u) ?_ ?_
  ·refine⟨_,rfl,_,Ko p,2,p.kind,Fs p,rfl,hw.same s1,rfl,ho.kind,il p,λu H2 s2 D=>?_⟩;obtain⟨t,u,rfl,ht,D⟩:=D;exact⟨s1.trans s2,t,u,rfl,ht,D⟩
  rintro a H2 ⟨s2,t,u,rfl,ht,D⟩;refine Cq (λa H3=>Be H2 H3/\a=[some (.ref W),some (.bl c),some (.int p.num),some (.str p.nam),some (.ref t),none,none,none]) ?_ ?_
  ·refine⟨_,rfl,rfl,_,rfl,Dk (λz=>by cases z) ⟨_,rfl,_,.str p.nam,rfl,⟨rfl,C⟩,λH3 R=>⟨_,rfl,?_⟩⟩⟩;rw[show EH (.str p.nam)=true from ho.nam];exact Ch ⟨_,rfl,rfl,_,rfl,Dk (λz=>by cases z) ⟨R,rfl⟩⟩
  rintro a H3 ⟨R,rfl⟩;have O:=s2.trans R;have U:=R _ _ ht;refine⟨_,rfl,t,_,_,_,rfl,rfl,DW.of U,GQ,?_⟩;refine Cq (λa M=>Be H3 M/\∃L,a=[some (.ref W),some (.bl c),some (.int p.num),some (.str p.nam),some (.ref t),some u,some (.ref L),none]/\M L=some (.lst ((Fs p).map V.str))) ?_ ?_
  ·refine⟨_,rfl,_,rfl,t,_,_,_,rfl,rfl,DW.of U,Zl,_,rfl,W,_,rfl,Cj.of (O _ _ hW),λL r=>⟨By r,L,rfl,?_⟩⟩;rw[AC,Qv rfl,<-List.map_drop,ja]
  rintro a M ⟨s4,L,rfl,r⟩;have N:=O.trans s4;have B:Of M p.kind u:=D.sm (Sm.of (R.trans s4));have done:∀{J:Hp},Be M J->∀v H',Be J H'->QH J H' p.fx v->Q v H':=λn v H' s' h'=>q v H' ((N.trans n).trans s') (h'.back (N.trans n));rcases LG ho with⟨e,hm,hd⟩|⟨e,hm,hd⟩|⟨e,hm,hd⟩
  ·rw[e]at r;exact⟨_,rfl,L,_,rfl,.inl (Cj.of r),rfl,_,rfl,HR rfl ⟨_,rfl,_,rfl,_,rfl,λx dx hx o hne=>LU (f:=p.fx) (d:=.non) hx o hne ho.kind.fine.may rfl ⟨rfl,C⟩ B (show V.bl false=V.bl p.must by rw[hm]) rfl hd (done (Be.refl _))⟩⟩
  ·rw[e]at r;obtain rfl:c=false:=by
    cases c with
    |false=>rfl
    |true=>rw[hc rfl]at e;cases e
   refine⟨_,rfl,L,_,rfl,.inl (Cj.of r),rfl,_,rfl,Dk (λz=>by cases z) ⟨_,rfl,false,rfl,Ch ?_⟩⟩;refine Cq (λ_ _=>False) ?_ (λ_ _ h=>h.elim);refine⟨_,rfl,zl 1,λl hl=>?_⟩;have n:=By (u:=.lst [.str "must"]) hl;have ss:=En (ys:=["must"]) λy hy=>by rw[AM.mp hy];exact Do _
   refine⟨_,_,.lst (Cj.of (n _ _ r)) (Ef ["must"]),.lst (Cj.of AC) (Ef ["must"]),ss,ss,_,rfl,?_⟩;rw[ky];exact HR rfl ⟨_,rfl,_,rfl,_,rfl,λx dx hx o hne=>LU (f:=p.fx) (d:=.non) hx o hne ho.kind.fine.may rfl ⟨rfl,C⟩ (B.sm (Sm.of n)) (show V.bl true=V.bl p.must by rw[hm]) rfl hd (done n)⟩
  ·have S:=iZ ho;rw[e]at r S;obtain rfl:c=false:=by
    cases c with
    |false=>rfl
    |true=>rw[hc rfl]at e;cases e
   refine⟨_,rfl,L,_,rfl,.inl (Cj.of r),rfl,_,rfl,Dk (λz=>by cases z) ⟨_,rfl,false,rfl,Ch ?_⟩⟩;refine Cq (λa J=>Be M J/\a=[some (.ref W),some (.bl false),some (.int p.num),some (.str p.nam),some (.ref t),some u,some (.ref L),none]) ?_ ?_
   ·refine⟨_,rfl,zl 1,λl hl=>?_⟩;have n:=By (u:=.lst [.str "must"]) hl;refine⟨_,_,.lst (Cj.of (n _ _ r)) (Ef ["=",_]),.lst (Cj.of AC) (Ef ["must"]),En S,En (ys:=["must"]) λy hy=>by rw[AM.mp hy];exact Do _,_,rfl,?_⟩;rw[ky];exact Dk (λz=>by cases z) ⟨n,rfl⟩
   rintro a J ⟨n,rfl⟩;have I:=n _ _ r;refine Cq (λa Z=>Be J Z/\∃Y,a=[some (.ref W),some (.bl false),some (.int p.num),some (.str p.nam),some (.ref t),some u,some (.ref L),some Y]/\Th Z p.dfl Y/\Y≠ .non) ?_ ?_
   ·exact⟨_,rfl,L,_,rfl,.inl (Cj.of I),rfl,_,rfl,HR rfl ⟨_,rfl,L,_,_,_,rfl,rfl,Cj.of I,GQ,rfl,_,rfl,HR rfl ⟨_,rfl,_,rfl,L,_,_,_,rfl,rfl,Cj.of I,Zl,u,p.kind,p.dfl,rfl,B.sm (Sm.of n),ho.kind,hd,λv Z X hv hne=>⟨X,v,rfl,hv,hne⟩⟩⟩⟩
   rintro a Z ⟨X,Y,rfl,a5,hne⟩;exact⟨_,rfl,rfl,_,rfl,Dk hne ⟨_,rfl,_,rfl,_,rfl,_,rfl,λx dx hx o hne=>LU (f:=p.fx) (d:=p.dfl) hx o hne ho.kind.fine.may rfl ⟨rfl,C⟩ (B.sm (Sm.of (n.trans X))) (show V.bl false=V.bl p.must by rw[hm]) a5 hd.own.symm (done (n.trans X))⟩⟩
theorem qN{H:Hp}{L:List AE}(g:∀a∈L,∃xs,H a=some (.lst xs)):∀{k:Kx} {v:V},k.good->Of H k v->Of (rm L H) k v:=by
 have b:∀{a:AE} {C dx:AE} {fs:List (Bc×V)},H a=some (.ins C dx fs)->rm L H a=some (.ins C dx fs):=λ{a C dx fs} h=>Jy (λz=>by obtain⟨xs,e⟩:=g a z;rw[h]at e;cases e) h;intro k;induction k with
 |truth=>intro v _ h;obtain⟨a,dx,e,h⟩:=h;exact⟨a,dx,e,b h⟩
 |count=>intro v _ h;obtain⟨a,dx,e,h⟩:=h;exact⟨a,dx,e,b h⟩
 |whole=>intro v _ h;obtain⟨a,dx,e,h⟩:=h;exact⟨a,dx,e,b h⟩
 |upto d=>intro v c h;obtain⟨n,rfl,_⟩:=c;obtain⟨a,dx,u,e,h,r⟩:=h;exact⟨a,dx,u,e,b h,r⟩
 |text d=>intro v c h;obtain⟨n,rfl,_⟩:=c;obtain⟨a,dx,u,e,h,r⟩:=h;exact⟨a,dx,u,e,b h,r⟩
 |form d=>intro v c h;obtain⟨n,rfl,_⟩:=c;obtain⟨a,dx,u,e,h,r⟩:=h;exact⟨a,dx,u,e,b h,r⟩
 |list k f=>intro v c h;obtain⟨a,dx,u,e,h,r⟩:=h;exact⟨a,dx,u,e,b h,f c.2 r⟩
 |bare=>intro v c;exact c.elim
 |thing d=>intro v c;exact c.elim
theorem qG{H0 H:Hp}{L:List AE}(g:∀a∈L,∃xs,H0 a=some (.lst xs)){p:Pf}(ho:p.Ok){d:V}(h:Th H p.dfl d)(hf:Fl H0 d):Th (rm L H) p.dfl d:=by
 rcases ho.dfl with e|⟨_,_,hd⟩
 ·rw[e]at h ⊢;cases c:p.kind with
  |list k=>
   rw[c]at h;obtain⟨a,xs,rfl,ha,hx,f⟩:=h;refine⟨a,xs,rfl,Jy (λz=>?_) ha,hx,f⟩;obtain⟨ys,e⟩:=g a z;exact hf a rfl ys e
  |_=>rw[c]at h;exact h
 ·rcases hd.dw with⟨b,e⟩|⟨z,e,_⟩|⟨i,e,_⟩ <;> (rw[e]at h ⊢;exact h)
theorem nV{H0 H:Hp}{L:List AE}(c:∀a∈L,∃xs,H0 a=some (.lst xs))(s:Be H0 H){p:Pf}(ho:p.Ok){v:V}(h:QH H0 H p.fx v):Ms (rm L H) p.fx v:=by
 obtain⟨a,dx,n,z,k,m,d,e,h,h1,h2,h3,i,g,f⟩:=h;have b:∀a∈L,∃xs,H a=some (.lst xs):=λa z=>let ⟨xs,e⟩:=c a z;⟨xs,s _ _ e⟩;exact⟨a,dx,n,z,k,m,d,e,Jy (λz=>by obtain⟨xs,e⟩:=b a z;rw[h]at e;cases e) h,h1,h2,qN b ho.kind h3,i,qG c ho g f⟩
def tH(g:Pg)(fl gl:AE):List (Bc×V):=[("choice",.bl g.choice),("name",.str g.nam),("fields",.ref fl),("gone",.ref gl)]
def WK(H:Hp)(g:Pg)(a:AE):Prop:=∃dx fl gl xs,H a=some (.ins 863 dx (tH g fl gl))/\H fl=some (.lst xs)/\Paired (λp x=>Ms H (Pf.fx p) x) g.fields xs/\H gl=some (.lst (g.gone.map V.int))
theorem WK.same{H H':Hp}(s:Be H H'){g:Pg}{a:AE}(h:WK H g a):WK H' g a:=by
 obtain⟨dx,fl,gl,xs,h1,h2,h3,b⟩:=h;exact⟨dx,fl,gl,xs,s _ _ h1,s _ _ h2,L2.Paired.imp' (λ_ _ z=>Ms.sf (Sm.of s).sf z) h3,s _ _ b⟩
inductive lq(H0:Hp)(dl:AE)(H:Hp)(ini:List Pg)(g:Pg)(a:AE):Prop
 |mk {as:List AE} {fl gl dx:AE} {xs:List V} (s:Be H0 H) (h0:H0 dl=none) (h1:H0 fl=none) (h2:H0 gl=none) (n1:dl≠fl) (n2:dl≠gl) (n3:fl≠gl) (hd:H dl=some (.lst ((as++[a]).map V.ref))) (hp:Paired (WK (rm [dl,fl,gl] H)) ini as) (ha:rm [dl,fl,gl] H a=some (.ins 863 dx (tH g fl gl))) (hf:H fl=some (.lst xs)) (hx:Paired (λp x=>Ms (rm [dl,fl,gl] H) (Pf.fx p) x) g.fields xs) (hg:H gl=some (.lst (g.gone.map V.int))):lq H0 dl H ini g a
inductive Dr(H0:Hp)(dl:AE)(H:Hp):List Pg->Option Pg->Prop
 |nil (s:Be H0 H) (h0:H0 dl=none) (hd:H dl=some (.lst [])):Dr H0 dl H [] none
 |cur {ini:List Pg} {g:Pg} {a:AE} (h:lq H0 dl H ini g a):Dr H0 dl H ini (some g)
theorem lq.same{H0 H:Hp}{dl a:AE}{ini:List Pg}{g:Pg}(h:lq H0 dl H ini g a){H':Hp}(s:Be H H'):lq H0 dl H' ini g a:=by
 obtain⟨b,h0,h1,h2,n1,n2,n3,hd,hp,ha,hf,hx,hg⟩:=h;exact .mk (b.trans s) h0 h1 h2 n1 n2 n3 (s _ _ hd) (L2.Paired.imp' (λ_ _ z=>z.same (Ka s)) hp) (Ka s _ _ ha) (s _ _ hf) (L2.Paired.imp' (λ_ _ z=>Ms.sf (Sm.of (Ka s)).sf z) hx) (s _ _ hg)
theorem Dr.same{H0 H:Hp}{dl:AE}{ini:List Pg}{o:Option Pg}(h:Dr H0 dl H ini o){H':Hp}(s:Be H H'):Dr H0 dl H' ini o:=by
 cases h with
 |nil a h0 hd=>exact .nil (a.trans s) h0 (s _ _ hd)
 |cur h=>exact .cur (h.same s)
inductive hV:List Pg->Option Pg->List Bc->List Pg->Option Pg->Prop
 |head {ini:List Pg} {o:Option Pg} {c:Bool} {z:Bc} (hz:Fa z=true) (hn:ini.length<=20):hV ini o [if c then "choice" else "record",z] (ini++o.toList) (some ⟨z,c,[],[]⟩)
 |field {ini:List Pg} {g:Pg} {p:Pf} (ho:p.Ok) (hc:g.choice=true->Fs p=[]) (hn:g.fields.length<=20):hV ini (some g) (Ko p) ini (some {g with fields:=g.fields++[p]})
 |gone {ini:List Pg} {g:Pg} {ns:List Int} (hg:g.gone=[]) (hne:ns≠[]) (hn:ns.length<=20) (hb:∀n∈ns,1<=n/\n<=200):hV ini (some g) ("gone" ::ns.map toS) ini (some {g with gone:=ns})
def iK:Sp:=λvs H Q _=>∃x dx c z,vs=[.ref x,.bl c,.str z]/\H x=some (.ins 863 dx [])/\∀fl gl H',fl≠gl->H fl=none->H gl=none->tP x H H'->H' x=some (.ins 863 dx (tH ⟨z,c,[],[]⟩ fl gl))->H' fl=some (.lst [])->H' gl=some (.lst [])->Q .non H'
theorem WE(T:Tx K mg):HL.Et P w K mg base 1 841 ["self","choice","name"] iK:=by
 refine(T.mf 36 rfl).ok We (λvs H Q E h=>?_) (λcdv A outer s H vs Q E i h=>?_)
 ·obtain⟨x,dx,c,z,rfl,_⟩:=h;rfl
 ·obtain⟨x,dx,c,z,rfl,hx,q⟩:=h;refine⟨_,AV (Gn (pv 0) (pv 1) rfl) (AV (Gn (pv 0) (pv 2) rfl) (AV (Gn (pv 0) (CP AA) rfl) (AD (Gn (pv 0) (CP AA) rfl)))),?_⟩;refine⟨_,rfl,_,rfl,x,_,dx,_,rfl,hx,T.Em,T.Js,Aa,?_⟩;refine⟨_,rfl,_,rfl,x,_,dx,_,rfl,AC,T.Em,T.Lu,by show 1<1000;decide,?_⟩;rw[Iv];refine⟨zl 0,λfl a=>?_⟩;have f:x≠fl:=λe=>by rw[<-e,AC]at a;cases a
  rw[Bb (CI f)]at a;refine⟨_,rfl,x,_,dx,_,rfl,by rw[Bb f];exact AC,T.Em,T.HJ,by show 2<1000;decide,?_⟩;refine⟨zl 0,λgl hgl=>?_⟩;have d:x≠gl:=λe=>by rw[<-e,AC]at hgl;cases hgl
  rw[Bb (CI d)]at hgl;have g:fl≠gl:=λe=>by rw[<-e,AC]at hgl;cases hgl
  rw[Bb (CI g),Bb (CI d)]at hgl;refine⟨_,rfl,x,_,dx,_,rfl,by rw[Bb d];exact AC,T.Em,T.Jc,by show 3<1000;decide,?_⟩;refine q fl gl _ g a hgl (λb o hb e=>?_) AC ?_ ?_
  ·rw[Bb hb,Bb (Bt e hgl),Bb hb,Bb (Bt e a),Bb hb];exact e
  ·rw[Bb (CI f),Bb g,Bb (CI f),AC]
  ·rw[Bb (CI d),AC]
theorem bS{n:Int}(h:n.natAbs<2 ^ 256){z:Bc}(hz:Ks z= .non):¬V.str (toS n)=V.str z:=λe=>by
 rw[<-V.str.inj e,NN h]at hz;cases hz
theorem pW: ((["word"]:List Bc) ++ ([]:List Bc)).Nodup:=by decide+kernel
theorem ng(ns:List Int):Vn .non (ns.map V.int)=false:=by
 unfold Vn;rw[Mz];intro x hx e;obtain⟨y,a,rfl⟩:=Bg.mp hx;cases e
theorem Xw(ns:List Int): (ns.map V.int).all Nr=true:=by
 rw[BM];intro x hx;obtain⟨y,_,rfl⟩:=Bg.mp hx;rfl
def Vx:Sp:=λvs H Q _=>∃H0 dl ini g a nl ns,vs=[.ref a,.ref nl]/\lq H0 dl H ini g a/\H nl=some (.lst (JL V.int ns))/\g.gone=[]/\ns≠[]/\ns.length<=20/\∀H',lq H0 dl H' ini {g with gone:=ns} a->Q (.bl true) H'
theorem Wl(T:Tx K mg):HL.Et P w K mg base 1 860 ["self","numbers"] Vx:=by
 refine(T.mf 39 rfl).ok NY (λvs H Q E h=>?_) (λcdv A outer s H vs Q E j h=>?_)
 ·obtain⟨_,_,_,_,a,nl,ns,rfl,_⟩:=h;rfl
 ·obtain⟨H0,dl,ini,g,a,nl,ns,rfl,f,hn,b,hne,i,q⟩:=h;refine⟨_,AV (BH (PW.pt (GA (Bp De (Bl Cs (by rfl) T.Fy Eg (Ax (pv 1) AA)) AH (Bw _)) (FS (Bp Lg CO (pv 1) rfl)))) (AD (AN DA))
    Bd)
   (AV (EX (Gr BO MF ME Rt (BF (pv 0) rfl) (Ax (pv 1) AA)))
   (AD (AN DA))),?_⟩
  obtain @⟨as,fl,gl,dx,xs,d,h0,h1,h2,n1,n2,n3,hd,hp,ha,hf,hx,hg⟩:=f;have e:¬V.int ((ns.map V.int).length:Int)=V.int 0:=λz=>by
   have:=V.int.inj z;rw[Ay]at this;exact hne (XZ (by lia))
  refine⟨_,rfl,nl,_,rfl,.inl (Cj.of hn),rfl,_,rfl,Dk e ⟨_,rfl,nl,_,rfl,.inl (Cj.of hn),rfl,Xw ns,_,rfl,?_⟩⟩;rw[ng];refine Ch ⟨_,rfl,a,_,dx,_,_,rfl,(Ix ha).2,T.Em,T.Jc,rfl,.inl ⟨rfl,_,Cj.of hg⟩,_,rfl,gl,nl,_,_,rfl,rfl,hg,hn,?_,?_⟩
  ·rw[b];exact FN (by rw[Ay,Ay,OU];lia)
  ·have c:Be (rm [dl,fl,gl] H) (rm [dl,fl,gl] (upd H gl (.lst (JL V.int g.gone++JL V.int ns)))):=Ro (by simp);refine q _ (.mk (d.put h2) h0 h1 h2 n1 n2 n3 (by rw[Bb n2];exact hd) (L2.Paired.imp' (λ_ _ z=>z.same c) hp) (c _ _ ha) (by rw[Bb n3];exact hf) (L2.Paired.imp' (λ_ _ z=>Ms.sf (Sm.of c).sf z) hx) ?_);rw[AC,b];rfl
def Tw:Sp:=λvs H Q _=>∃H0 dl ini g a v,vs=[.ref a,v]/\lq H0 dl H ini g a/\((∃p,Ws H (Ko p) v/\p.Ok/\(g.choice=true->Fs p=[])/\g.fields.length<=20/\∀H',lq H0 dl H' ini {g with fields:=g.fields++[p]} a->Q (.bl true) H')\/
  ∃ns,Ws H ("gone" ::ns.map toS) v/\g.gone=[]/\ns≠[]/\ns.length<=20/\(∀n∈ns,1<=n/\n<=200)/\∀H',lq H0 dl H' ini {g with gone:=ns} a->Q (.bl true) H')
theorem Uh(T:Tx K mg)(Y:KD P w K 73 bR):HL.Et P w K mg base 7 853 ["self","words"] Tw:=by
 have c:=@Jh P w K mg base T;have d:=@ay P w K mg base T Y;refine(T.mf 38 rfl).ok IF (λvs H Q E h=>?_) (λcdv A outer s H vs Q E G h=>?_)
 ·obtain⟨_,_,_,_,a,v,rfl,_⟩:=h;rfl
 ·obtain⟨H0,dl,ini,g,a,v,rfl,N,h⟩:=h;refine⟨_,AV (BH (Bp De (Cp CM (pv 1) AH (λ_ _=>rfl)) AQ (Bw _)) (AD (AN (Te (pv 0) T.Em (T.me 53 39 rfl rfl) (Wl T) (G.mono Aa) (HL.b2 (T.mf 39 rfl) λ_ _ _ _ _ _ _ _=>rfl) .nil CL (Ax (CJ (ts:=["word"]) (xs:=[]) (js:=[]) rfl ⟨rfl,rfl,Ab,Ab,CZ rfl⟩ .nil Ab (CU (Hb Yu (pv 1) (Iy AH) Iz)) (λC s_ H_ fp=>Cb (X:=Di _ _ _ C s_ H_ fp) (i:=0) pW rfl (Bn rfl) (Cw rfl)) (λC s_ H_ fp=>CT (X:=Di _ _ _ C s_ H_ fp)) (λC s_ H_ fp=>AW (X:=Di _ _ _ C s_ H_ fp) c (G.mono Aa) T.Je (Ax (pv 0) AA))) AA))))
    Bd)
   (AV (BV (i:=2) IF.nd rfl (Bn rfl) (AW d (G.mono Aa) (T.d2 34 rfl λ_ _ _ _ _ _ _ _=>rfl) (Ax (pv 1) (Ax (BF (pv 0) rfl) AA))))
   (AV (BH (Bp Kq (pv 2) CO (Bw _)) (AD (AN DA))
    Bd)
   (AV (EX (Gr BO Cn Cm EF (BF (pv 0) rfl) (Ax (pv 2) AA)))
   (AD (AN DA))))),?_⟩
  rcases h with⟨p,hw,ho,hc,r,q⟩|⟨ns,hw,L,hne,r,hb,q⟩
  ·have y:=hw;obtain⟨W,rfl,hW,_,_⟩:=y;have hn:=ho.num;obtain @⟨as,fl,gl,dx,xs,O,h0,h1,h2,n1,n2,n3,hd,hp,ha,hf,hx,hg⟩:=N;have f:=(Ix ha).2;refine⟨_,rfl,W,_,_,_,rfl,rfl,Cj.of hW,GQ,rfl,_,rfl,Dk (bS (by lia) Ab) ?_⟩;refine⟨_,rfl,_,rfl,a,_,dx,_,_,rfl,f,T.Em,T.Js,rfl,_,p,g.choice,rfl,hw,ho,hc,λu H1 s1 S=>?_⟩;have J:u≠ .non:=λz=>by obtain⟨_,_,_,_,_,_,_,e,_⟩:=S;rw[z]at e;cases e
   have hL:∀b∈ [dl,fl,gl],∃xs,H b=some (.lst xs):=λb hb=>by
    simp only[AU,BL,or_false]at hb;rcases hb with rfl|rfl|rfl
    ·exact⟨_,hd⟩
    ·exact⟨_,hf⟩
    ·exact⟨_,hg⟩
   have B:=nV hL s1 ho S;refine⟨_,rfl,rfl,_,rfl,Dk J ⟨_,rfl,a,_,dx,_,_,rfl,s1 _ _ f,T.Em,T.HJ,rfl,.inl ⟨rfl,_,Cj.of (s1 _ _ hf)⟩,_,rfl,fl,xs,u,rfl,rfl,s1 _ _ hf,?_,?_⟩⟩
   ·rw[<-hx.length];exact DC (by lia)
   ·have t:Be (rm [dl,fl,gl] H) (rm [dl,fl,gl] (upd H1 fl (.lst (xs++[u])))):=(Ka s1).trans (Ro (by simp));refine q _ (.mk ((O.trans s1).put h1) h0 h1 h2 n1 n2 n3 (by rw[Bb n1];exact s1 _ _ hd) (L2.Paired.imp' (λ_ _ z=>z.same t) hp) (t _ _ ha) AC ?_ (by rw[Bb (CI n3)];exact s1 _ _ hg));exact Nb (L2.Paired.imp' (λ_ _ z=>Ms.sf (Sm.of t).sf z) hx) (.cons (Ms.sf (Sm.of (Ro (by simp))).sf B) .nil)
  ·obtain⟨W,rfl,hW,_,M⟩:=hw;refine⟨_,rfl,W,_,_,_,rfl,rfl,Cj.of hW,GQ,rfl,_,rfl,HR rfl ?_⟩;have o:=N;obtain @⟨as,fl,gl,dx,xs,O,h0,h1,h2,n1,n2,n3,hd,hp,ha,hf,hx,hg⟩:=o;have f:=(Ix ha).2;refine⟨_,rfl,a,dx,_,rfl,f,rfl,_,rfl,_,rfl,W,_,rfl,Cj.of hW,λp I=>?_⟩;have ec:UO (("gone" ::ns.map toS:List Bc).map V.str) (some 1) none=(ns.map toS).map V.str:=Qv (k:=1) rfl;rw[ec];have s1:=By (u:=.lst ((ns.map toS).map V.str)) I;have m:ns.length=((ns.map toS).map V.str).length:=by rw[Ay,Ay]
   refine⟨p,rfl,⟨_,Cj.of AC⟩,JF (l:=ns) (Wk.list (Cj.of AC)) m (by rw[<-m];lia) V.int (λj n x hn hx H2 R s2 Z=>?_) (λD H2 o s2 e2=>?_)⟩
   ·rw[Bi,AT,hn]at hx;cases hx;refine⟨Sub.set rfl,_,rfl,_,rfl,M _ (BG _ (Bg.mpr ⟨n,AY hn,rfl⟩)),λH3 U=>?_⟩;rw[NN (by have:=hb n (AY hn);lia)];exact Z _ U
   ·exact⟨H0,dl,ini,g,a,D,ns,rfl,N.same (s1.trans s2),e2,L,hne,r,q⟩
def Wd(y:Bc):Prop:=y≠ "" /\32∉sg y
theorem Pz{z:Bc}(h:Fa z=true):Wd z:=by
 refine⟨λe=>?_,λhc=>?_⟩
 ·rw[e]at h;exact wo h Ab
 ·have:=eR h 32 hc;lia
theorem Ts(n:Int):Wd (toS n):=by
 have e:sg (toS n)=_:=cz n;have hd:=ac n.natAbs;refine⟨λz=>?_,λhc=>?_⟩
 ·rw[z]at e;have: (Ie n.natAbs).reverse=[]:=by
   cases a: (Ie n.natAbs).reverse with
   |nil=>rfl
   |cons x r=>rw[a]at e;exact wo (wn QQ e) (by split <;> simp[show(sg "").length=0 by decide+kernel])
  exact YG _ (NE.mp this)
 ·rw[e]at hc;rcases BZ.mp hc with h|h
  ·split at h
   ·rw[AM]at h;cases h
   ·cases h
  ·have:=hd 32 (WO.mp h);revert this;decide
theorem ie{k:Kx}(b:k.good):∀y∈Cy k,Wd y:=by
 have one:∀(s:Bc),Wd s->∀y∈ [s],Wd y:=λs h y a=>by rw[AM.mp a];exact h
 have two:∀(s t:Bc),Wd s->Wd t->∀y∈ [s,t],Wd y:=λs t h1 h2 y a=>by
  rcases AU.mp a with rfl|a
  ·exact h1
  ·rw[AM.mp a];exact h2
 induction k with
 |truth=>exact one _ ⟨Ab,Ab⟩
 |count=>exact one _ ⟨Ab,Ab⟩
 |whole=>exact one _ ⟨Ab,Ab⟩
 |upto d=>obtain⟨n,rfl,_⟩:=b;exact two _ _ ⟨Ab,Ab⟩ (Ts n)
 |text d=>
  obtain⟨n,rfl,_⟩:=b;unfold Cy;split
  ·exact one _ ⟨Ab,Ab⟩
  ·exact two _ _ ⟨Ab,Ab⟩ (Ts n)
 |form d=>obtain⟨z,rfl,h⟩:=b;exact two _ _ ⟨Ab,Ab⟩ (Pz h)
 |list k c=>
  intro y a;rcases AU.mp a with rfl|a
  ·exact⟨Ab,Ab⟩
  ·exact c b.2 y a
 |bare=>exact b.elim
 |thing d=>exact b.elim
theorem pd{p:Pf}(ho:p.Ok):∀y∈Ko p,Wd y:=by
 intro y a;rcases BZ.mp a with a|a
 ·rcases BZ.mp a with a|a
  ·rcases AU.mp a with rfl|a
   ·exact Ts _
   ·rw[AM.mp a];exact Pz ho.nam
  ·exact ie ho.kind y a
 ·rcases LG ho with⟨e,_⟩|⟨e,_⟩|⟨e,_,hd⟩ <;> rw[e]at a
  ·cases a
  ·rw[AM.mp a];exact⟨Ab,Ab⟩
  ·rcases AU.mp a with rfl|a
   ·exact⟨Ab,Ab⟩
   ·rw[AM.mp a];rcases hd.dw with⟨b,e⟩|⟨z,e,hz⟩|⟨i,e,_⟩ <;> rw[e]
    ·cases b <;> exact⟨Ab,Ab⟩
    ·exact Pz hz
    ·exact Ts _
theorem IE(ys:List Bc):Eb " " ys=Ec ⟨#[32]⟩ ys:=by
 show Builtin.Str.glued " " ys=_;rw[StrLaws.glued_eq_join,kR]
theorem Ql{ys:List Bc}{n b:Nat}(hn:ys.length<=n)(h:∀y∈ys,y.length<=b)(hb:n*b+n<=1000): (Ec ⟨#[32]⟩ ys).length<=1000:=by
 have h1:=RI ⟨#[32]⟩ ys;have h2:=PH h;have h3:ys.length*b<=n*b:=QP _ hn;have a: (⟨#[32]⟩:Bc).length=1:=rfl;rw[a]at h1
 lia
theorem Ik{n:Int}(h:1<=n/\n<=200): (toS n).length<=3:=by
 have all:∀m:Fin 201,(toS (m.val:Int)).length<=3:=by decide+kernel
 have:=all ⟨n.toNat,by lia⟩;rw[show((n.toNat:Nat):Int)=n by lia]at this;exact this
theorem lJ{ini d:List Pg}{o o':Option Pg}{ys:List Bc}(h:hV ini o ys d o'):ys≠[]/\(∀y∈ys,Wd y)/\ys.length<=1000/\(Ec ⟨#[32]⟩ ys).length<=1000/\∀y∈ys,y.length<=1000:=by
 cases h with
 |@head _ c z hz hn=>
  have hs: (if c then ("choice" :Bc)else "record").length<=6/\Wd (if c then ("choice" :Bc)else "record"):=by cases c <;> exact⟨Ab,Ab,Ab⟩
  have b:∀y∈ [if c then ("choice" :Bc)else "record",z],y.length<=12:=λy a=>by
   rcases AU.mp a with rfl|a
   ·exact AJ hs.1 Aa
   ·rw[AM.mp a];exact DP hz
  refine⟨(λz=>by cases z),λy a=>?_,by show 2<=1000;decide,Ql (n:=2) (AX 2) b Aa,λy a=>AJ (b y a) Aa⟩;rcases AU.mp a with rfl|a
  ·exact hs.2
  ·rw[AM.mp a];exact Pz hz
 |@field g p ho hc hn=>
  have b:=eK ho;exact⟨(λz=>by cases z),pd ho,AJ b.1 Aa,Ql b.1 b.2 Aa,λy a=>AJ (b.2 y a) Aa⟩
 |@gone g ns hg hne hn hb=>
  have b:∀y∈ ("gone" ::ns.map toS:List Bc),y.length<=4:=λy a=>by
   rcases AU.mp a with rfl|a
   ·decide+kernel
   ·obtain⟨n,h,rfl⟩:=Bg.mp a;exact AJ (Ik (hb n h)) Aa
  have e: ("gone" ::ns.map toS:List Bc).length<=21:=by rw[Cd,Ay];lia
  refine⟨(λz=>by cases z),λy a=>?_,AJ e Aa,Ql e b Aa,λy a=>AJ (b y a) Aa⟩;rcases AU.mp a with rfl|a
  ·exact⟨Ab,Ab⟩
  ·obtain⟨n,_,rfl⟩:=Bg.mp a;exact Ts n
theorem Dr.begin{H0 H H':Hp}{dl x dx fl gl:AE}{ini:List Pg}{o:Option Pg}{c:Bool}{z:Bc}(h:Dr H0 dl H ini o)(s:Be H H')(hx:H x=none)(l:H fl=none)(hgl:H gl=none)(t:x≠fl)(r:x≠gl)(v:fl≠gl)(ex:H' x=some (.ins 863 dx (tH ⟨z,c,[],[]⟩ fl gl)))(C:H' fl=some (.lst []))(B:H' gl=some (.lst [])):
  ∃as:List AE,H' dl=some (.lst (as.map V.ref))/\as.length=(ini++o.toList).length/\Dr H0 dl (upd H' dl (.lst ((as++[x]).map V.ref))) (ini++o.toList) (some ⟨z,c,[],[]⟩):=by
 have fresh:∀{b:AE} {u:HO},H b=some u->b≠x/\b≠fl/\b≠gl:=λe=>⟨Bt e hx,Bt e l,Bt e hgl⟩;have fin:∀{as:List AE} {gs:List Pg},Be H0 H->H0 dl=none->H dl=some (.lst (as.map V.ref))->Paired (WK (rm [dl,fl,gl] (upd H' dl (.lst ((as++[x]).map V.ref))))) gs as->Dr H0 dl (upd H' dl (.lst ((as++[x]).map V.ref))) gs (some ⟨z,c,[],[]⟩):=λ{as gs} d h0 hd hp=>by
  obtain⟨k,j,i⟩:=fresh hd;refine .cur (.mk (as:=as) (fl:=fl) (gl:=gl) (dx:=dx) (xs:=[]) ((d.trans s).put h0) h0 (d.free l) (d.free hgl) j i v AC hp (Jy ?_ (by rw[Bb (CI k)];exact ex)) (by rw[Bb (CI j)];exact C) .nil (by rw[Bb (CI i)];exact B));simp only[AU,BL,or_false,not_or];exact⟨CI k,t,r⟩
 cases h with
 |nil d h0 hd=>exact⟨[],s _ _ hd,rfl,fin (as:=[]) d h0 hd .nil⟩
 |@cur _ g a h=>
  obtain @⟨as,n,m,A,xs,d,h0,h1,h2,n1,n2,n3,hd,hp,ha,hf,hx,hg⟩:=h;have q:Be (rm [dl,n,m] H) (rm [dl,fl,gl] (upd H' dl (.lst ((as++[a] ++[x]).map V.ref)))):=λb u e=>by
   obtain⟨f,e⟩:=Ix e;simp only[AU,BL,or_false,not_or]at f;obtain⟨_,y,w⟩:=fresh e;refine Jy ?_ (by rw[Bb f.1];exact s _ _ e);simp only[AU,BL,or_false,not_or];exact⟨f.1,y,w⟩
  have p:∀{b:AE} {u:HO},dl≠b->H b=some u->rm [dl,fl,gl] (upd H' dl (.lst ((as++[a] ++[x]).map V.ref))) b=some u:=λ{b u} f e=>by
   obtain⟨_,y,w⟩:=fresh e;refine Jy ?_ (by rw[Bb (CI f)];exact s _ _ e);simp only[AU,BL,or_false,not_or];exact⟨CI f,y,w⟩
  refine⟨as++[a],s _ _ hd,by rw[AZ,AZ,hp.length];rfl,fin d h0 hd ?_⟩;exact Nb (L2.Paired.imp' (λ_ _ z=>z.same q) hp) (.cons ⟨A,n,m,xs,q _ _ ha,p n1 hf,L2.Paired.imp' (λ_ _ z=>Ms.sf (Sm.of q).sf z) hx,p n2 hg⟩ .nil)
def Vw:Sp:=λvs H Q _=>∃H0 dl ini o ys a o',vs=[.ref dl,.str (Ec ⟨#[32]⟩ ys)]/\Dr H0 dl H ini o/\hV ini o ys a o'/\∀H',Dr H0 dl H' a o'->Q (.bl true) H'
theorem Wj(T:Tx K mg)(Y:KD P w K 73 bR):HL.Et P w K mg base 8 874 ["drafts","line"] Vw:=by
 have f:=@ao P w K mg base T;have j:=@GG P w K mg base T;refine(T.df 35 rfl).ok Ow (λvs H Q E h=>?_) (λcdv A outer s H vs Q E D h=>?_)
 ·obtain⟨_,dl,_,_,line,_,_,rfl,_⟩:=h;rfl
 ·obtain⟨H0,dl,ini,o,ys,O,o',rfl,Z,R,q⟩:=h;have Pe:FD (1+1) _:=D.mono (by lia);refine⟨_,Bh (BV (i:=2) Ow.nd rfl (Bn rfl) (AW f (D.mono Aa) (T.d1 8 rfl λ_ _ _ _ _ _ _=>rfl) (Ax (pv 1) AA))) (AV (BH (Bp Kq (pv 2) CO (Bw _)) (AD (AN DA))
    Bd)
   (Bh (BH (PW.pt (Gm (Bp Ih (Cp CM (pv 2) AH (λ_ _=>rfl)) AQ (Bw _)) (Fv (Bp Ih (Cp CM (pv 2) AH (λ_ _=>rfl)) AQ (Bw _))))) (AD (AN (Io (EY Uf (Bl Cs (by rfl) T.Fy Eg (Ax (pv 0) AA)) AH (Bw _)) (Im (Te (Cp CM (pv 0) (PX Lz AH) (λ_ _=>rfl)) T.Em (T.me 52 38 rfl rfl) (Uh T Y) (D.mono Aa) (HL.b2 (T.mf 38 rfl) λ_ _ _ _ _ _ _ _=>rfl) .nil CL (Ax (pv 2) AA))))))
    Bd)
   (Bh (BH (PW.pt (GA (Bp Ih (Bl Cs (by rfl) T.Fy Eg (Ax (pv 2) AA)) AH (Bw _)) (FS (CK (BI (AW j (D.mono Aa) T.Gw (Ax (Cp CM (pv 2) AH (λ_ _=>rfl)) AA))))))) (AD (AN DA))
    Bd)
   (AV (EX (Gr BO Cn Cm EF (pv 0) (Ax (DF ⟨((T.mks 11 rfl).1),(T.fnd 50 rfl),((T.mB2 36 rfl).2),((T.mks 11 rfl).2)⟩ (WE T) Pe rfl (T.mc 12 rfl) (HL.b3 (T.mf 36 rfl) λ_ _ _ _ _ _ _ _ _=>rfl) .nil CL (Ax (EY De (Cp CM (pv 2) AH (λ_ _=>rfl)) AQ (Bw _)) (Ax (Cp CM (pv 2) AH (λ_ _=>rfl)) AA))) AA)))
   (AD (AN DA)))))),?_⟩
  obtain⟨k1,k2,k3,U,k5⟩:=lJ R;refine Cq (λd H1=>Dr H0 dl H1 ini o/\∃W,d=[some (.ref dl),some (.str (Ec ⟨#[32]⟩ ys)),some (.ref W)]/\H1 W=some (.lst (ys.map V.str))) ?_ ?_
  ·exact⟨_,rfl,_,ys,rfl,rfl,U,k3,k1,k2,λW H1 hW s1 e1=>⟨Z.same s1,W,rfl,e1⟩⟩
  rintro d H1 ⟨n,W,rfl,hW⟩;have r:Ws H1 ys (.ref W):=⟨W,rfl,hW,k3,k5⟩;refine⟨_,rfl,rfl,_,rfl,Dk (λz=>by cases z) ?_⟩;have last:∀{a:AE} {g:Pg},lq H0 dl H1 ini g a->∃as dx fs,H1 dl=some (.lst ((as++[a]).map V.ref))/\XM ((as++[a]).map V.ref) (-1)=some (.ref a)/\H1 a=some (.ins 863 dx fs)/\fs.lookup ("takes_words" :Bc)=none:=λ{a g} h=>by
   obtain @⟨as,fl,gl,dx,xs,s0,h0,h1,h2,n1,n2,n3,hd,hp,ha,hf,hx,hg⟩:=h;refine⟨as,dx,_,hd,?_,(Ix ha).2,rfl⟩;rw[Qk (by rw[Ay,AZ];exact Nat.succ_pos _)];simp
  have pos:∀{as:List AE} {a:AE},decide ((((as++[a]).map V.ref).length:Int) >0)=true:=λ{as a}=>wg (by rw[Ay,AZ,Fm];lia);cases R with
  |@head _ c z hz hn=>
   have J:z.length<=1000:=AJ (DP hz) Aa;have ec:decide (V.str (if c then ("choice" :Bc)else "record")=V.str "choice")=c:=by cases c <;> decide+kernel
   refine Cq (λd H'=>H1=H'/\d=[some (.ref dl),some (.str (Ec ⟨#[32]⟩ [if c then "choice" else "record",z])),some (.ref W)]) ?_ ?_
   ·refine⟨_,rfl,W,_,_,_,rfl,rfl,Cj.of hW,GQ,rfl,_,rfl,?_⟩;cases c with
    |true=>exact dm NK ⟨_,rfl,W,_,_,_,rfl,rfl,Cj.of hW,GQ,rfl,_,rfl,Gc rfl ⟨rfl,rfl⟩⟩
    |false=>exact Gc rfl (Ch ⟨rfl,rfl⟩)
   rintro d H' ⟨rfl,rfl⟩;refine Cq (λd H2=>Be H1 H2/\d=[some (.ref dl),some (.str (Ec ⟨#[32]⟩ [if c then "choice" else "record",z])),some (.ref W)]) ?_ ?_
   ·refine⟨_,rfl,W,_,rfl,.inl (Cj.of hW),rfl,_,rfl,Gc rfl ⟨_,rfl,W,_,_,_,rfl,rfl,Cj.of hW,Zl,_,.str z,rfl,⟨rfl,J⟩,λH2 s2=>⟨_,rfl,?_⟩⟩⟩;rw[show EH (.str z)=true from hz];exact Ch ⟨s2,rfl⟩
   rintro d H2 ⟨s2,rfl⟩;have y:=n.same s2;have t:=s2 _ _ hW;obtain⟨B,N⟩:∃B:List AE,H2 dl=some (.lst (B.map V.ref)):=by
    cases y with
    |nil _ _ hd=>exact⟨[],hd⟩
    |cur h=>obtain @⟨as,_,_,_,_,_,_,_,_,_,_,_,hd,_⟩:=h;exact⟨_,hd⟩
   refine⟨_,rfl,.inl ⟨rfl,_,Cj.of N⟩,_,rfl,W,_,_,_,rfl,rfl,Cj.of t,GQ,rfl,_,rfl,W,_,_,_,rfl,rfl,Cj.of t,Zl,λx dx hx L hne=>?_⟩;rw[ec];refine⟨x,dx,c,z,rfl,AC,λfl gl H3 I l hgl bt ex ef eg=>⟨rfl,?_⟩⟩;have G:Be H2 _:=aK (C:=863) hx L hne;have S:Be H2 H3:=λb u e=>bt b u (Bt e hx) (G b u e);obtain⟨as,M,X,v⟩:=y.begin S hx (G.free l) (G.free hgl) (λz=>by rw[<-z,AC]at l;cases l) (λz=>by rw[<-z,AC]at hgl;cases hgl) I ex ef eg;refine⟨dl,_,_,rfl,rfl,M,?_,q _ ?_⟩
   ·rw[Ay,X,AZ];exact DC (by cases o <;> simp <;> lia)
   ·rw[Ck]at v;exact v
  |@field g p ho hc hn=>
   cases n with
   |@cur _ _ a h=>
    obtain⟨as,dx,fs,hd,m,ha,k⟩:=last h;have hb:=ho.num;refine Cq (λ_ _=>False) ?_ (λ_ _ h=>h.elim);refine⟨_,rfl,W,_,_,_,rfl,rfl,Cj.of hW,GQ,rfl,_,rfl,dm (bS (by lia) Ab) ⟨_,rfl,W,_,_,_,rfl,rfl,Cj.of hW,GQ,rfl,_,rfl,dm (bS (by lia) Ab) ⟨_,rfl,dl,_,rfl,.inl (Cj.of hd),_,_,rfl,rfl,_,rfl,?_⟩⟩⟩;rw[pos];exact CY ⟨_,rfl,_,rfl,dl,_,_,_,rfl,rfl,Cj.of hd,m,a,dx,_,rfl,ha,k,_,rfl,H0,dl,ini,g,a,_,rfl,h,.inl ⟨p,r,ho,hc,hn,λH' h'=>q _ (.cur h')⟩⟩
  |@gone g ns hg hne hn hb=>
   cases n with
   |@cur _ _ a h=>
    obtain⟨as,dx,fs,hd,m,ha,k⟩:=last h;refine Cq (λ_ _=>False) ?_ (λ_ _ h=>h.elim);refine⟨_,rfl,W,_,_,_,rfl,rfl,Cj.of hW,GQ,rfl,_,rfl,dm NK ⟨_,rfl,W,_,_,_,rfl,rfl,Cj.of hW,GQ,rfl,_,rfl,dm NK ⟨_,rfl,dl,_,rfl,.inl (Cj.of hd),_,_,rfl,rfl,_,rfl,?_⟩⟩⟩;rw[pos];exact CY ⟨_,rfl,_,rfl,dl,_,_,_,rfl,rfl,Cj.of hd,m,a,dx,_,rfl,ha,k,_,rfl,H0,dl,ini,g,a,_,rfl,h,.inr ⟨ns,r,hg,hne,hn,hb,λH' h'=>q _ (.cur h')⟩⟩
def iI:Sp:=λvs H Q _=>∃v g,vs=[v]/\Jm H (Pg.gx g) v/\g.Ok/\∀l xs H',Be H H'->H' l=some (.lst xs)->Paired (λp x=>Ms H' (Pf.fx p) x) g.fields xs->Q (.ref l) H'
theorem Nd(T:Tx K mg):HL.Et P w K mg base 1 610 Aq iI:=by
 refine(T.mf 31 rfl).ok NX (λvs H Q E h=>?_) (λcdv A outer s H vs Q E u h=>?_)
 ·obtain⟨v,g,rfl,_⟩:=h;rfl
 ·obtain⟨v,g,rfl,⟨a,dx,z,f,l,rfl,ha,hnm,⟨fl,fs,rfl,k,b⟩,y⟩,ho,q⟩:=h;have m:=IS T g.choice;have b:=Ld b;have c:g.fields.length=fs.length:=b.length;refine⟨_,AV (BH (Bp Kq (BF (pv 0) rfl) CO (Bw _)) (AD (AN (CP AA)))
    Bd)
   (AD (AN (CJ (ts:=Ah) (xs:=[]) (js:=[]) rfl ⟨rfl,rfl,Ab,Ab,CZ rfl⟩ .nil Ab (CU (BF (pv 0) rfl)) (λC s_ H_ fp=>Cb (X:=Di _ _ _ C s_ H_ fp) (i:=0) NO rfl (Bn rfl) (Cw rfl)) (λC s_ H_ fp=>LP (X:=Di _ _ _ C s_ H_ fp) (BI (Bl (BC K rfl) rfl T.Bv Br (Ax (pv 0) (Ax (YK T.GY) AA))))) (λC s_ H_ fp=>pv (X:=Di _ _ _ C s_ H_ fp) 0)))),?_⟩
  refine⟨_,rfl,a,_,dx,_,_,rfl,ha,m.cl,m.n2,rfl,rfl,_,rfl,Dk (λz=>by cases z) ⟨_,rfl,a,_,dx,_,_,rfl,ha,m.cl,m.n2,rfl,fl,rfl,⟨_,Cj.of k⟩,HB (Wk.list (Cj.of k)) (by have:=ho.len;lia) (λ_=>true) (λj=>fs.getD j .non) (λj x hx H2 R s2 h1 _=>?_) (λD H2 B s2 o=>?_)⟩⟩
  ·obtain⟨p,hp⟩:∃p,g.fields[j]?=some p:=⟨_,Az (by rw[c];exact(AO.mp hx).1)⟩;have r:=Hq b j p x hp hx;obtain⟨t,ty,kt⟩:=qj T (e:=.fld p.fx) (ho.fs p (AY hp)).kind.fine.may (show XR H2 (.fld p.fx) x from Ms.sf (Sm.of s2).sf r);have n:=h1 H2 (Be.refl _) rfl;rw[AL,hx]at n;exact⟨Sub.set rfl,_,rfl,x,.ref 555,t,_,_,rfl,ty,rfl,kt,_,rfl,CY ⟨_,rfl,n⟩⟩
  ·rw[RL.mpr (λ_ _=>rfl),Il fs id _ (λi d hd=>by rw[AL,hd];rfl),List.map_id]at o;exact q D fs H2 s2 o (L2.Paired.imp' (λ_ _ z=>Ms.sf (Sm.of s2).sf z) b)
theorem oW(T:Tx K mg)(c:Bool):HF P w K mg base 1 "true_fields" (nG c) iI:=by
 cases c with
 |false=>exact⟨T.KR,_,_,_,(T.me 41 31 rfl rfl),Nd T,T.Jv⟩
 |true=>exact⟨T.KS,_,_,_,(T.me 46 31 rfl rfl),Nd T,T.Jv⟩
def QI{a:Type}(H:Hp)(Q:VK)(R:Hp->a->V->Prop):Option a->Prop
 |some p=>∀u H',Be H H'->R H' p u->Q u H'
 |none=>∀H',Be H H'->Q .non H'
def WZ:Sp:=λvs H Q _=>∃v g n,vs=[v,.int n]/\Jm H (Pg.gx g) v/\g.Ok/\QI H Q (λH p u=>Ms H (Pf.fx p) u) (g.fields.find? λp=>decide (p.num=n))
theorem NR{a:Type}{l:List a}{q:a->Bool}{i:Nat}{x:a}(hx:l[i]?=some x)(h:∀y∈l.take i,q y=false)(c:q x=true):l.find? q=some x:=by
 rw[<-Ja i l,List.find?_append,Gu.mpr (λy b=>by rw[h y b];exact Bj),Option.none_or];have hi:=(AO.mp hx);obtain⟨d,e⟩:=hi;rw[Fu d,e,List.find?_cons_of_pos c]
theorem Rg{b:Type}{l:List b}{q:b->Bool}{i:Nat}{x:b}(hx:l[i]?=some x)(h:∀y∈l.take i,q y=false)(c:q x=false):∀y∈l.take (i+1),q y=false:=λy a=>by
 rw[Gh,hx]at a;rcases BZ.mp a with a|a
 ·exact h y a
 ·rw[AM.mp a];exact c
theorem Sh(T:Tx K mg):HL.Et P w K mg base 2 598 ["self","number"] WZ:=by
 have b:=@Kb P w K mg base T;refine(T.mf 29 rfl).ok Lb (λvs H Q E h=>?_) (λcdv A outer s H vs Q E t h=>?_)
 ·obtain⟨v,g,n,rfl,_⟩:=h;rfl
 ·obtain⟨v,g,n,rfl,hg,ho,q⟩:=h;refine⟨_,AV (BH (CK (BI (AW b (t.mono Aa) T.ID (Ax (pv 1) AA)))) (AD (AN CO))
    Bd)
   (Bh (JA DT rfl (CU (DS (P:=P) (w:=w) (K:=K) (mg:=mg) (base:=base) (k:=1) rfl rfl rfl rfl rfl (pv 0) (t.mono Aa) CL)) (Cb (i:=2) Lb.nd rfl (Bn rfl)) (AD (BH (PW.pt (Gm (BI (AW b (t.mono Aa) T.ID (Ax (BF (pv 2) rfl) AA))) (Fv (Bp De (BF (pv 2) rfl) (pv 1) (Bw _))))) (AD (AN (pv 2)))
      Bd)))
   (AD (AN CO))),?_⟩
  have u:=hg;obtain⟨a,dx,z,f,l,rfl,ha,_⟩:=u;refine⟨_,rfl,_,.int n,rfl,rfl,_,rfl,Ch ?_⟩;refine Cq (λc H'=>Be H H'/\g.fields.find? (λp=>decide (p.num=n))=none) ?_ ?_
  ·refine⟨_,rfl,a,_,dx,_,_,rfl,ha,rfl,oW T g.choice,_,g,rfl,hg,ho,λL xs H1 s1 C hp=>⟨L,rfl,⟨_,Cj.of C⟩,?_⟩⟩;have j:g.fields.length=xs.length:=hp.length;refine Nq (xs:=xs) (λi c H'=>(∃B,c=[some (.ref a),some (.int n),B])/\H1=H'/\∀p∈g.fields.take i,decide (p.num=n)=false) ⟨⟨_,rfl⟩,rfl,λp hp=>by cases hp⟩ (λi c H' _ h=>h.2.1 ▸ Cj.of C) (λi x c H' hx h=>?_) (λc H' h=>?_)
   ·obtain⟨⟨B,rfl⟩,rfl,d⟩:=h;obtain⟨p,m⟩:∃p,g.fields[i]?=some p:=⟨_,Az (by rw[j];exact(AO.mp hx).1)⟩;have D:=Hq hp i p x m hx;have y:=D;obtain⟨F,r,_,_,_,_,_,rfl,o,rfl,_⟩:=y;refine⟨_,rfl,F,_,r,_,_,rfl,o,T.Ce,T.DM,rfl,_,.int p.num,rfl,rfl,true,rfl,CY ⟨_,rfl,F,_,r,_,_,rfl,o,T.Ce,T.DM,rfl,_,rfl,rfl,_,rfl,FT (λh=>?_) (λh=>?_)⟩⟩
    ·have e:p.num=n:=V.int.inj (wj h);rw[NR m d (wg e)]at q;exact⟨_,rfl,q _ _ s1 D⟩
    ·exact⟨⟨_,rfl⟩,rfl,Rg m d (wh λe=>h (wg (wn V.int e)))⟩
   ·obtain⟨_,rfl,d⟩:=h;rw[<-j,Dh]at d;exact⟨s1,Gu.mpr λp hp=>by rw[d p hp];exact Bj⟩
  rintro c H' ⟨s',e⟩;rw[e]at q;exact q _ s'
def WY:Sp:=λvs H Q _=>∃v g d x,vs=[v,x]/\Jm H (Pg.gx g) v/\g.Ok/\Th H d x/\((∃z,d= .str z/\QI H Q (λH p u=>Ms H (Pf.fx p) u) (g.fields.find? λp=>decide (p.nam=z)))\/(YT d=false/\Q .non H))
theorem Sg(T:Tx K mg):HL.Et P w K mg base 2 605 At WY:=by
 refine(T.mf 30 rfl).ok La (λvs H Q E h=>?_) (λcdv A outer s H vs Q E D h=>?_)
 ·obtain⟨v,g,d,x,rfl,_⟩:=h;rfl
 ·obtain⟨v,g,d,x,rfl,hg,ho,hx,q⟩:=h;refine⟨_,AV (BH (CK (BI (Bl (BC K rfl) rfl T.Bv Br (Ax (pv 1) (Ax (QV T.KM Iq) AA))))) (AD (AN CO))
    Bd)
   (Bh (JA DT rfl (CU (DS (P:=P) (w:=w) (K:=K) (mg:=mg) (base:=base) (k:=1) rfl rfl rfl rfl rfl (pv 0) (D.mono Aa) CL)) (Cb (i:=2) La.nd rfl (Bn rfl)) (AD (BH (PW.pt (Gm (BI (Bl (BC K rfl) rfl T.Bv Br (Ax (BF (pv 2) rfl) (Ax (QV T.KM Iq) AA)))) (Fv (Bp De (BF (pv 2) rfl) (pv 1) (Bw _))))) (AD (AN (pv 2)))
      Bd)))
   (AD (AN CO))),?_⟩
  have r:=hg;obtain⟨a,dx,z,f,l,rfl,ha,_⟩:=r;refine⟨_,rfl,_,.ty "str",_,_,_,rfl,hx.ty,rfl,YS T d,_,rfl,?_⟩;rcases q with⟨z,rfl,q⟩|⟨hd,q⟩
  ·obtain⟨rfl,_⟩:=hx;refine Ch ?_;refine Cq (λb H'=>Be H H'/\g.fields.find? (λp=>decide (p.nam=z))=none) ?_ ?_
   ·refine⟨_,rfl,a,_,dx,_,_,rfl,ha,rfl,oW T g.choice,_,g,rfl,hg,ho,λL xs H1 s1 y hp=>⟨L,rfl,⟨_,Cj.of y⟩,?_⟩⟩;have j:g.fields.length=xs.length:=hp.length;refine Nq (xs:=xs) (λi b H'=>(∃u,b=[some (.ref a),some (.str z),u])/\H1=H'/\∀p∈g.fields.take i,decide (p.nam=z)=false) ⟨⟨_,rfl⟩,rfl,λp hp=>by cases hp⟩ (λi b H' _ h=>h.2.1 ▸ Cj.of y) (λi x b H' hx h=>?_) (λb H' h=>?_)
    ·obtain⟨⟨u,rfl⟩,rfl,c⟩:=h;obtain⟨p,m⟩:∃p,g.fields[i]?=some p:=⟨_,Az (by rw[j];exact(AO.mp hx).1)⟩;have B:=Hq hp i p x m hx;have t:=B;obtain⟨C,o,_,_,_,_,_,rfl,n,_,⟨rfl,_⟩,_⟩:=t;refine⟨_,rfl,C,_,o,_,_,rfl,n,T.Ce,T.EU,rfl,_,.ty "str",_,_,_,rfl,.str p.nam,rfl,YS T (.str p.nam),true,rfl,CY ⟨_,rfl,C,_,o,_,_,rfl,n,T.Ce,T.EU,rfl,_,rfl,rfl,_,rfl,FT (λh=>?_) (λh=>?_)⟩⟩
     ·have e:p.nam=z:=V.str.inj (wj h);rw[NR m c (wg e)]at q;exact⟨_,rfl,q _ _ s1 B⟩
     ·exact⟨⟨_,rfl⟩,rfl,Rg m c (wh λe=>h (wg (wn V.str e)))⟩
    ·obtain⟨_,rfl,c⟩:=h;rw[<-j,Dh]at c;exact⟨s1,Gu.mpr λp hp=>by rw[c p hp];exact Bj⟩
   rintro b H' ⟨s',e⟩;rw[e]at q;exact q _ s'
  ·rw[hd];exact CY q
def iJ:Sp:=λvs H Q _=>∃v xs ws gs d x,vs=[v,x]/\pa H xs ws v/\Paired (λg x=>Jm H (Pg.gx g) x) gs xs/\Th H d x/\((∃z,d= .str z/\QI H Q (λH g u=>Jm H (Pg.gx g) u) (gs.find? λg=>decide (g.nam=z)))\/(YT d=false/\Q .non H))
theorem Ul(T:Tx K mg):HL.Et P w K mg base 1 745 At iJ:=by
 refine(T.mf 34 rfl).ok Mp (λvs H Q E h=>?_) (λcdv A outer s H vs Q E C h=>?_)
 ·obtain⟨v,_,_,_,d,x,rfl,_⟩:=h;rfl
 ·obtain⟨v,xs,ws,gs,d,x,rfl,⟨a,dx,l,B,rfl,ha,r,hw⟩,hp,hx,q⟩:=h;refine⟨_,AV (BH (CK (BI (Bl (BC K rfl) rfl T.Bv Br (Ax (pv 1) (Ax (QV T.KM Iq) AA))))) (AD (AN CO))
    Bd)
   (Bh (JA DT rfl (CU (BF (pv 0) rfl)) (Cb (i:=2) Mp.nd rfl (Bn rfl)) (AD (BH (Bp De (BF (pv 2) rfl) (pv 1) (Bw _)) (AD (AN (pv 2)))
      Bd)))
   (AD (AN CO))),?_⟩
  refine⟨_,rfl,_,.ty "str",_,_,_,rfl,hx.ty,rfl,YS T d,_,rfl,?_⟩;rcases q with⟨z,rfl,q⟩|⟨hd,q⟩
  ·obtain⟨rfl,_⟩:=hx;refine Ch ?_;have f:gs.length=xs.length:=hp.length;refine Cq (λb H'=>H=H'/\gs.find? (λg=>decide (g.nam=z))=none) ?_ ?_
   ·refine⟨_,rfl,a,_,dx,_,_,rfl,ha,T.Hi,T.FP,rfl,l,rfl,⟨_,Cj.of r⟩,?_⟩;refine Nq (xs:=xs) (λi b H'=>(∃o,b=[some (.ref a),some (.str z),o])/\H=H'/\∀g∈gs.take i,decide (g.nam=z)=false) ⟨⟨_,rfl⟩,rfl,λp hp=>by cases hp⟩ (λi b H' _ h=>h.2.1 ▸ Cj.of r) (λi x b H' hx h=>?_) (λb H' h=>?_)
    ·obtain⟨⟨o,rfl⟩,rfl,c⟩:=h;obtain⟨g,j⟩:∃g,gs[i]?=some g:=⟨_,Az (by rw[f];exact(AO.mp hx).1)⟩;have t:=Hq hp i g x j hx;have m:=t;obtain⟨y,n,_,_,_,rfl,k,⟨rfl,_⟩,_⟩:=m;have u:=IS T g.choice;refine⟨_,rfl,y,_,n,_,_,rfl,k,u.cl,u.n1,rfl,_,rfl,rfl,_,rfl,FT (λh=>?_) (λh=>?_)⟩
     ·have e:g.nam=z:=V.str.inj (wj h);rw[NR j c (wg e)]at q;exact⟨_,rfl,q _ _ (Be.refl _) t⟩
     ·exact⟨⟨_,rfl⟩,rfl,Rg j c (wh λe=>h (wg (wn V.str e)))⟩
    ·obtain⟨_,rfl,c⟩:=h;rw[<-f,Dh]at c;exact⟨rfl,Gu.mpr λp hp=>by rw[c p hp];exact Bj⟩
   rintro b H' ⟨rfl,e⟩;rw[e]at q;exact q _ (Be.refl _)
  ·rw[hd];exact CY q
theorem pY: ((["_law_part"]:List Bc) ++ ([]:List Bc)).Nodup:=by decide+kernel
theorem ve{x:V}{xs:List V}:UO (x::xs) (some 1) none=xs:=Qv (k:=1) rfl
theorem GO{x y:Bc}{r:List Bc}:Eb " " (x::y::r)=x++ (" " :Bc) ++Eb " " (y::r):=by
 rw[IE,IE,kR];rfl
theorem Zm(x y z:Bc):x++y++z=x++ (y++z):=by
 apply bW;show sg (x++y++z)=sg (x++ (y++z));rw[MX,MX,MX,MX,FH]
theorem WS{k:Kx}(a:k.good):Cy k≠[]:=by
 cases k with
 |upto d=>obtain⟨n,rfl,_⟩:=a;exact λz=>by cases z
 |text d=>obtain⟨n,rfl,_⟩:=a;unfold Cy;split <;> exact λz=>by cases z
 |form d=>obtain⟨n,rfl,_⟩:=a;exact λz=>by cases z
 |bare=>exact a.elim
 |thing d=>exact a.elim
 |_=>exact λz=>by cases z
theorem Qq{gs:List SG}(hn:CV (gs.map (·.nam))):∀{k:Lk},k.ok gs.length->(EN gs k).good:=by
 have pl:∀{k:Lk},k.plain->(EN gs k).good/\(EN gs k).flat=true:=λ{k} h=>by
  cases k with
  |upto n=>exact⟨⟨n,rfl,h.1,Int.lt_of_le_of_lt h.2 Aa⟩,rfl⟩
  |text n=>exact⟨⟨n,rfl,h⟩,rfl⟩
  |form i=>exact h.elim
  |list k=>exact h.elim
  |_=>exact⟨trivial,rfl⟩
 have fm:∀{i:Nat},i<gs.length->(EN gs (.form i)).good:=λ{i} hi=>by
  refine⟨_,rfl,?_⟩;have hg:gs[i]?=some (gs[i]'hi):=Az hi;rw[show JC gs i=(gs[i]'hi).nam by unfold JC;rw[hg];rfl];exact(hn.ok _ (Bg.mpr ⟨_,AY hg,rfl⟩)).1
 intro k h;cases k with
 |form i=>exact fm h
 |list k=>
  rcases h with h|⟨i,rfl,h⟩
  ·exact⟨(pl h).2,(pl h).1⟩
  ·exact⟨rfl,fm h⟩
 |upto n=>exact(pl (k:=.upto n) h).1
 |text n=>exact(pl (k:=.text n) h).1
 |_=>trivial
def Mm(gs:List SG)(k:Lk):Bc:=Eb " " (Cy (EN gs k))
theorem Rb{gs:List SG}{k:Lk}(a: (EN gs k).good): (Mm gs k).length<=400:=by
 have h:=KU a;unfold Mm;rw[IE];have h1:=RI ⟨#[32]⟩ (Cy (EN gs k));have h2:=PH h.2;have h3: (Cy (EN gs k)).length*100<=3*100:=QP _ h.1;have b: (⟨#[32]⟩:Bc).length=1:=rfl;have c:=h.1;rw[b]at h1
 lia
def KY(gs:List SG)(k:Lk):Sp:=λvs H Q _=>∃v sv,vs=[v,sv]/\TL H k v/\Nw H gs sv/\CV (gs.map (·.nam))/\k.ok gs.length/\∀H',Be H H'->Q (.str (Mm gs k)) H'
theorem Nf(T:Tx K mg){r:Nat}{o:Sp}(G:HL.Et P w K mg base (r+1) 979 An o){gs:List SG}{k:Lk}(hk:∀U,k= .list U->∀vs H Q E,KY gs U vs H Q E->o vs H Q E):
  HL.Et P w K mg base (r+3) 979 An (KY gs k):=by
 refine(T.df 51 rfl).ok iU (λvs H Q E h=>?_) (λcdv A outer s H vs Q E W h=>?_)
 ·obtain⟨v,sv,rfl,_⟩:=h;rfl
 ·obtain⟨v,sv,rfl,d,hs,hn,hok,q⟩:=h;have hu:=W.units;have J:=BS (BA (show 1<=64 by decide) _) hu;have f:=Qq hn hok;refine⟨_,AV (BH (Bp De (Cp CW (pv 0) AH (λ_ _=>rfl)) AQ (Bw _)) (AD (AN (Bz Du AQ (AW G (W.mono (by lia)) T.To (Ax (Cp CW (pv 0) AH (λ_ _=>rfl)) (Ax (pv 1) AA))))))
    Bd)
   (AV (BH (Bp De (Cp CW (pv 0) AH (λ_ _=>rfl)) AQ (Bw _)) (AD (AN (Bz Du AQ (BK J (Cp CM (pv 1) (Cp CW (pv 0) AH (λ_ _=>rfl)) (λ_ _=>rfl)) AQ (λ_ _=>rfl)))))
    Bd)
   (Bh (BH (PW.pt (Gm (Bp De (Cp CW (pv 0) AH (λ_ _=>rfl)) AQ (Bw _)) (Fv (Bp De (Cp CW (pv 0) AH (λ_ _=>rfl)) AH (Bw _))))) (AD (AN AQ))
    Bd)
   (AD (AN (Gr Db Fk Fj NP AQ (Ax (Bz Nc (CP (Ax (Cp CW (pv 0) AH (λ_ _=>rfl)) AA)) (CJ (ts:=["_law_part"]) (xs:=[]) (js:=[]) rfl ⟨rfl,rfl,Ab,Ab,CZ rfl⟩ .nil Ab (Rq (Hb pF (pv 0) (Iy AH) Iz)) (λC s_ H_ fp=>Cb (X:=Di _ _ _ C s_ H_ fp) (i:=0) pY rfl (Bn rfl) (Cw rfl)) (λC s_ H_ fp=>CT (X:=Di _ _ _ C s_ H_ fp)) (λC s_ H_ fp=>Ee (X:=Di _ _ _ C s_ H_ fp) HW rfl T.KM Iq (Ax (pv 0) AA)))) AA)))))),?_⟩
  by_cases c:∃j,k= .list j
  ·obtain⟨j,rfl⟩:=c;obtain⟨t,u,rfl,b,L⟩:=d;refine⟨_,rfl,t,_,_,_,rfl,rfl,DW.of b,GQ,rfl,_,rfl,HR rfl ⟨_,rfl,t,_,_,_,rfl,rfl,DW.of b,Zl,_,rfl,hk _ rfl _ _ _ _ ⟨u,sv,rfl,L,hs,hn,eP hok,λH' s'=>⟨_,_,rfl,rfl,?_,?_⟩⟩⟩⟩
   ·have:=Rb (Qq hn (eP hok));exact FN (AJ (CC (show(BJ "list ").length<=5 by decide+kernel) this) Aa)
   ·have e:Mm gs (.list j)="list " ++Mm gs j:=by
     unfold Mm;cases hw:Cy (EN gs j)with
     |nil=>exact wo hw (WS (Qq hn (eP hok)))
     |cons y r=>
      show Eb " " ("list" ::Cy (EN gs j))=_;rw[hw,GO,show("list " :Bc)=("list" :Bc) ++ (" " :Bc)by decide+kernel]
    rw[<-e];exact q _ s'
  by_cases hf:∃i,k= .form i
  ·obtain⟨i,rfl⟩:=hf;obtain⟨t,rfl,b⟩:=d;have hi:i<gs.length:=hok;have hg:gs[i]?=some (gs[i]'hi):=Az hi;have hnm:JC gs i=(gs[i]'hi).nam:=by unfold JC;rw[hg];rfl
   obtain⟨l,as,a,rfl,c,ha,a',gl,fl,xs,ea,hA,_⟩:=hs.at hg;cases ea;have N:=(Gj (hn.ok _ (Bg.mpr ⟨_,AY hg,rfl⟩)).1).2.1;refine⟨_,rfl,t,_,_,_,rfl,rfl,DW.of b,GQ,rfl,_,rfl,Dk Ab ⟨_,rfl,t,_,_,_,rfl,rfl,DW.of b,GQ,rfl,_,rfl,HR rfl ⟨_,rfl,_,rfl,t,_,_,_,rfl,rfl,DW.of b,Zl,l,_,_,_,rfl,rfl,Cj.of c,HY (j:=i) (v:=.ref a) (by rw[AT,ha];rfl),a,_,rfl,Eo hA,_,_,rfl,rfl,?_,?_⟩⟩⟩
   ·exact FN (AJ (CC (show(BJ "form ").length<=5 by decide+kernel) N) Aa)
   ·have e:Mm gs (.form i)="form " ++ (gs[i]'hi).nam:=by
     show Eb " " ["form",JC gs i]=_;rw[GO,hnm,show("form " :Bc)=("form" :Bc) ++ (" " :Bc)by decide+kernel];rfl
    rw[<-e];exact q _ (Be.refl _)
  obtain⟨t,ns,rfl,b,hw,hb,h1⟩:∃t ns,v= .ref t/\H t=some (.tup (.str k.word::JL V.int ns))/\((∃n,k= .text n/\ns=[n])\/((∀n,k≠ .text n)/\Cy (EN gs k)=k.word::ns.map toS))/\(∀n∈ns,n.natAbs<2 ^ 256)/\ns.length<=1:=by
   cases k with
   |truth=>obtain⟨t,e,h⟩:=d;exact⟨t,[],e,h,.inr ⟨(λn z=>by cases z),rfl⟩,(λn hn=>by cases hn),Ci 1⟩
   |count=>obtain⟨t,e,h⟩:=d;exact⟨t,[],e,h,.inr ⟨(λn z=>by cases z),rfl⟩,(λn hn=>by cases hn),Ci 1⟩
   |whole=>obtain⟨t,e,h⟩:=d;exact⟨t,[],e,h,.inr ⟨(λn z=>by cases z),rfl⟩,(λn hn=>by cases hn),Ci 1⟩
   |upto m=>obtain⟨t,e,h⟩:=d;obtain⟨h1,h2⟩:=(show(1:Int)<=m/\m<=2 ^ 64 from hok);exact⟨t,[m],e,h,.inr ⟨(λn z=>by cases z),rfl⟩,(λn hn=>by rw[AM.mp hn];lia),AX 1⟩
   |text m=>obtain⟨t,e,h⟩:=d;obtain⟨h1,h2⟩:=(show(1:Int)<=m/\m<=100 from hok);exact⟨t,[m],e,h,.inl ⟨m,rfl,rfl⟩,(λn hn=>by rw[AM.mp hn];lia),AX 1⟩
   |form i=>exact wo ⟨i,rfl⟩ hf
   |list j=>exact wo ⟨j,rfl⟩ c
  have nl:¬V.str k.word=V.str "list":=by
   cases k with
   |list j=>exact wo ⟨j,rfl⟩ c
   |_=>exact NK
  have Z:¬V.str k.word=V.str "form":=by
   cases k with
   |form j=>exact wo ⟨j,rfl⟩ hf
   |_=>exact NK
  refine⟨_,rfl,t,_,_,_,rfl,rfl,DW.of b,GQ,rfl,_,rfl,Dk nl ⟨_,rfl,t,_,_,_,rfl,rfl,DW.of b,GQ,rfl,_,rfl,Dk Z ?_⟩⟩;refine Cq (λg H'=>g=[some (.ref t),some sv]/\H=H'/\Cy (EN gs k)=k.word::ns.map toS) ?_ ?_
  ·rcases hw with⟨n,rfl,rfl⟩|⟨O,hw⟩
   ·refine⟨_,rfl,t,_,_,_,rfl,rfl,DW.of b,GQ,rfl,_,rfl,HR rfl ⟨_,rfl,t,_,_,_,rfl,rfl,DW.of b,Zl,rfl,_,rfl,FT (λh=>?_) (λh=>?_)⟩⟩
    ·obtain rfl:n=100:=V.int.inj (wj h);exact q _ (Be.refl _)
    ·refine⟨rfl,rfl,?_⟩;show Cy (.text (.int n))=_;unfold Cy;rw[wk λz=>h (wg (wn V.int z))];rfl
   ·have Y:¬V.str k.word=V.str "text":=by
     cases k with
     |text j=>exact wo rfl (O j)
     |_=>exact NK
    exact⟨_,rfl,t,_,_,_,rfl,rfl,DW.of b,GQ,rfl,_,rfl,Dk Y (Ch ⟨rfl,rfl,hw⟩)⟩
  rintro g H' ⟨rfl,rfl,hw⟩;refine⟨rfl,_,rfl,t,_,_,_,rfl,rfl,DW.of b,GQ,zl 1,λl c=>?_⟩;have s1:=By (u:=.lst [.str k.word]) c;refine⟨_,rfl,_,rfl,t,_,rfl,DW.of (s1 _ _ b),?_,λp hp=>?_⟩
  ·intro z;have S:=z.1;unfold HT.sIx at S;simp at S
  rw[ve];have s2:=By (u:=.tup (ns.map V.int)) hp;refine⟨p,rfl,⟨_,DW.of AC⟩,JF (l:=ns) (Wk.tup (DW.of AC)) (Ay ..).symm (by rw[Ay];lia) (λn=>.str (toS n)) (λj n x hn hx H3 R I hR=>?_) (λD H3 hD I e3=>?_)⟩
  ·rw[AT,hn]at hx;cases hx;exact⟨Sub.set rfl,_,rfl,n,rfl,Li (hb n (AY hn)),hR _ (Be.refl _)⟩
  ·have B:=(s1.trans s2).trans I;refine⟨l,D,_,_,rfl,rfl,I _ _ (s2 _ _ AC),e3,?_,λM hM=>?_⟩
   ·rw[Ay];exact FN (by show 1+ns.length<=1000;lia)
   have c:=KU f;rw[hw]at c;refine⟨" ",M,k.word::ns.map toS,rfl,rfl,Cj.of (by rw[AC,Bf,Bi];rfl),No (AJ c.1 Aa) (λy hy=>AJ (c.2 y hy) Aa) Ab,?_⟩;rw[<-hw];exact q _ (B.trans (By hM))
theorem cU(T:Tx K mg)(gs:List SG)(k:Lk):HL.Et P w K mg base 6 979 An (KY gs k):=by
 have base:∀k:Lk,(∀j,k≠ .list j)->HL.Et P w K mg base 3 979 An (KY gs k):=λk c=>
  Nf T (r:=0) (Tg (k:=0+1)) (λa e=>wo e (c a))
 cases k with
 |list k=>
  by_cases b:∃j,k= .list j
  ·obtain⟨j,rfl⟩:=b;refine kn (sp:=λ_ _ _ _=>False) (λvs H Q E h=>?_) Tg;obtain⟨v,sv,_,_,_,_,hok,_⟩:=h;rcases hok with h|⟨i,h,_⟩
   ·exact h
   ·cases h
  ·exact(Nf T (r:=2) (base k λj e=>b ⟨j,e⟩) λa e vs H Q E h=>by cases e;exact h).mono Aa
 |_=>exact(base _ λj e=>by cases e).mono Aa
def bZ:Sp:=λvs H Q E=>∃i:List SG×Lk,KY i.1 i.2 vs H Q E
theorem Xj(T:Tx K mg):HL.Et P w K mg base 6 979 An bZ:=oS λi=>cU T i.1 i.2
def GD(gs:List SG)(f:SF):Pf:=⟨f.num,f.nam,EN gs f.kind,f.must,f.dfl⟩
theorem mS{z:Bc}(h:Fa z=true):¬z="":=(Pz h).1
theorem jk{gs:List SG}{f:SF}(hn:CV (gs.map (·.nam)))(c:f.kind.ok gs.length)(h1:1<=f.num/\f.num<=200)(hnm:Fa f.nam=true)(hd:ls f): (GD gs f).Ok:=by
 refine⟨h1,hnm,Qq hn c,?_⟩;show f.dfl=GT (EN gs f.kind)\/(f.must=false/\EO (EN gs f.kind) f.dfl=false/\lr (EN gs f.kind) f.dfl);rcases hd with e|⟨hm,b⟩
 ·exact .inl (by rw[e,Nv])
 ·have num:∀{i:Int} {k:Kx},(∀d,k≠ .form d)->GT k= .int 0->(i.natAbs<2 ^ 256->lr k (.int i))->f.dfl= .int i->i.natAbs<2 ^ 256->f.dfl=GT k\/(f.must=false/\EO k f.dfl=false/\lr k f.dfl):=λ{i k} hf hb hp e h=>by
   by_cases h0:i=0
   ·exact .inl (by rw[e,hb,h0])
   ·refine .inr ⟨hm,?_,by rw[e];exact hp h⟩;rw[e];have:qS (.int i)=false:=wh h0;unfold EO;split
    ·exact wo rfl (hf _)
    ·rw[this,Lr]
  cases a:f.kind with
  |truth=>
   rw[a]at b;rw[show f.dfl= .bl true from b];exact .inr ⟨hm,rfl,rfl⟩
  |text n=>
   rw[a]at b;obtain⟨z,e,hz,_⟩:=b;refine .inr ⟨hm,?_,⟨z,e,hz⟩⟩;rw[e];show(_&&decide (z=""))=false;rw[wh (mS hz),Lr]
  |upto m=>
   rw[a]at b c;obtain⟨i,e,h0,h1⟩:=b;obtain⟨_,h2⟩:=(show(1:Int)<=m/\m<=2 ^ 64 from c);exact num (λd z=>by cases z) rfl (λh=>⟨i,rfl,h⟩) e (by lia)
  |whole=>
   rw[a]at b;obtain⟨i,e,h0,h1⟩:=b;exact num (λd z=>by cases z) rfl (λh=>⟨i,rfl,h⟩) e (by lia)
  |count=>
   rw[a]at b;obtain⟨i,e,h0,h1⟩:=b;exact num (λd z=>by cases z) rfl (λh=>⟨i,rfl,h⟩) e (by lia)
  |form i=>rw[a]at b;exact b.elim
  |list k=>rw[a]at b;exact b.elim
theorem Nn(x:Bc):Eb " " [x]=x:=by rw[IE];rfl
theorem Qm{ys:List Bc}(a:ys≠[]):∀{xs:List Bc},xs≠[]->Eb " " (xs++ys)=Eb " " xs++ (" " :Bc) ++Eb " " ys
 |[],h=>wo rfl h
 |[x],_=>by
  cases ys with
  |nil=>exact wo rfl a
  |cons y r=>rw[Nn];exact GO
 |x::z::r,_=>by
  show Eb " " (x::z:: (r++ys))=_;rw[GO,GO,show z:: (r++ys)=(z::r) ++ys from rfl,Qm a (xs:=z::r) (λz=>by cases z)];simp only[Zm]
def Mq(gs:List SG)(f:SF):Bc:=toS f.num++ (" " :Bc) ++f.nam++ (" " :Bc) ++Mm gs f.kind
theorem dh{gs:List SG}{f:SF}(a: (EN gs f.kind).good):Eb " " ([toS (GD gs f).num,(GD gs f).nam] ++Cy (GD gs f).kind)=Mq gs f:=by
 show Eb " " ([toS f.num,f.nam] ++Cy (EN gs f.kind))=Mq gs f;rw[Qm (WS a) (λz=>by cases z),GO,Nn];rfl
theorem qi{gs:List SG}{f:SF}(a: (EN gs f.kind).good)(h:Fs (GD gs f)=[]):IH (GD gs f)=Mq gs f:=by
 unfold IH Ko;rw[h,CA];exact dh a
theorem qh{gs:List SG}{f:SF}(a: (EN gs f.kind).good)(h:Fs (GD gs f)=(["must"]:List Bc)):IH (GD gs f)=Mq gs f++ (" must" :Bc):=by
 unfold IH Ko;rw[h,Qm (λz=>by cases z) (λz=>by cases z),dh a,Nn,Zm,show(" " :Bc) ++ ("must" :Bc)=" must" by decide+kernel]
theorem qg{gs:List SG}{f:SF}(a: (EN gs f.kind).good){d:Bc}(h:Fs (GD gs f)=(["=",d]:List Bc)):IH (GD gs f)=Mq gs f++ (" = " :Bc) ++d:=by
 unfold IH Ko;rw[h,Qm (λz=>by cases z) (λz=>by cases z),dh a,GO,Nn,show(" = " :Bc)=(" " :Bc) ++ (("=" :Bc) ++ (" " :Bc))by decide+kernel];simp only[Zm]
theorem gM{gs:List SG}{f:SF}(a: (EN gs f.kind).good)(h1:1<=f.num/\f.num<=200)(hnm:Fa f.nam=true): (Mq gs f).length<=600:=AJ (Hm (Hm (Hm (Hm (Ik h1) (show(BJ " ").length<=1 by decide+kernel)) (DP hnm)) (show(BJ " ").length<=1 by decide+kernel)) (Rb a)) Aa
theorem oJ{k:Lk}(a:¬ ((∃j,k= .list j)\/∃i,k= .form i)):L2.Vn (.str k.word) [.str "list",.str "form"]=false:=by
 rw[jZ];cases k with
 |list j=>exact wo (.inl ⟨j,rfl⟩) a
 |form j=>exact wo (.inr ⟨j,rfl⟩) a
 |_=>rfl
def iA:Sp:=λvs H Q _=>∃v sv gs f,vs=[v,sv]/\UW H f v/\Nw H gs sv/\CV (gs.map (·.nam))/\f.kind.ok gs.length/\(1<=f.num/\f.num<=200)/\RA f.nam/\ls f/\∀H',Be H H'->Q (.str (IH (GD gs f))) H'
theorem jB(T:Tx K mg):HL.Et P w K mg base 7 986 Ao iA:=by
 have x:=@Xj P w K mg base T;have y:=@Rr P w K mg base T;refine(T.df 52 rfl).ok Yw (λvs H Q E h=>?_) (λcdv A outer s H vs Q E X h=>?_)
 ·obtain⟨v,sv,gs,f,rfl,_⟩:=h;rfl
 ·obtain⟨v,sv,gs,f,rfl,hf,hs,hn,hok,h1,hnm,N,q⟩:=h;have hu:=X.units;have o:=BS (BA (show 1<=64 by decide) _) hu;refine⟨_,Bh (BV (i:=2) Yw.nd rfl (Bn rfl) (AW x (X.mono Aa) T.To (Ax (BK o (pv 0) AQ (λ_ _=>rfl)) (Ax (pv 1) AA)))) (Bh (BV (i:=3) Yw.nd rfl (Bn rfl) (Bz Du (Bz Du (Bz Du (Bz Du (Ee HW rfl T.KM Iq (Ax (BK o (pv 0) AQ (λ_ _=>rfl)) AA)) AQ) (BK o (pv 0) AQ (λ_ _=>rfl))) AQ) (pv 2))) (AV (BH (BI (BK o (pv 0) AQ (λ_ _=>rfl))) (AD (AN (Bz Du (pv 3) AQ)))
    Bd)
   (Bh (BH (PW.pt (GA (Bp Lg (Cp CW (BK o (pv 0) AQ (λ_ _=>rfl)) AH (λ_ _=>rfl)) (DG (Ax AQ (Ax AQ AA))) rfl) (FS (Bp De (BK o (pv 0) AQ (λ_ _=>rfl)) (AW y (X.mono Aa) T.Pw (Ax (BK o (pv 0) AQ (λ_ _=>rfl)) AA)) (Bw _))))) (AD (AN (pv 3)))
    Bd)
   (AV (BH (Bp De (Cp CW (BK o (pv 0) AQ (λ_ _=>rfl)) AH (λ_ _=>rfl)) AQ (Bw _)) (AD (AN (Bz Du (pv 3) AQ)))
    Bd)
   (AD (AN (Bz Du (Bz Du (pv 3) AQ) (Ee (FE.or HW Zg) rfl T.KM Iq (Ax (BK o (pv 0) AQ (λ_ _=>rfl)) AA))))))))),?_⟩
  have Y:=jk hn hok h1 hnm.1 N;have l:=Qq hn hok;obtain⟨a,kv,J,rfl,ha,hT,hd⟩:=hf;have D:=gM l h1 hnm.1;have Vm: (BJ " ").length<=1:=by decide+kernel
  refine Cq (λp H1=>Be H H1/\p=[some (.ref a),some sv,some (.str (Mm gs f.kind)),none]) ?_ ?_
  ·exact⟨_,rfl,a,_,rfl,DD ha,_,rfl,(gs,f.kind),kv,sv,rfl,hT,hs,hn,hok,λH1 s1=>⟨s1,rfl⟩⟩
  rintro p H1 ⟨s1,rfl⟩;have m:=s1 _ _ ha;refine Cq (λp H2=>H1=H2/\p=[some (.ref a),some sv,some (.str (Mm gs f.kind)),some (.str (Mq gs f))]) ?_ ?_
  ·refine⟨_,rfl,a,_,rfl,Dn m,f.num,rfl,Li (by lia),_,_,rfl,rfl,FN (AJ (CC (Ik h1) Vm) Aa),_,rfl,a,_,rfl,Fd m,_,_,rfl,rfl,FN (AJ (CC (Hm (Ik h1) Vm) (DP hnm.1)) Aa),_,_,rfl,rfl,FN (AJ (CC (Hm (Hm (Ik h1) Vm) (DP hnm.1)) Vm) Aa),_,rfl,_,_,rfl,rfl,FN (AJ (CC (Hm (Hm (Hm (Ik h1) Vm) (DP hnm.1)) Vm) (Rb l)) Aa),rfl,rfl⟩
  rintro p H2 ⟨rfl,rfl⟩;refine⟨_,rfl,a,_,rfl,Kd m,f.must,rfl,?_⟩;have a0:=q _ s1;have I:=hT.sm (Sm.of s1);obtain⟨t,ys,rfl,W⟩:=I.word;rcases LG Y with⟨e,hm,hb⟩|⟨e,hm,hb⟩|⟨e,hm,hD⟩
  ·rw[show f.must=false from hm];have hb:f.dfl=Dy f.kind:=by rw[<-Nv gs];exact hb
   refine Ch ?_;refine Cq (λ_ _=>False) ?_ (λ_ _ h=>h.elim);refine⟨_,rfl,a,_,rfl,DD m,t,_,_,_,rfl,rfl,DW.of W,GQ,zl 2,λr G=>⟨r,_,rfl,.inr (DW.of AC),rfl,YX,_,rfl,?_⟩⟩;have s2:=By (u:=.tup [.str "list",.str "form"]) G;have ret:∀H',Be H1 H'->Q (.str (Mq gs f)) H':=λH' s'=>by rw[<-qi l e];exact q _ (s1.trans s')
   by_cases L: (∃j,f.kind= .list j)\/∃i,f.kind= .form i
   ·have e1:L2.Vn (.str f.kind.word) [.str "list",.str "form"]=true:=by rw[jZ];rcases L with⟨j,e⟩|⟨j,e⟩ <;> rw[e]
    rw[e1];exact CY ⟨_,rfl,ret _ s2⟩
   ·have C:∀j,f.kind≠ .list j:=λj e=>L (.inl ⟨j,e⟩);rw[oJ L];refine Ch ⟨_,rfl,a,_,rfl,EI (s2 _ _ m),_,rfl,a,_,rfl,DD (s2 _ _ m),_,f.kind,rfl,I.sm (Sm.of s2),λu U B k _=>⟨YY C (.inl hb) (Th.sm (Sm.of ((s1.trans s2).trans B)) _ _ hd) k,_,rfl,?_⟩⟩;have cmp:decide (J=u)=true:=wg (by
     rw[hb]at hd;cases g:f.kind with
     |list j=>exact wo g (C j)
     |text n=>rw[g]at hd k;rw[hd.1,k.1]
     |truth=>rw[g]at hd k;rw[show J=V.bl false from hd,show u=V.bl false from k]
     |form i=>rw[g]at hd k;rw[show J=V.non from hd,show u=V.non from k]
     |upto n=>rw[g]at hd k;rw[show J=V.int 0 from hd,show u=V.int 0 from k]
     |whole=>rw[g]at hd k;rw[show J=V.int 0 from hd,show u=V.int 0 from k]
     |count=>rw[g]at hd k;rw[show J=V.int 0 from hd,show u=V.int 0 from k])
    rw[cmp];exact CY ⟨_,rfl,ret _ (s2.trans B)⟩
  ·rw[show f.must=true from hm];refine CY ⟨_,rfl,_,_,rfl,rfl,FN (AJ (CC D (show(BJ " must").length<=5 by decide+kernel)) Aa),?_⟩;rw[<-qh l e];exact a0
  ·rw[show f.must=false from hm];have M:¬f.dfl=Dy f.kind:=λS=>by
    have a4: (GD gs f).dfl=GT (GD gs f).kind:=by show f.dfl=_;rw[S];exact(Nv gs _).symm
    unfold Fs at e;rw[wk (by rw[hm];decide),wm (by rw[a4];exact UR l)]at e;cases e
   have c:QG f.kind f.dfl:=(N.resolve_left M).2;have L:¬ ((∃j,f.kind= .list j)\/∃i,f.kind= .form i):=λz=>by
    rcases z with⟨j,z⟩|⟨j,z⟩ <;> (rw[z]at c;exact c)
   have C:∀j,f.kind≠ .list j:=λj e=>L (.inl ⟨j,e⟩);refine Ch ?_;refine Cq (λp U=>Be H1 U/\p=[some (.ref a),some sv,some (.str (Mm gs f.kind)),some (.str (Mq gs f))]) ?_ ?_
   ·refine⟨_,rfl,a,_,rfl,DD m,t,_,_,_,rfl,rfl,DW.of W,GQ,zl 2,λr G=>⟨r,_,rfl,.inr (DW.of AC),rfl,YX,_,rfl,?_⟩⟩;have s2:=By (u:=.tup [.str "list",.str "form"]) G;rw[oJ L];refine Ch ⟨_,rfl,a,_,rfl,EI (s2 _ _ m),_,rfl,a,_,rfl,DD (s2 _ _ m),_,f.kind,rfl,I.sm (Sm.of s2),λu U B k _=>⟨YY C (.inr c) (Th.sm (Sm.of ((s1.trans s2).trans B)) _ _ hd) k,_,rfl,Dk (λz=>M (aN c hd (by rw[z];exact k))) ⟨s2.trans B,rfl⟩⟩⟩
   rintro p U ⟨B,rfl⟩;have O:=B _ _ m;have e3: (BJ " = ").length<=3:=by decide+kernel
   have fin:∀H',Be U H'->Q (.str (Mq gs f++ (" = " :Bc) ++Kv f.dfl)) H':=λH' s'=>by
    have e':Fs (GD gs f)=(["=",Kv f.dfl]:List Bc):=e;rw[<-qg l e'];exact q _ ((s1.trans B).trans s')
   refine⟨_,rfl,a,_,rfl,DD O,t,_,_,_,rfl,rfl,DW.of (B _ _ W),GQ,rfl,_,rfl,?_⟩;by_cases F:f.kind= .truth
   ·rw[F]at c ⊢;rw[show f.dfl= .bl true from c]at fin
    refine HR rfl ⟨_,rfl,_,_,rfl,rfl,FN (AJ (CC D (show(BJ " = yes").length<=6 by decide+kernel)) Aa),?_⟩;have:=fin _ (Be.refl _);rw[Zm,show(" = " :Bc) ++Kv (.bl true)=" = yes" by decide+kernel]at this;exact this
   ·have nt:¬V.str f.kind.word=V.str "truth":=by
     cases g:f.kind with
     |truth=>exact wo g F
     |_=>exact NK
    have a1: (Mq gs f++ (" = " :Bc)).length<=603:=Hm D e3;have R:∀{d:Bc},d.length<=100->(Mq gs f++ (" = " :Bc)).length+d.length<=sizeLine:=λh=>FN (AJ (CC a1 h) Aa);have Z:=hD.dw;refine Dk nt ⟨_,rfl,_,_,rfl,rfl,FN (AJ (CC D e3) Aa),_,rfl,a,_,rfl,EI O,?_⟩;rcases Z with⟨b,S⟩|⟨z,ez,hz⟩|⟨i,ei,hi⟩
    ·exfalso;have S:f.dfl= .bl b:=S;rw[S]at c;cases g:f.kind with
     |truth=>exact F g
     |text n=>rw[g]at c;obtain⟨_,z,_⟩:=c;cases z
     |upto n=>rw[g]at c;obtain⟨_,z,_⟩:=c;cases z
     |whole=>rw[g]at c;obtain⟨_,z,_⟩:=c;cases z
     |count=>rw[g]at c;obtain⟨_,z,_⟩:=c;cases z
     |form n=>rw[g]at c;exact c
     |list n=>rw[g]at c;exact c
    ·have ez:f.dfl= .str z:=ez;rw[ez]at hd fin
     obtain⟨rfl,_⟩:=hd;exact .inr ⟨z,rfl,_,_,rfl,rfl,R (AJ (DP hz) Aa),fin _ (Be.refl _)⟩
    ·have ei:f.dfl= .int i:=ei;rw[ei]at hd fin
     obtain rfl:J=V.int i:=hd;exact .inl ⟨i,rfl,Li hi,_,_,rfl,rfl,R (OY hi),fin _ (Be.refl _)⟩
def DO(gs:List SG)(g:SG):Pg:=⟨g.nam,g.choice,g.fields.map (GD gs),g.gone⟩
structure hY(gs:List SG):Prop where
 nms:CV (gs.map (·.nam))
 len:gs.length<=8
 fs:∀g∈gs,∀f∈g.fields,f.kind.ok gs.length/\(1<=f.num/\f.num<=200)/\RA f.nam/\ls f
 fl:∀g∈gs,g.fields.length<=10
 gl:∀g∈gs,g.gone.length<=10
 gb:∀g∈gs,∀n∈g.gone,1<=n/\n<=200
theorem mJ{m n:Nat}(h:m<=n){k:Lk}(a:k.ok m):k.ok n:=by
 cases k with
 |form i=>exact BP a h
 |list k=>
  rcases a with a|⟨i,e,hi⟩
  ·exact .inl a
  ·exact .inr ⟨i,e,BP hi h⟩
 |_=>exact a
theorem GU.gsOk{gs:List SG}{Ws:List Int}(h:GU gs Ws)(c:gs.length<=8):hY gs:=by
 have at_:∀g∈gs,∃k,k<gs.length/\pb k (Ws.take k) g:=λg hg=>by
  obtain⟨k,b⟩:=DB.mp hg;exact⟨k,(AO.mp b).1,h.ok k g b⟩
 refine⟨h.nms,c,λg hg f hf=>?_,λg hg=>?_,λg hg=>?_,λg hg n hn=>?_⟩ <;> obtain⟨k,b,ho⟩:=at_ g hg
 ·have a:=ho.fs f hf;exact⟨mJ (Gs b) a.kind,ho.nums.bd _ (Dq _ (Bg.mpr ⟨f,hf,rfl⟩)),ho.nms.ok _ (Bg.mpr ⟨f,hf,rfl⟩),a.dfl.imp id λz=>⟨z.1,z.2.2⟩⟩
 ·exact ho.len
 ·exact AJ ho.gl Aa
 ·exact ho.nums.bd _ (Ca _ hn)
theorem Se{gs:List SG}(h:hY gs){g:SG}(hg:g∈gs): (DO gs g).Ok:=by
 refine⟨(h.nms.ok _ (Bg.mpr ⟨g,hg,rfl⟩)).1,λp hp=>?_,by show(g.fields.map _).length<=10;rw[Ay];exact h.fl g hg,h.gl g hg,h.gb g hg⟩;obtain⟨f,hf,rfl⟩:=Bg.mp hp;obtain⟨a,b,c,d⟩:=h.fs g hg f hf;exact jk h.nms a b c.1 d
def Hs(gs:List SG):List Bc:=(gs.map λg=>DQ (DO gs g)).flatten
theorem uy: ((["_law_number_here"]:List Bc) ++ ([]:List Bc)).Nodup:=by decide+kernel
theorem qC(ns:List Int):KE (.list (ns.map PyData.int)) (.list [])=decide (ns=[]):=by cases ns <;> rfl
theorem nv(g:Pg):Qo g=(if g.choice then ("choice " :Bc)else "record ") ++g.nam:=by
 unfold Qo;cases g.choice <;> (congr 1)
def fZ:Sp:=λvs H Q _=>∃sv gs,vs=[sv]/\Nw H gs sv/\hY gs/\Yk H Q ((Hs gs).map V.str)
theorem gE(T:Tx K mg):HL.Et P w K mg base 8 991 Ap fZ:=by
 have v:=@jB P w K mg base T;refine(T.df 53 rfl).ok PP (λvs H Q E h=>?_) (λcdv A outer s H vs Q E hr h=>?_)
 ·obtain⟨sv,gs,rfl,_⟩:=h;rfl
 ·obtain⟨sv,gs,rfl,hs,hg,q⟩:=h;have hu:=hr.units;have k:=BS (BA (show 1<=64 by decide) _) hu;refine⟨_,AV (BV (i:=1) PP.nd rfl (Bn rfl) (CP AA)) (Bh (JA DT rfl (CU (pv 0)) (Cb (i:=2) PP.nd rfl (Bn rfl)) (Bh (EX (Gr BO Cn Cm EF (pv 1) (Ax (Bz Du (Cp CM (CP (Ax AQ (Ax AQ AA))) (Ee XF rfl T.dP Zi (Ax (BK k (pv 2) AQ (λ_ _=>rfl)) AA)) (λ_ _=>rfl)) (BK k (pv 2) AQ (λ_ _=>rfl))) AA))) (Bh (BV (i:=1) PP.nd rfl (Bn rfl) (Bz Nc (pv 1) (CJ (ts:=Aw) (xs:=Ap) (js:=[0]) rfl ⟨rfl,rfl,Ab,Ab,CZ rfl⟩ (.cons rfl (.inl rfl) rfl .nil) Ab (CU (BK k (pv 2) AQ (λ_ _=>rfl))) (λC s_ H_ fp=>Cb (X:=Di _ _ _ C s_ H_ fp) (i:=0) sd rfl (Bn rfl) (Cw rfl)) (λC s_ H_ fp=>CT (X:=Di _ _ _ C s_ H_ fp)) (λC s_ H_ fp=>AW (X:=Di _ _ _ C s_ H_ fp) v (hr.mono Aa) (T.d2 52 rfl λ_ _ _ _ _ _ _ _=>rfl) (Ax (pv 0) (Ax (pv 1) AA)))))) (AD (BH (Bp (Pa hu) (BK k (pv 2) AQ (λ_ _=>rfl)) (CP AA) (Bw _)) (AD (EX (Gr BO Cn Cm EF (pv 1) (Ax (Bz Du AQ (Gr Db Fk Fj NP AQ (Ax (CJ (ts:=["_law_number_here"]) (xs:=[]) (js:=[]) rfl ⟨rfl,rfl,Ab,Ab,CZ rfl⟩ .nil Ab (CU (BK k (pv 2) AQ (λ_ _=>rfl))) (λC s_ H_ fp=>Cb (X:=Di _ _ _ C s_ H_ fp) (i:=0) uy rfl (Bn rfl) (Cw rfl)) (λC s_ H_ fp=>CT (X:=Di _ _ _ C s_ H_ fp)) (λC s_ H_ fp=>Ee (X:=Di _ _ _ C s_ H_ fp) HW rfl T.KM Iq (Ax (pv 0) AA))) AA))) AA))))
      Bd)))))
   (AD (AN (pv 1)))),?_⟩
  have a8:=hs;obtain⟨l,as,rfl,hl,hp⟩:=a8;have Y:gs.length=as.length:=hp.length;refine⟨zl 0,λL0 o=>?_⟩;have s0:=By (u:=.lst []) o;refine Cq (λb H'=>∃L J,b=[some (.ref l),some (.ref L),J]/\H L=none/\Be H H'/\H' L=some (.lst ((Hs gs).map V.str))) ?_ ?_
  ·refine⟨_,rfl,l,rfl,⟨_,Cj.of (s0 _ _ hl)⟩,?_⟩;refine Nq (xs:=as.map V.ref) (λi b H'=>∃L J,b=[some (.ref l),some (.ref L),J]/\H L=none/\Be H H'/\H' L=some (.lst (((gs.take i).map λg=>DQ (DO gs g)).flatten.map V.str))) ⟨L0,_,rfl,o,s0,AC⟩ (λi b H' _ h=>by obtain⟨_,_,_,_,s',_⟩:=h;exact Cj.of (s' _ _ hl)) (λi x b H1 hx h=>?_) (λb H' h=>?_)
   ·obtain⟨L,J,rfl,o,s1,hL⟩:=h;rw[AT]at hx;obtain⟨a,b4,rfl⟩:=Cc.mp hx;obtain⟨g,Z,hA⟩:=Hz hp i a b4;have c:=AY Z;have W:=Se hg c;have b7:=hA;obtain⟨a',gl,fl,fs,ea,O,hgl,a1,N⟩:=b7;cases ea;have a0: (((gs.take i).map λg=>DQ (DO gs g)).flatten).length<=100:=by
     have:=Qs (gs:=(gs.take i).map (DO gs)) λp hp=>by
      obtain⟨g',b2,rfl⟩:=Bg.mp hp;exact Se hg (Dp b2)
     rw[Bi,Ay,BY]at this;have h8:=hg.len;exact AJ this (by lia)
    generalize Oc: ((gs.take i).map λg=>DQ (DO gs g)).flatten=pre at hL a0;have a9:=DP W.nam;have hsl: (if g.choice then ("choice " :Bc)else "record ").length<=7:=by cases g.choice <;> decide+kernel
    refine Cq (λb H2=>b=[some (.ref l),some (.ref L),some (.ref a)]/\Be H H2/\H2 L=some (.lst ((pre++[Qo (DO gs g)]).map V.str))) ?_ ?_
    ·refine⟨_,rfl,.inl ⟨rfl,_,Cj.of hL⟩,zl 2,λt ht=>?_⟩;have s2:=By (u:=.lst [.str "record ",.str "choice "]) ht;have I:=s2 _ _ (s1 _ _ O);have b3:XM [V.str "record ",V.str "choice "] (if g.choice then 1 else 0)=some (.str (if g.choice then ("choice " :Bc)else "record ")):=by
      cases g.choice
      ·exact GQ
      ·exact Zl
     refine⟨_,rfl,a,_,rfl,Hc I,.inr ⟨g.choice,rfl,t,_,_,_,rfl,rfl,Cj.of AC,b3,_,rfl,a,_,rfl,Eo I,_,_,rfl,rfl,FN (AJ (CC hsl a9) Aa),L,_,_,rfl,rfl,s2 _ _ hL,?_,rfl,(s1.trans s2).put o,?_⟩⟩
     ·rw[Ay];exact DC (by lia)
     ·rw[AC,<-LS _ [_],nv];rfl
    rintro b H2 ⟨rfl,s2,S⟩;refine Cq (λb H3=>∃L,b=[some (.ref l),some (.ref L),some (.ref a)]/\H L=none/\Be H H3/\H3 L=some (.lst ((pre++[Qo (DO gs g)] ++ (DO gs g).fields.map IH).map V.str))) ?_ ?_
    ·refine⟨_,rfl,_,rfl,a,_,rfl,Fp (s2 _ _ O),fl,rfl,⟨_,Cj.of (s2 _ _ a1)⟩,JF (l:=g.fields) (Wk.list (Cj.of (s2 _ _ a1))) N.length (by rw[<-N.length];have:=hg.fl g c;lia) (λf=>.str (IH (GD gs f))) (λj f x hf hx H3 R e hR=>?_) (λD H3 hD e e3=>?_)⟩
     ·obtain⟨k1,k2,k3,k4⟩:=hg.fs g c f (AY hf);exact⟨Sub.set rfl,_,rfl,_,rfl,x,_,gs,f,rfl,(Hq N j f x hf hx).sm (Sm.of (s2.trans e)),hs.sm (Sm.of (s2.trans e)),hg.nms,k1,k2,k3,k4,hR⟩
     ·refine⟨L,D,_,_,rfl,rfl,e _ _ S,e3,?_,λL3 d=>⟨L3,rfl,s2.free (e.free d),(s2.trans e).trans (By d),?_⟩⟩
      ·rw[Ay,Ay,AZ];have:=hg.fl g c;exact FN (by rw[Fm];lia)
      ·rw[AC,<-LS _ ((DO gs g).fields.map IH)];show some (HO.lst (_++g.fields.map λf=>V.str (IH (GD gs f))))=some (HO.lst (_++ ((g.fields.map (GD gs)).map IH).map V.str));rw[Bi,Bi];rfl
    rintro b H3 ⟨L3,rfl,m,e,d⟩;have tk: ((gs.take (i+1)).map λg=>DQ (DO gs g)).flatten=pre++DQ (DO gs g):=by
     rw[Gh,Z,<-Oc];simp only[Option.toList,Ck,List.flatten_append,Bf,Dl,FG,List.flatten_nil,CA]
    rw[tk];have G:=e _ _ O;have B:=e _ _ hgl;refine⟨_,rfl,a,_,rfl,Kc G,zl 0,λt ht=>?_⟩;have s4:=By (u:=.lst []) ht;refine⟨_,_,.lst (Cj.of (s4 _ _ B)) (LZ g.gone),.lst (Cj.of AC) .nil,shaped_ints g.gone,shaped_ints [],_,rfl,?_⟩;rw[qC];by_cases he:g.gone=[]
    ·refine Gc he ⟨L3,_,rfl,m,e.trans s4,?_⟩;rw[s4 _ _ d];unfold DQ So;rw[wm (show(DO gs g).gone=[]from he),CA,FH];rfl
    ·have a3:=s4 _ _ G;have z:=s4 _ _ B;have b0:=hg.gl g c;refine dm he ⟨_,rfl,.inl ⟨rfl,_,Cj.of (s4 _ _ d)⟩,rfl,_,rfl,a,_,rfl,Kc a3,gl,rfl,⟨_,Cj.of z⟩,JF (l:=g.gone) (Wk.list (Cj.of z)) (Ay ..).symm (by rw[Ay];lia) (λn=>.str (toS n)) (λj n x hn hx H5 R s5 hR=>?_) (λD H5 hD s5 e5=>?_)⟩
     ·rw[AT,hn]at hx;cases hx;have:=hg.gb g c n (AY hn);exact⟨Sub.set rfl,_,rfl,n,rfl,Li (by lia),hR _ (Be.refl _)⟩
     ·have M:∀y∈g.gone.map toS,y.length<=3:=λy hy=>by
       obtain⟨n,hn,rfl⟩:=Bg.mp hy;exact Ik (hg.gb g c n hn)
      have U:=s4.trans s5;refine⟨" ",D,g.gone.map toS,rfl,rfl,Cj.of (by rw[e5,Bi];rfl),No (by rw[Ay];lia) (λy hy=>AJ (M y hy) Aa) Ab,_,_,rfl,rfl,?_,L3,_,_,rfl,rfl,U _ _ d,?_,L3,_,rfl,m,(e.trans U).put m,?_⟩
      ·rw[IE];have:=Ql (ys:=g.gone.map toS) (n:=10) (by rw[Ay];exact b0) M Aa;exact FN (AJ (CC (show(BJ "gone ").length<=5 by decide+kernel) (RI _ _)) (by
        have h2:=PH M;rw[Ay]at h2;rw[show(⟨#[32]⟩:Bc).length=1 from rfl,Ay]
        lia))
      ·rw[Ay,AZ,AZ,Ay];have:=W.len;exact DC (by rw[Fm];lia)
      ·rw[AC];unfold DQ So kf;rw[wk (show ¬ (DO gs g).gone=[]from he)];have eg:Eb " " ("gone" ::g.gone.map toS)=("gone " :Bc) ++Eb " " (g.gone.map toS):=by
        cases b1:g.gone with
        |nil=>exact wo b1 he
        |cons n r=>
         rw[Bf,GO,show("gone " :Bc)=("gone" :Bc) ++ (" " :Bc)by decide+kernel]
       rw[show(DO gs g).gone=g.gone from rfl,eg,<-FH,<-LS _ [_]];simp only[FH,Ck,Bf,Dl,List.cons_append,OT]
   ·obtain⟨L,J,rfl,h1,h2,h3⟩:=h;rw[Ay,<-Y,Dh]at h3;exact⟨L,J,rfl,h1,h2,h3⟩
  rintro b H2 ⟨L,J,rfl,h1,s2,S⟩;exact⟨_,rfl,q L _ h1 s2 S⟩
def Zb:Dt->PyData
 |.non=>.none
 |.bl b=>.bool b
 |.int i=>.int i
 |.str z=>.str z
 |_=>.list []
def nR:Dt->Prop
 |.lst l=>l=[]
 |.dct=>False
 |.str z=>CB z=true
 |_=>True
theorem Th.dat{K:AF}{H:Hp}{d:Dt}{v:V}(hs:nR d)(h:Th H d v):Me K H v (Zb d):=by
 cases d with
 |non=>cases h;exact .non
 |bl b=>cases h;exact .bl b
 |int i=>cases h;exact .int i
 |str z=>obtain⟨rfl,_⟩:=h;exact .str z
 |lst l=>
  obtain⟨a,xs,rfl,ha,hx,_⟩:=h;obtain rfl:l=[]:=hs;obtain rfl:xs=[]:=hx;exact .lst (Cj.of ha) .nil
 |dct=>exact hs.elim
theorem lS{p:Pf}(ho:p.Ok):nR p.dfl:=by
 rcases ho.dfl with e|⟨_,_,hd⟩
 ·rw[e];cases p.kind <;> first|trivial|rfl|exact Do _
 ·rcases hd.dw with⟨b,e⟩|⟨z,e,hz⟩|⟨i,e,_⟩ <;> rw[e]
  ·trivial
  ·exact KZ hz
  ·trivial
theorem sw{n:Int}{z:Bc}{m:Bool}{d:Dt}(hz:CB z=true)(hs:nR d):OR [.int n,.str z,.bool m,Zb d]=true:=by
 cases d <;> first|exact hs.elim|(simp only[Zb,OR,PyData.canLay0];first|(rw[hz];rfl)|(rw[hz,show CB _=true from hs];rfl))
theorem eF{n:Int}{z:Bc}{m:Bool}{d:Dt}(hz:CB z=true)(hs:nR d):Gg (.list [.int n,.str z,.bool m,Zb d])=true:=by
 unfold Gg;rw[AI];refine⟨sw hz hs,wg ?_⟩;cases d <;> first|exact hs.elim|(simp only[Zb,PyData.depth,PyData.depthAll];decide)
def Vy:Sp:=λvs H Q _=>∃v u sv gs f,vs=[v,u,sv]/\Ms H (GD gs f).fx v/\UW H f u/\Nw H gs sv/\CV (gs.map (·.nam))/\f.kind.ok gs.length/\(GD gs f).Ok/\∀H',Be H H'->Q (.bl true) H'
theorem Wm(T:Tx K mg):HL.Et P w K mg base 7 998 ["_law_field_here","_law_due","_law_spec_here"] Vy:=by
 have j:=@Xj P w K mg base T;refine(T.df 54 rfl).ok Oy (λvs H Q E h=>?_) (λcdv A outer s H vs Q E B h=>?_)
 ·obtain⟨v,u,sv,gs,f,rfl,_⟩:=h;rfl
 ·obtain⟨v,u,sv,gs,f,rfl,hF,hf,hs,hn,hok,ho,q⟩:=h;have I:=B.units;have e:=BS (BA (show 1<=64 by decide) _) I;refine⟨_,AV (BV (i:=3) Oy.nd rfl (Bn rfl) (CP (Ax (BF (pv 0) rfl) (Ax (BF (pv 0) rfl) (Ax (BF (pv 0) rfl) (Ax (BF (pv 0) rfl) AA)))))) (Bh (BH (PW.pt (GA (Bp (Pa I) (pv 3) (CP (Ax (BK e (pv 1) AQ (λ_ _=>rfl)) (Ax (BK e (pv 1) AQ (λ_ _=>rfl)) (Ax (BK e (pv 1) AQ (λ_ _=>rfl)) (Ax (BK e (pv 1) AQ (λ_ _=>rfl)) AA))))) (Bw _)) (FS (CK (BI (Bl (BC K rfl) rfl T.Bv Br (Ax (BF (pv 0) rfl) (Ax (QV T.OW Ma) AA)))))))) (AD (AN DA))
    Bd)
   (Bh (BH (Bp Ih (Bl (BC K rfl) rfl T.Bv Br (Ax (BF (pv 0) rfl) (Ax (QV T.OW Ma) AA))) (Bl (BC K rfl) rfl T.Bv Br (Ax (BK e (pv 1) AQ (λ_ _=>rfl)) (Ax (QV T.OW Ma) AA))) (Bw _)) (AD (AN DA))
    Bd)
   (AD (AN (EY De (Gr Db Fk Fj NP AQ (Ax (DS (P:=P) (w:=w) (K:=K) (mg:=mg) (base:=base) (k:=3) rfl rfl rfl rfl rfl (BF (pv 0) rfl) (B.mono Aa) CL) AA)) (AW j (B.mono Aa) T.To (Ax (BK e (pv 1) AQ (λ_ _=>rfl)) (Ax (pv 2) AA))) (Bw _)))))),?_⟩
  obtain⟨a,dx,n,z,k,m,d,rfl,ha,rfl,⟨rfl,_⟩,N,rfl,hd⟩:=hF;obtain⟨b,U,O,rfl,hb,Y,x⟩:=hf;have c:=lS ho;have r:=KZ ho.nam;refine⟨_,rfl,a,_,dx,_,_,rfl,ha,T.Ce,T.DM,rfl,_,rfl,a,_,dx,_,_,rfl,ha,T.Ce,T.EU,rfl,_,rfl,a,_,dx,_,_,rfl,ha,T.Ce,T.EV,rfl,_,rfl,a,_,dx,_,_,rfl,ha,T.Ce,T.DU,rfl,zl 4,λL hL=>?_⟩;have s1:=By (u:=.lst [.int f.num,.str f.nam,.bl f.must,d]) hL;refine Cq (λg H2=>g=[some (.ref a),some (.ref b),some sv,some (.ref L)]/\Be H H2) ?_ ?_
  ·have p:=s1 _ _ hb;refine⟨_,rfl,_,rfl,b,_,rfl,Dn p,_,rfl,b,_,rfl,Fd p,_,rfl,b,_,rfl,Kd p,_,rfl,b,_,rfl,EI p,zl 4,λM Z=>?_⟩;have s2:=By (u:=.lst [.int f.num,.str f.nam,.bl f.must,O]) Z;have o:=s1.trans s2;have d1:Me K _ d (Zb f.dfl):=Th.dat c (Th.sm (Sm.of o) _ _ hd);have d2:Me K _ O (Zb f.dfl):=Th.dat c (Th.sm (Sm.of o) _ _ x);refine⟨_,_,.lst (Cj.of (s2 _ _ AC)) (.cons (.int f.num) (.cons (.str f.nam) (.cons (.bl f.must) (.cons d1 .nil)))),.lst (Cj.of AC) (.cons (.int f.num) (.cons (.str f.nam) (.cons (.bl f.must) (.cons d2 .nil)))),eF r c,eF r c,_,rfl,?_⟩;have er:KE (.list [.int f.num,.str f.nam,.bool f.must,Zb f.dfl]) (.list [.int f.num,.str f.nam,.bool f.must,Zb f.dfl])=true:=SeqAt.eqv_refl _ (sw r c);rw[er];exact Ch ⟨_,rfl,a,_,dx,_,_,rfl,o _ _ ha,T.Ce,T.EV,rfl,_,.ty "bool",_,_,_,rfl,.bl f.must,rfl,dj T (.bl f.must),_,rfl,Ch ⟨rfl,o⟩⟩
  rintro g H2 ⟨rfl,s2⟩;refine Cq (λg R=>g=[some (.ref a),some (.ref b),some sv,some (.ref L)]/\H2=R) ?_ ?_
  ·have D:=Th.sm (Sm.of s2) _ _ hd;have t:=Th.sm (Sm.of s2) _ _ x;exact⟨_,rfl,a,_,dx,_,_,rfl,s2 _ _ ha,T.Ce,T.DU,rfl,_,.ty "bool",_,_,_,rfl,D.ty,rfl,dj T _,_,rfl,b,_,rfl,EI (s2 _ _ hb),_,.ty "bool",_,_,_,rfl,t.ty,rfl,dj T _,rfl,_,rfl,Gc rfl ⟨rfl,rfl⟩⟩
  rintro g R ⟨rfl,rfl⟩;obtain⟨b2,bx,fs,rfl,G,C⟩:=(N.sm (Sm.of s2)).ins ho.kind.fine.isK;refine⟨rfl,_,rfl,a,_,dx,_,_,rfl,s2 _ _ ha,T.Ce,T.DN,rfl,b2,_,bx,fs,_,rfl,G,C _ Aa Aa Aa,kG T ho.kind,_,rfl,N.sm (Sm.of s2),λW H4 hW s4 e4=>?_⟩;have J:=KU ho.kind;refine⟨" ",W,_,rfl,rfl,Cj.of e4,No (AJ J.1 Aa) (λy X=>AJ (J.2 y X) Aa) Ab,?_⟩;have l:=s2.trans s4;refine⟨_,rfl,b,_,rfl,DD (l _ _ hb),_,rfl,(gs,f.kind),U,sv,rfl,Y.sm (Sm.of l),hs.sm (Sm.of l),hn,hok,λH5 S=>⟨rfl,?_⟩⟩;rw[show decide (V.str (Eb " " (Cy (GD gs f).kind))=V.str (Mm gs f.kind))=true from wg rfl];exact q _ (l.trans S)
theorem fA{a b:AE}{xs ys:List V}{g:TG}{tb:TS}{D:WL}{σ:L2.St}{H:Hp}(Pv:Nat->L2.St->Hp->Prop)(h0:Pv 0 σ H)(q:∀i σ H,Pv i σ H->H a=some (.lst xs)/\H b=some (.lst ys))(hs:∀i x y T σ H,xs[i]?=some x->ys[i]?=some y->Pv i σ H->H T=none->g (.ref T) σ (upd H T (.tup [x,y])) λc H2=>tb {D with nx:=Pv (i+1),ct:=Pv (i+1),bk:=D.nx} c H2)(hd:∀i σ H,i<=xs.length->Pv i σ H->D.nx σ H):
  ∃W:Nat->Nat->L2.St->Hp->Prop,(∃m,W 0 m σ H)/\∀i m σ H,W i m σ H->((qU a b).stop i H/\D.nx σ H)\/((qU a b).go i H/\∃N:L2.St->Hp->Prop,(∀d H',N d H'->∃j,j<m/\W (i+1) j d H')/\∀x H',(qU a b).yld i H x H'->g x σ H' λc H2=>tb {D with nx:=N,ct:=N,bk:=D.nx} c H2):=by
 refine⟨λi m σ H=>m=xs.length - i/\i<=xs.length/\Pv i σ H,⟨xs.length,by simp,Ci _,h0⟩,?_⟩;rintro i m σ H ⟨rfl,hi,p⟩;obtain⟨ha,hb⟩:=q i σ H p;by_cases e:i<xs.length/\i<ys.length
 ·refine .inr ⟨⟨xs,ys,_,_,ha,hb,Az e.1,Az e.2⟩,Pv (i+1),λd H' n=>⟨xs.length - (i+1),by lia,rfl,e.1,n⟩,λv H' y=>?_⟩;obtain⟨T,l,k,x,y,rfl,r,rfl,h,f,hx,o⟩:=y;rw[ha]at h;rw[hb]at f;cases h;cases f;exact hs i x y T σ H hx o p r
 ·exact .inl ⟨⟨xs,ys,ha,hb,by lia⟩,hd i σ H hi p⟩
theorem UH{b d:Type} [DecidableEq d]{l:List b}{key:b->d}(hnd: (l.map key).Nodup){i:Nat}{x:b}(hx:l[i]?=some x):l.find? (λy=>decide (key y=key x))=some x:=by
 refine NR hx (λy g=>wh λe=>?_) (wg rfl);obtain⟨j,a⟩:=DB.mp g;rw[List.getElem?_take]at a;split at a
 ·rename_i c;have h1: (l.map key)[j]?=some (key x):=by rw[AT,a,<-e];rfl
  have h2: (l.map key)[i]?=some (key x):=by rw[AT,hx];rfl
  obtain⟨k1,k2⟩:=AO.mp h1;obtain⟨k3,f⟩:=AO.mp h2;exact Ft.mp hnd j i k1 k3 c (k2.trans f.symm)
 ·cases a
theorem gC{X:Cx}(K:AF)(a:X.K=K):MI X (DL .NotIn) (uk K true):=by
 subst a;exact Qa
theorem qw{x:Int}{ms:List Int}(h:L2.Vn (.int x) (ms.map V.int)=false):x∉ms:=λhm=>by
 unfold L2.Vn at h;rw[Mz]at h;exact h (.int x) (Bg.mpr ⟨x,hm,rfl⟩) (beq_self_eq_true x)
theorem YZ{b a:Type} [DecidableEq a]{l:List b}{key:b->a}{k:a}(h:k∉l.map key):l.find? (λy=>decide (key y=k))=none:=Gu.mpr λy c e=>h (Bg.mpr ⟨y,c,wj e⟩)
theorem ib{zs:List Bc}(h:CV zs): (BJ "zzzzzzzzzzzz") ∉zs:=λhm=>(h.ok _ hm).2.2 Ab
theorem vA(T:Tx K mg)(c:Bool):HF P w K mg base 2 "field_at" (nG c) WZ:=by
 cases c with
 |false=>exact⟨T.KR,_,_,_,(T.me 39 29 rfl rfl),Sh T,T.Ml⟩
 |true=>exact⟨T.KS,_,_,_,(T.me 44 29 rfl rfl),Sh T,T.Ml⟩
theorem vz(T:Tx K mg)(c:Bool):HF P w K mg base 2 "field_of" (nG c) WY:=by
 cases c with
 |false=>exact⟨T.KR,_,_,_,(T.me 40 30 rfl rfl),Sg T,T.Mj⟩
 |true=>exact⟨T.KS,_,_,_,(T.me 45 30 rfl rfl),Sg T,T.Mj⟩
theorem uG: ((Aw:List Bc) ++ ([]:List Bc)).Nodup:=by decide+kernel
theorem uA: ((["_law_k"]:List Bc) ++ (["_law_marks"]:List Bc)).Nodup:=by decide+kernel
theorem uB: ((["_law_k"]:List Bc) ++ (["_law_form"]:List Bc)).Nodup:=by decide+kernel
theorem uz: ((["_law_name"]:List Bc) ++ (["_law_form"]:List Bc)).Nodup:=by decide+kernel
def Yn:Sp:=λvs H Q _=>∃v u sv gs g,vs=[v,u,sv]/\Jm H (DO gs g).gx v/\SQ H g u/\Nw H gs sv/\hY gs/\g∈gs/\CV (g.fields.map (·.nam))/\(g.fields.map (·.num)).Nodup/\∀H',Be H H'->Q (.bl true) H'
theorem YL(T:Tx K mg):HL.Et P w K mg base 8 1003 ["_law_form","_law_due","_law_spec_here"] Yn:=by
 have m:=@Wm P w K mg base T;refine(T.df 55 rfl).ok HN (λvs H Q E h=>?_) (λcdv A outer s H vs Q E hr h=>?_)
 ·obtain⟨v,u,sv,gs,g,rfl,_⟩:=h;rfl
 ·obtain⟨v,u,sv,gs,g,rfl,hG,hg,hs,ho,hm,a8,hnd,q⟩:=h;have hu:=hr.units;have e:=BS (BA (show 1<=64 by decide) _) hu;refine⟨_,Bh (BH (PW.pt (GA (Bp Ih (BF (pv 0) rfl) (BK e (pv 1) AQ (λ_ _=>rfl)) (Bw _)) (GA (Bp Ih (DS (P:=P) (w:=w) (K:=K) (mg:=mg) (base:=base) (k:=1) rfl rfl rfl rfl rfl (pv 0) (hr.mono Aa) CL) (BK e (pv 1) AQ (λ_ _=>rfl)) (Bw _)) (FS (Bp (Pa hu) (BF (pv 0) rfl) (BK e (pv 1) AQ (λ_ _=>rfl)) (Bw _)))))) (AD (AN DA))
    Bd)
   (Bh (BH (PW.pt (GA (CK (BI (Bl (BC K rfl) rfl T.Bv Br (Ax (BF (pv 0) rfl) (Ax (QV T.Ho FU) AA))))) (FS (Bp Ih (Bl Cs (by rfl) T.Fy Eg (Ax (BF (pv 0) rfl) AA)) (Bl Cs (by rfl) T.Fy Eg (Ax (BK e (pv 1) AQ (λ_ _=>rfl)) AA)) (Bw _))))) (AD (AN DA))
    Bd)
   (Bh (JA DT rfl (jh rfl T.nY (Ax (BF (pv 0) rfl) (Ax (BK e (pv 1) AQ (λ_ _=>rfl)) AA))) (Ue rfl (n:=2) (Ha (Cb (i:=3) HN.nd rfl (Bn rfl)) (Ha (Cb (i:=4) HN.nd rfl (Bn rfl)) PV))) (Bh (BH (PW.pt (GA (CK (BI (AW m (hr.mono Aa) (T.d3 54 rfl λ_ _ _ _ _ _ _ _ _=>rfl) (Ax (pv 3) (Ax (pv 4) (Ax (pv 2) AA)))))) (FS (Bp Ih (BF (JB (P:=P) (w:=w) (K:=K) (mg:=mg) (base:=base) (k:=2) rfl rfl rfl rfl rfl (pv 0) (hr.mono Aa) CL (Ax (BK e (pv 4) AQ (λ_ _=>rfl)) AA)) rfl) (BK e (pv 4) AQ (λ_ _=>rfl)) (Bw _))))) (AD (AN DA))
      Bd)
     (AD (BH (Bp Ih (BF (JB (P:=P) (w:=w) (K:=K) (mg:=mg) (base:=base) (k:=2) rfl rfl rfl rfl rfl (pv 0) (hr.mono Aa) CL (Ax (BK e (pv 4) AQ (λ_ _=>rfl)) AA)) rfl) (BK e (pv 4) AQ (λ_ _=>rfl)) (Bw _)) (AD (AN DA))
      Bd))))
   (Bh (BV (i:=5) HN.nd rfl (Cw rfl) (CJ (ts:=Aw) (xs:=[]) (js:=[]) rfl ⟨rfl,rfl,Ab,Ab,CZ rfl⟩ .nil Ab (CU (BK e (pv 1) AQ (λ_ _=>rfl))) (λC s_ H_ fp=>Cb (X:=Di _ _ _ C s_ H_ fp) (i:=0) uG rfl (Bn rfl) (Cw rfl)) (λC s_ H_ fp=>CT (X:=Di _ _ _ C s_ H_ fp)) (λC s_ H_ fp=>BK (X:=Di _ _ _ C s_ H_ fp) e (pv 0) AQ (λ_ _=>rfl))))
   (Bh (LN (i:=6) (ts:=["_law_k"]) (xs:=["_law_marks"]) (js:=[5]) rfl ⟨rfl,rfl,Ab,Ab,CZ rfl⟩ (.cons rfl (.inl rfl) rfl .nil) Ab (Rq (DG (Ax AH (Ax AH (Ax AH (Ax AH (Ax AH AA))))))) (λC s_ H_ fp=>Cb (X:=Di _ _ _ C s_ H_ fp) (i:=0) uA rfl (Bn rfl) (Cw rfl)) (λC s_ H_ fp=>LP (X:=Di _ _ _ C s_ H_ fp) (Bp (gC K rfl) (pv 0) (pv 1) rfl)) (λC s_ H_ fp=>pv (X:=Di _ _ _ C s_ H_ fp) 0) HN.nd rfl (Bn rfl) rfl)
   (Bh (BH (Bp (Pa hu) (CJ (ts:=["_law_k"]) (xs:=["_law_form"]) (js:=[0]) rfl ⟨rfl,rfl,Ab,Ab,CZ rfl⟩ (.cons rfl (.inl rfl) rfl .nil) Ab (CU (pv 6)) (λC s_ H_ fp=>Cb (X:=Di _ _ _ C s_ H_ fp) (i:=0) uB rfl (Bn rfl) (Cw rfl)) (λC s_ H_ fp=>LP (X:=Di _ _ _ C s_ H_ fp) (Bp PZ (JB (X:=Di _ _ _ C s_ H_ fp) (P:=P) (w:=w) (K:=K) (mg:=mg) (base:=base) (k:=2) rfl rfl rfl rfl rfl (pv 1) (hr.mono Aa) CL (Ax (pv 0) AA)) CO (Bw _))) (λC s_ H_ fp=>pv (X:=Di _ _ _ C s_ H_ fp) 0)) (CP AA) (Bw _)) (AD (AN DA))
    Bd)
   (AD (AN (EY (Ug hu) (CJ (ts:=["_law_name"]) (xs:=["_law_form"]) (js:=[0]) rfl ⟨rfl,rfl,Ab,Ab,CZ rfl⟩ (.cons rfl (.inl rfl) rfl .nil) Ab (Rq (DG (Ax AQ (Ax CO (Ax AH AA))))) (λC s_ H_ fp=>Cb (X:=Di _ _ _ C s_ H_ fp) (i:=0) uz rfl (Bn rfl) (Cw rfl)) (λC s_ H_ fp=>LP (X:=Di _ _ _ C s_ H_ fp) (Bp PZ (JB (X:=Di _ _ _ C s_ H_ fp) (P:=P) (w:=w) (K:=K) (mg:=mg) (base:=base) (k:=2) rfl rfl rfl rfl rfl (pv 1) (hr.mono Aa) CL (Ax (pv 0) AA)) CO (Bw _))) (λC s_ H_ fp=>pv (X:=Di _ _ _ C s_ H_ fp) 0)) (CP AA) (Bw _))))))))),?_⟩
  have B:=Se ho hm;have F:=hG;obtain⟨a,dx,z,fv,l,rfl,ha,⟨rfl,_⟩,⟨fl,fs,rfl,N,U⟩,hl⟩:=hG;have U:=Ld (Ld U);obtain⟨d,gl,dl,ys,rfl,hd,hgl,I,Y⟩:=hg;have J:=IS T g.choice;have b0:g.fields.length=fs.length:=U.length;have a9:g.fields.length=ys.length:=Y.length;have c8:=ho.fl g hm;refine Cq (λc H'=>c=[some (.ref a),some (.ref d),some sv,none,none,none,none]/\H=H') ?_ ?_
  ·refine⟨_,rfl,a,_,dx,_,_,rfl,ha,J.cl,J.n1,rfl,_,rfl,d,_,rfl,Eo hd,rfl,_,rfl,Gc rfl ⟨_,rfl,a,_,dx,_,_,rfl,ha,rfl,NU T g.choice,_,rfl,_,rfl,d,_,rfl,Hc hd,rfl,_,rfl,Gc rfl ⟨_,rfl,a,_,dx,_,_,rfl,ha,J.cl,J.n3,rfl,_,rfl,d,_,rfl,Kc hd,_,_,.lst (Cj.of hl) (LZ g.gone),.lst (Cj.of hgl) (LZ g.gone),shaped_ints g.gone,shaped_ints g.gone,_,rfl,?_⟩⟩⟩;have er:KE (.list (g.gone.map PyData.int)) (.list (g.gone.map PyData.int))=true:=SeqAt.eqv_refl _ (by have:=shaped_ints g.gone;unfold Gg at this;exact(JP.mp this).1);rw[er];exact Ch ⟨rfl,rfl⟩
  rintro c H' ⟨rfl,rfl⟩;refine Cq (λc H'=>c=[some (.ref a),some (.ref d),some sv,none,none,none,none]/\H=H') ?_ ?_
  ·exact⟨_,rfl,a,_,dx,_,_,rfl,ha,J.cl,J.n2,rfl,_,.ty "list",_,_,_,rfl,.lst N,rfl,T.FM,_,rfl,Ch ⟨_,rfl,a,_,dx,_,_,rfl,ha,J.cl,J.n2,rfl,fl,_,rfl,.inl (Cj.of N),_,rfl,d,_,rfl,Fp hd,dl,_,rfl,.inl (Cj.of I),rfl,_,rfl,Gc (by rw[<-b0,<-a9]) ⟨rfl,rfl⟩⟩⟩
  rintro c H' ⟨rfl,rfl⟩;refine Cq (λc H'=>(∃W v4,c=[some (.ref a),some (.ref d),some sv,W,v4,none,none])/\Be H H') ?_ ?_
  ·refine⟨_,rfl,a,_,dx,_,_,rfl,ha,J.cl,J.n2,rfl,_,rfl,d,_,rfl,Fp hd,fl,dl,fs,ys,rfl,N,I,fA (λi c H'=>(∃W v4,c=[some (.ref a),some (.ref d),some sv,W,v4,none,none])/\Be H H') ⟨⟨_,_,rfl⟩,Be.refl _⟩ (λi c H' h=>⟨h.2 _ _ N,h.2 _ _ I⟩) (λi x y T' c H1 hx hy h c0=>?_) (λi c H' _ h=>h)⟩;obtain⟨⟨W,v4,rfl⟩,s1⟩:=h;obtain⟨f,S⟩:∃f,g.fields[i]?=some f:=⟨_,Az (by rw[b0];exact(AO.mp hx).1)⟩;have b9:=AY S;have hF:=Hq U i f x S hx;have hS:=Hq Y i f y S hy;have s2:=s1.trans (By (u:=.tup [x,y]) c0);obtain⟨k1,k2,k3,k4⟩:=ho.fs g hm f b9;have a7: (DO gs g).fields[i]?=some (GD gs f):=by show(g.fields.map (GD gs))[i]?=_;rw[AT,S];rfl
   have f1: (DO gs g).fields.find? (λp=>decide (p.num=f.num))=some (GD gs f):=UH (key:=Pf.num) (x:=GD gs f) (by show((g.fields.map (GD gs)).map Pf.num).Nodup;rw[Bi];exact hnd) a7;have f2: (DO gs g).fields.find? (λp=>decide (p.nam=f.nam))=some (GD gs f):=UH (key:=Pf.nam) (x:=GD gs f) (by show((g.fields.map (GD gs)).map Pf.nam).Nodup;rw[Bi];exact a8.nd) a7;refine⟨T',[x,y],rfl,DW.of AC,rfl,x,[y],rfl,y,[],rfl,rfl,?_⟩;have c1:=hS;obtain⟨b,kv,dv,rfl,hb,_⟩:=c1;refine Cq (λc o=>c=[some (.ref a),some (.ref d),some sv,some x,some (.ref b),none,none]/\Be H o) ?_ ?_
   ·refine⟨_,rfl,_,rfl,_,rfl,x,_,sv,gs,f,rfl,Ms.sf (Sm.of s2).sf hF,hS.sm (Sm.of s2),hs.sm (Sm.of s2),ho.nms,k1,jk ho.nms k1 k2 k3.1 k4,λo s4=>⟨_,rfl,Ch ?_⟩⟩;have G:=s2.trans s4;have fq:∀{R:VK},(∀u H',Be o H'->Ms H' (GD gs f).fx u->R u H')->QI o R (λH p u=>Ms H (Pf.fx p) u) ((DO gs g).fields.find? λp=>decide (p.num=f.num)):=λh=>by rw[f1];exact h
    refine⟨_,rfl,a,_,dx,_,_,rfl,G _ _ ha,rfl,vA T g.choice,_,rfl,b,_,rfl,Dn (G _ _ hb),_,DO gs g,f.num,rfl,F.sm (Sm.of G),B,fq λu H5 r Z=>?_⟩;obtain⟨fa,a3,_,_,_,_,_,rfl,a2,_,⟨rfl,_⟩,_⟩:=Z;exact⟨fa,_,a3,_,_,rfl,a2,T.Ce,T.EU,rfl,_,rfl,b,_,rfl,Fd ((G.trans r) _ _ hb),rfl,_,rfl,Gc rfl ⟨rfl,G.trans r⟩⟩
   rintro c o ⟨rfl,s4⟩;have fq:∀{R:VK},(∀u H',Be o H'->Ms H' (GD gs f).fx u->R u H')->QI o R (λH p u=>Ms H (Pf.fx p) u) ((DO gs g).fields.find? λp=>decide (p.nam=f.nam)):=λh=>by rw[f2];exact h
   refine⟨_,rfl,a,_,dx,_,_,rfl,s4 _ _ ha,rfl,vz T g.choice,_,rfl,b,_,rfl,Fd (s4 _ _ hb),_,DO gs g,.str f.nam,_,rfl,F.sm (Sm.of s4),B,⟨rfl,AJ (DP k3.1) Aa⟩,.inl ⟨f.nam,rfl,fq λu H5 r Z=>?_⟩⟩;obtain⟨fa,a3,_,_,_,_,_,rfl,a2,rfl,_⟩:=Z;exact⟨fa,_,a3,_,_,rfl,a2,T.Ce,T.DM,rfl,_,rfl,b,_,rfl,Dn ((s4.trans r) _ _ hb),rfl,_,rfl,Gc rfl ⟨⟨_,_,rfl⟩,s4.trans r⟩⟩
  rintro c H1 ⟨⟨W,v4,rfl⟩,s1⟩;refine Cq (λc H2=>Be H H2/\∃M,c=[some (.ref a),some (.ref d),some sv,W,v4,some (.ref M),none]/\H2 M=some (.lst ((g.fields.map (·.num)).map V.int))) ?_ ?_
  ·refine⟨_,rfl,d,_,rfl,Fp (s1 _ _ hd),dl,rfl,⟨_,Cj.of (s1 _ _ I)⟩,JF (l:=g.fields) (Wk.list (Cj.of (s1 _ _ I))) a9 (by lia) (λf=>.int f.num) (λj f x hf hx H2 R s2 hR=>?_) (λD H2 hD s2 e2=>?_)⟩
   ·obtain⟨b,kv,dv,rfl,hb,_⟩:=Hq Y j f x hf hx;exact⟨Sub.set rfl,_,rfl,b,_,rfl,Dn ((s1.trans s2) _ _ hb),hR _ (Be.refl _)⟩
   ·exact⟨s1.trans s2,D,rfl,by rw[e2,Bi];rfl⟩
  rintro c H2 ⟨s2,M,rfl,hM⟩;have nil:∀{X:Hp} {D t:AE},X D=some (.lst [])->X t=some (.lst [])->Me K X (.ref D) (.list [])/\Me K X (.ref t) (.list []):=λh1 h2=>⟨.lst (Cj.of h1) .nil,.lst (Cj.of h2) .nil⟩;have c5:∀{n:Int} {X:Hp} {R:VK},n∉g.fields.map (·.num)->(∀H',Be X H'->R .non H')->QI X R (λH p u=>Ms H (Pf.fx p) u) ((DO gs g).fields.find? λp=>decide (p.num=n)):=λ{n X R} hn h=>by
   rw[YZ (key:=Pf.num) (k:=n) (by show n∉ (g.fields.map (GD gs)).map Pf.num;rw[Bi];exact hn)];exact h
  have c3:∀{z:Bc} {X:Hp} {R:VK},z∉g.fields.map (·.nam)->(∀H',Be X H'->R .non H')->QI X R (λH p u=>Ms H (Pf.fx p) u) ((DO gs g).fields.find? λp=>decide (p.nam=z)):=λ{z X R} hn h=>by
   rw[YZ (key:=Pf.nam) (k:=z) (by show z∉ (g.fields.map (GD gs)).map Pf.nam;rw[Bi];exact hn)];exact h
  refine Cq (λc H3=>Be H H3/\∃M O os,c=[some (.ref a),some (.ref d),some sv,W,v4,some (.ref M),some (.ref O)]/\H3 O=some (.lst (JL V.int os))/\os.length<=5/\∀k∈os,k∉g.fields.map (·.num)) ?_ ?_
  ·refine⟨zl 5,λt ht=>?_⟩;have s3:=By (u:=.tup [.int 0,.int 1,.int 77,.int 200,.int 201]) ht;refine⟨t,rfl,⟨_,DW.of AC⟩,HB (xs:=([0,1,77,200,201]:List Int).map V.int) (Wk.tup (DW.of AC)) Aa (λj=>!L2.Vn (.int (([0,1,77,200,201]:List Int).getD j 0)) ((g.fields.map (·.num)).map V.int)) (λj=>.int (([0,1,77,200,201]:List Int).getD j 0)) (λj x hx o R s4 h1 h0=>?_) (λD o hD s4 e4=>?_)⟩
   ·obtain rfl:x= .int (([0,1,77,200,201]:List Int).getD j 0):=by
     rw[AT]at hx;obtain⟨y,hy,rfl⟩:=Cc.mp hx;rw[AL,hy];rfl
    refine⟨Sub.set rfl,_,rfl,_,rfl,M,_,rfl,.inl (Cj.of ((s3.trans s4) _ _ hM)),rfl,Xw _,_,rfl,FT (λh=>?_) (λh=>?_)⟩
    ·exact⟨_,rfl,h1 _ (Be.refl _) h⟩
    ·exact h0 _ (Be.refl _) (Bool.eq_false_iff.mpr h)
   ·refine⟨(s2.trans s3).trans s4,M,D,((Bm 5).filter λj=>!L2.Vn (.int (([0,1,77,200,201]:List Int).getD j 0)) ((g.fields.map (·.num)).map V.int)).map λj=>([0,1,77,200,201]:List Int).getD j 0,rfl,e4.trans (wn (λl=>some (HO.lst l)) Bi.symm),?_,λk hk=>?_⟩
    ·rw[Ay];exact AJ (Fn _ _) Aa
    ·obtain⟨j,hj,rfl⟩:=Bg.mp hk;exact qw (by simpa using (Eh.mp hj).2)
  rintro c H3 ⟨s3,M,O,os,rfl,hO,h5,b7⟩;refine Cq (λc o=>Be H o/\c=[some (.ref a),some (.ref d),some sv,W,v4,some (.ref M),some (.ref O)]) ?_ ?_
  ·refine⟨_,rfl,O,rfl,⟨_,Cj.of hO⟩,HB (Wk.list (Cj.of hO)) (by rw[Ay];lia) (λ_=>false) (λ_=>.non) (λj x hx o R s4 _ h0=>?_) (λD o hD s4 e4=>?_)⟩
   ·rw[AT]at hx;obtain⟨k,hk,rfl⟩:=Cc.mp hx;have a4:=s3.trans s4;exact⟨Sub.set rfl,_,rfl,a,_,dx,_,_,rfl,a4 _ _ ha,rfl,vA T g.choice,_,rfl,_,DO gs g,k,rfl,F.sm (Sm.of a4),B,c5 (b7 k (AY hk)) λH5 r=>⟨rfl,_,rfl,Gc rfl (h0 _ r rfl)⟩⟩
   ·rw[show(Bm _).filter (λ_=>false)=[]from Oh.mpr (λ_ _=>Bj),Dl]at e4;refine⟨zl 0,λt ht=>?_⟩;have r:=By (u:=.lst []) ht;obtain⟨d1,d2⟩:=nil (r _ _ e4) AC;exact⟨_,_,d1,d2,shaped_ints [],shaped_ints [],_,rfl,Ch ⟨(s3.trans s4).trans r,rfl⟩⟩
  rintro c o ⟨s4,rfl⟩;refine⟨zl 3,λt ht=>?_⟩;have r:=By (u:=.tup [.str "zzzzzzzzzzzz",.non,.int 5]) ht;refine⟨t,rfl,⟨_,DW.of AC⟩,HB (xs:=[.str "zzzzzzzzzzzz",.non,.int 5]) (Wk.tup (DW.of AC)) Aa (λ_=>false) (λ_=>.non) (λj x hx H5 R s6 _ h0=>?_) (λD H5 hD s6 e6=>?_)⟩
  ·have L:=(s4.trans r).trans s6;refine⟨Sub.set rfl,_,rfl,a,_,dx,_,_,rfl,L _ _ ha,rfl,vz T g.choice,_,rfl,?_⟩;have a6:=AY hx;simp only[AU,BL,or_false]at a6;rcases a6 with rfl|rfl|rfl
   ·exact⟨_,DO gs g,.str "zzzzzzzzzzzz",_,rfl,F.sm (Sm.of L),B,⟨rfl,Ab⟩,.inl ⟨_,rfl,c3 (ib a8) λH6 s7=>⟨rfl,_,rfl,Gc rfl (h0 _ s7 rfl)⟩⟩⟩
   ·exact⟨_,DO gs g,.non,_,rfl,F.sm (Sm.of L),B,rfl,.inr ⟨rfl,rfl,_,rfl,Gc rfl (h0 _ (Be.refl _) rfl)⟩⟩
   ·exact⟨_,DO gs g,.int 5,_,rfl,F.sm (Sm.of L),B,rfl,.inr ⟨rfl,rfl,_,rfl,Gc rfl (h0 _ (Be.refl _) rfl)⟩⟩
  ·rw[show(Bm _).filter (λ_=>false)=[]from Oh.mpr (λ_ _=>Bj),Dl]at e6;refine⟨zl 0,λt ht=>?_⟩;have s7:=By (u:=.lst []) ht;obtain⟨d1,d2⟩:=nil (s7 _ _ e6) AC;exact⟨_,_,d1,d2,shaped_ints [],shaped_ints [],q _ (((s4.trans r).trans s6).trans s7)⟩
theorem uw: ((["_law_thing"]:List Bc) ++ (["_law_book"]:List Bc)).Nodup:=by decide+kernel
theorem jS{as:List AE}{a:AE}(h:as.getLast?=some a):XM (as.map V.ref) (-1)=some (.ref a):=by
 have b:0<as.length:=by cases as with|nil=>cases h|cons x r=>exact Nat.succ_pos _
 rw[Qk (by rw[Ay];exact b)];rw[Ek]at h;have:=AO.mp h;simp[this.2]
theorem jT{ns:List Int}{x:Int}:XM ((ns++[x]).map V.int) (-1)=some (.int x):=by
 rw[Qk (by rw[Ay,AZ];exact Nat.succ_pos _)];simp
structure IT(H:Hp)(gs:List SG)(Ws:List Int)(v:V):Prop where
 ex:∃xs ws,pa H xs ws v/\Paired (λg x=>Jm H (DO gs g).gx x) gs xs/\∀(i:Nat) g n,gs[i]?=some g->Ws[i]?=some n->Pl ws g.nam=some n
theorem IT.same{H H':Hp}(s:Be H H'){gs:List SG}{Ws:List Int}{v:V}(h:IT H gs Ws v):IT H' gs Ws v:=by
 obtain⟨xs,ws,⟨a,dx,l,b,e,h1,h2,h3⟩,hp,hw⟩:=h.ex;exact⟨xs,ws,⟨a,dx,l,b,e,s _ _ h1,s _ _ h2,s _ _ h3⟩,L2.Paired.imp' (λ_ _ z=>z.sm (Sm.of s)) hp,hw⟩
theorem bF.of{gs:List SG}{Ws:List Int}(hs:GU gs Ws):bF Ws:=by
 have all:∀k,k<=Ws.length->bF (Ws.take k):=λk=>by
  induction k with
  |zero=>intro _ i w e;rw[List.take_zero]at e;simp at e
  |succ k b=>
   intro d;have hg:gs[k]?=some (gs[k]'(by rw[hs.len];lia)):=Az _;have h0:=b (by lia);have c: (Ws.take k).length=k:=by rw[BY];lia
   have a:=hs.ok k _ hg;have hw:=WT h0 (g:=gs[k]'(by rw[hs.len];lia)) (by rw[c];exact a);rw[Gh,hs.ws k _ hg];exact h0.snoc hw.1 hw.2
 have:=all Ws.length (AX _);rw[Dh]at this;exact this
def lM:Sp:=λvs H Q _=>∃v sv gs Ws,vs=[v,sv]/\IT H gs Ws v/\Nw H gs sv/\GU gs Ws/\1<=gs.length/\gs.length<=6/\∀H',Be H H'->Q (.bl true) H'
theorem mG(T:Tx K mg):HL.Et P w K mg base 9 1008 ["_law_book","_law_spec_here"] lM:=by
 have r:=@YL P w K mg base T;have B:=@Uk P w K mg base T;have L:=@cZ P w K mg base T;refine(T.df 56 rfl).ok Tb (λvs H Q E h=>?_) (λcdv A outer s H vs Q E Y h=>?_)
 ·obtain⟨v,sv,gs,Ws,rfl,_⟩:=h;rfl
 ·obtain⟨v,sv,gs,Ws,rfl,hB,hs,hS,h1,h6,q⟩:=h;have hu:=Y.units;have W:=BS (BA (show 1<=64 by decide) _) hu;refine⟨_,Bh (BH (PW.pt (GA (Bp Ih (Bl Cs (by rfl) T.Fy Eg (Ax (BF (pv 0) rfl) AA)) (Bl Cs (by rfl) T.Fy Eg (Ax (pv 1) AA)) (Bw _)) (FS (Bp Ih (BF (ah (pv 0) T.Hi (T.me 48 35 rfl rfl) (mN T) (Y.mono Aa) (HL.b1 (T.mf 35 rfl) λ_ _ _ _ _ _ _=>rfl) .nil CL) rfl) (BK W (Cp CM (pv 1) (PX Lz AH) (λ_ _=>rfl)) AQ (λ_ _=>rfl)) (Bw _))))) (AD (AN DA))
    Bd)
   (AV (BV (i:=2) Tb.nd rfl (Bn rfl) (CP AA))
   (Bh (JA DT rfl (jh rfl T.nY (Ax (BF (pv 0) rfl) (Ax (pv 1) AA))) (Ue rfl (n:=2) (Ha (Cb (i:=3) Tb.nd rfl (Bn rfl)) (Ha (Cb (i:=4) Tb.nd rfl (Bn rfl)) PV))) (Bh (EX (Gr BO Cn Cm EF (pv 2) (Ax (AW B (Y.mono Aa) T.RW (Ax (pv 4) (Ax (pv 2) AA))) AA))) (Bh (BH (PW.pt (GA (CK (BI (AW r (Y.mono Aa) (T.d3 55 rfl λ_ _ _ _ _ _ _ _ _=>rfl) (Ax (pv 3) (Ax (pv 4) (Ax (pv 1) AA)))))) (FS (Bp Ih (AW L (Y.mono Aa) (T.d2 25 rfl λ_ _ _ _ _ _ _ _=>rfl) (Ax (pv 0) (Ax (pv 3) AA))) (Cp CM (pv 2) (PX Lz AH) (λ_ _=>rfl)) (Bw _))))) (AD (AN DA))
      Bd)
     (AD (BH (Bp Ih (BF (Te (pv 0) T.Hi T.Mh (Ul T) (Y.mono Aa) T.MT .nil CL (Ax (BK W (pv 4) AQ (λ_ _=>rfl)) AA)) rfl) (BK W (pv 4) AQ (λ_ _=>rfl)) (Bw _)) (AD (AN DA))
      Bd)))))
   (AD (AN (EY (Ug hu) (CJ (ts:=["_law_thing"]) (xs:=["_law_book"]) (js:=[0]) rfl ⟨rfl,rfl,Ab,Ab,CZ rfl⟩ (.cons rfl (.inl rfl) rfl .nil) Ab (Rq (DG (Ax AQ (Ax CO (Ax AH (Ax (CP AA) (Ax aj AA))))))) (λC s_ H_ fp=>Cb (X:=Di _ _ _ C s_ H_ fp) (i:=0) uw rfl (Bn rfl) (Cw rfl)) (λC s_ H_ fp=>LP (X:=Di _ _ _ C s_ H_ fp) (Bp PZ (Te (X:=Di _ _ _ C s_ H_ fp) (pv 1) T.Hi T.Mh (Ul T) (Y.mono Aa) T.MT .nil CL (Ax (pv 0) AA)) CO (Bw _))) (λC s_ H_ fp=>pv (X:=Di _ _ _ C s_ H_ fp) 0)) (CP AA) (Bw _)))))),?_⟩
  have hg:=hS.gsOk (AJ h6 Aa);have hW:=bF.of hS;have g0:=hB;obtain⟨xs,ws,c1,hp,d0⟩:=hB.ex;have c0:=c1;obtain⟨a,dx,l,wa,rfl,ha,hl,d1⟩:=c1;have d7:=hs;obtain⟨sl,as,rfl,hsl,Z⟩:=hs;have a0:gs.length=xs.length:=hp.length;have b3:gs.length=as.length:=Z.length;have J:∀{H':Hp},Be H H'->Paired (λp x=>Jm H' (Pg.gx p) x) (gs.map (DO gs)) xs:=λs'=>cM (L2.Paired.imp' (λ_ _ z=>z.sm (Sm.of s')) hp);have m:∀{H':Hp},Be H H'->pa H' xs ws (.ref a):=λs'=>⟨a,dx,l,wa,rfl,s' _ _ ha,s' _ _ hl,s' _ _ d1⟩;refine Cq (λc H'=>c=[some (.ref a),some (.ref sl),none,none,none]/\H=H') ?_ ?_
  ·have b5:gs[gs.length - 1]?=some (gs[gs.length - 1]'(by lia)):=Az _;have a6:xs[gs.length - 1]?=some (xs[gs.length - 1]'(by lia)):=Az _;have b7:as[gs.length - 1]?=some (as[gs.length - 1]'(by lia)):=Az _;have hG:=Hq hp _ _ _ b5 a6;have hA:=Hq Z _ _ _ b5 b7;obtain⟨fa,c4,_,_,_,f0,b6,⟨rfl,_⟩,_⟩:=hG;obtain⟨b,_,_,_,eb,hb,_⟩:=hA;have fc:=IS T (gs[gs.length - 1]'(by lia)).choice;have e1:xs.getLast?=some (.ref fa):=by rw[Ek,<-a0,a6,f0]
   have e2:as.getLast?=some b:=by rw[Ek,<-b3,b7,V.ref.inj eb]
   exact⟨_,rfl,a,_,dx,_,_,rfl,ha,T.Hi,T.FP,rfl,l,_,rfl,.inl (Cj.of hl),_,rfl,sl,_,rfl,.inl (Cj.of hsl),rfl,_,rfl,Gc (by rw[Ay,<-a0,<-b3]) ⟨_,rfl,a,dx,_,rfl,ha,rfl,_,xs,ws,_,rfl,c0,e1,fa,_,c4,_,_,rfl,b6,fc.cl,fc.n1,rfl,_,rfl,_,rfl,sl,_,_,_,rfl,rfl,Cj.of hsl,jS e2,b,_,rfl,Eo hb,rfl,_,rfl,Gc rfl ⟨rfl,rfl⟩⟩⟩
  rintro c H' ⟨rfl,rfl⟩;refine⟨zl 0,λwl hwl=>?_⟩;have s0:=By (u:=.lst []) hwl;refine Cq (λc H'=>(∃v2 v3 v4,c=[some (.ref a),some (.ref sl),v2,v3,v4])/\Be H H') ?_ ?_
  ·refine⟨_,rfl,a,_,dx,_,_,rfl,s0 _ _ ha,T.Hi,T.FP,rfl,_,rfl,l,sl,xs,as.map V.ref,rfl,s0 _ _ hl,s0 _ _ hsl,fA (λi c H'=>(∃v3 v4,c=[some (.ref a),some (.ref sl),some (.ref wl),v3,v4])/\Be H H'/\H' wl=some (.lst ((Ws.take i).map V.int))) ⟨⟨_,_,rfl⟩,s0,AC⟩ (λi c H' h=>⟨h.2.1 _ _ hl,h.2.1 _ _ hsl⟩) (λi x y T' c H1 hx hy h b8=>?_) (λi c H' _ h=>?_)⟩
   ·obtain⟨⟨v3,v4,rfl⟩,s1,d4⟩:=h;have hi:i<gs.length:=by rw[a0];exact(AO.mp hx).1
    obtain⟨g,G⟩:∃g,gs[i]?=some g:=⟨_,Az hi⟩;have b4:=AY G;rw[AT]at hy;obtain⟨b,e0,rfl⟩:=Cc.mp hy;have hG:=Hq hp i g x G hx;have hA:=Hq Z i g b G e0;have M:=hS.ok i g G;have a8:=hS.ws i g G;have a1: (Ws.take i).length=i:=by rw[BY,<-hS.len];lia
    have s2:=s1.trans (By (u:=.tup [x,.ref b]) b8);have U:upd H1 T' (.tup [x,.ref b]) wl=some (.lst ((Ws.take i).map V.int)):=(By b8) _ _ d4;refine⟨T',[x,.ref b],rfl,DW.of AC,rfl,x,[.ref b],rfl,.ref b,[],rfl,rfl,?_⟩;have e3:bF (Ws.take i):=λj w e=>by
     rw[List.getElem?_take]at e;split at e
     ·exact hW j w e
     ·cases e
    refine Cq (λc H4=>c=[some (.ref a),some (.ref sl),some (.ref wl),some x,some (.ref b)]/\Be H H4/\H4 wl=some (.lst ((Ws.take i++[Hj (Ws.take i) g.choice g.fields]).map V.int))) ?_ ?_
    ·refine⟨_,rfl,.inl ⟨rfl,_,Cj.of U⟩,_,rfl,_,rfl,.ref b,g,wl,Ws.take i,rfl,hA.sm (Sm.of s2),U,e3.bd (by rw[a1];lia),λf hf=>by rw[a1];exact(M.fs f hf).kind,BS M.len Aa,M.ne,λH4 s4=>⟨wl,_,_,rfl,rfl,s4 _ _ U,by rw[Ay,a1];exact DC (by lia),rfl,(s2.trans s4).put hwl,?_⟩⟩;rw[AC,Ck];rfl
    rintro c H4 ⟨rfl,s4,a9⟩;have e4:=hG;obtain⟨fa,c4,_,_,_,rfl,b6,⟨rfl,_⟩,_⟩:=e4;refine Cq (λc S=>c=[some (.ref a),some (.ref sl),some (.ref wl),some (.ref fa),some (.ref b)]/\Be H4 S) ?_ ?_
    ·refine⟨_,rfl,_,rfl,_,rfl,_,_,_,gs,g,rfl,hG.sm (Sm.of s4),hA.sm (Sm.of s4),d7.sm (Sm.of s4),hg,b4,M.nms,?_,λS N=>⟨_,rfl,Ch ⟨_,rfl,_,rfl,_,_,xs,ws,_,g.nam,_,rfl,m (s4.trans N),hG.sm (Sm.of (s4.trans N)),rfl,d0 i g _ G a8,_,rfl,_,rfl,wl,_,_,_,rfl,rfl,Cj.of (N _ _ a9),jT,rfl,_,rfl,Gc rfl ⟨rfl,N⟩⟩⟩⟩;exact(List.nodup_append.mp M.nums.nd).1
    rintro c S ⟨rfl,N⟩;have I:=s4.trans N;obtain⟨b',_,_,_,eb,hb,_⟩:=hA;cases eb;have d8: (gs.map (DO gs))[i]?=some (DO gs g):=by rw[AT,G];rfl
    have f1: (gs.map (DO gs)).find? (λp=>decide (p.nam=g.nam))=some (DO gs g):=UH (key:=Pg.nam) (x:=DO gs g) (by rw[Bi];exact hg.nms.nd) d8;have fq:∀{R:VK},(∀u H',Be S H'->Jm H' (DO gs g).gx u->R u H')->QI S R (λH p u=>Jm H (Pg.gx p) u) ((gs.map (DO gs)).find? λp=>decide (p.nam=g.nam)):=λh=>by rw[f1];exact h
    refine⟨_,rfl,a,dx,_,rfl,I _ _ ha,rfl,_,rfl,b,_,rfl,Eo (I _ _ hb),_,xs,ws,gs.map (DO gs),.str g.nam,_,rfl,m I,J I,⟨rfl,AJ (DP (Se hg b4).nam) Aa⟩,.inl ⟨_,rfl,fq λu H6 O d5=>?_⟩⟩;obtain⟨ga,e8,_,_,_,rfl,d9,⟨rfl,_⟩,_⟩:=d5;have fc:=IS T g.choice;refine⟨ga,_,e8,_,_,rfl,d9,fc.cl,fc.n1,rfl,_,rfl,b,_,rfl,Eo ((I.trans O) _ _ hb),rfl,_,rfl,Gc rfl ⟨⟨_,_,rfl⟩,I.trans O,?_⟩⟩;rw[O _ _ (N _ _ a9),Gh,a8];rfl
   ·obtain⟨⟨v3,v4,rfl⟩,s',_⟩:=h;exact⟨⟨_,_,_,rfl⟩,s'⟩
  rintro c H4 ⟨⟨v2,v3,v4,rfl⟩,s4⟩;refine⟨zl 0,λt1 d6 t2 b0=>⟨zl 5,λt ht=>?_⟩⟩;have N:=((By (u:=.lst []) d6).trans (By (u:=.dK []) b0)).trans (By (u:=.tup [.str "zzzzzzzzzzzz",.non,.int 5,.ref t1,.ref t2]) ht);have e7:=((By (u:=.dK []) b0).trans (By (u:=.tup [.str "zzzzzzzzzzzz",.non,.int 5,.ref t1,.ref t2]) ht)) _ _ (AC (o:=.lst []));have e5:=(By (u:=.tup [.str "zzzzzzzzzzzz",.non,.int 5,.ref t1,.ref t2]) ht) _ _ (AC (o:=.dK []));refine⟨t,rfl,⟨_,DW.of AC⟩,HB (xs:=[.str "zzzzzzzzzzzz",.non,.int 5,.ref t1,.ref t2]) (Wk.tup (DW.of AC)) (by show 5<=1000;decide) (λ_=>false) (λ_=>.non) (λj x hx S R O _ h0=>?_) (λD S hD O e6=>?_)⟩
  ·have d:=(s4.trans N).trans O;refine⟨Sub.set rfl,_,rfl,a,dx,_,rfl,d _ _ ha,rfl,_,rfl,?_⟩;have e9:∀{R:VK},(∀H',Be S H'->R .non H')->QI S R (λH p u=>Jm H (Pg.gx p) u) ((gs.map (DO gs)).find? λp=>decide (p.nam="zzzzzzzzzzzz")):=λh=>by
    rw[YZ (key:=Pg.nam) (k:="zzzzzzzzzzzz") (by rw[Bi];exact ib hg.nms)];exact h
   have a7:=AY hx;simp only[AU,BL,or_false]at a7;rcases a7 with rfl|rfl|rfl|rfl|rfl
   ·exact⟨_,xs,ws,gs.map (DO gs),.str "zzzzzzzzzzzz",_,rfl,m d,J d,⟨rfl,Ab⟩,.inl ⟨_,rfl,e9 λH6 s7=>⟨rfl,_,rfl,Gc rfl (h0 _ s7 rfl)⟩⟩⟩
   ·exact⟨_,xs,ws,gs.map (DO gs),.non,_,rfl,m d,J d,rfl,.inr ⟨rfl,rfl,_,rfl,Gc rfl (h0 _ (Be.refl _) rfl)⟩⟩
   ·exact⟨_,xs,ws,gs.map (DO gs),.int 5,_,rfl,m d,J d,rfl,.inr ⟨rfl,rfl,_,rfl,Gc rfl (h0 _ (Be.refl _) rfl)⟩⟩
   ·exact⟨_,xs,ws,gs.map (DO gs),.lst [],_,rfl,m d,J d,⟨t1,[],rfl,O _ _ e7,rfl,Ci _⟩,.inr ⟨rfl,rfl,_,rfl,Gc rfl (h0 _ (Be.refl _) rfl)⟩⟩
   ·exact⟨_,xs,ws,gs.map (DO gs),.dct,_,rfl,m d,J d,⟨t2,rfl,O _ _ e5⟩,.inr ⟨rfl,rfl,_,rfl,Gc rfl (h0 _ (Be.refl _) rfl)⟩⟩
  ·rw[show(Bm _).filter (λ_=>false)=[]from Oh.mpr (λ_ _=>Bj),Dl]at e6;refine⟨zl 0,λt ht=>?_⟩;have s7:=By (u:=.lst []) ht;exact⟨.list [],.list [],.lst (Cj.of (s7 _ _ e6)) .nil,.lst (Cj.of AC) .nil,shaped_ints [],shaped_ints [],q _ (((s4.trans N).trans O).trans s7)⟩
theorem aD{a:Type}{l:List a}(h:l.Nodup){i j:Nat}{x:a}(hi:l[i]?=some x)(b:l[j]?=some x):i=j:=by
 obtain⟨h1,d⟩:=AO.mp hi;obtain⟨h2,c⟩:=AO.mp b;exact(List.getElem_inj h).mp (d.trans c.symm)
structure Ss(gs:List SG)(Ws:List Int)(k:Nat)(ws:List (Bc×Int)):Prop where
 len:ws.length=k
 at_:∀i,i<k->∃g,gs[i]?=some g/\ws[i]?=some (g.nam,Ws.getD i 0)
theorem bM{gs:List SG}{Ws:List Int}{k:Nat}{ws:List (Bc×Int)}(h:Ss gs Ws k ws)(hn: (gs.map (·.nam)).Nodup){i:Nat}(hi:i<k){g:SG}(hg:gs[i]?=some g):Pl ws g.nam=some (Ws.getD i 0):=by
 obtain⟨g',l,hx⟩:=h.at_ i hi;obtain rfl:g=g':=Ba (hg.symm.trans l);generalize Ws.getD i 0=x at hx ⊢;unfold Pl;have hf:ws.find? (λp=>decide (p.1=g.nam))=some (g.nam,x):=by
  refine List.find?_eq_some_iff_append.mpr ⟨wg rfl,ws.take i,ws.drop (i+1),?_,λp hp=>?_⟩
  ·have a:i<ws.length:=by rw[h.len];exact hi
   have e:ws[i]'a=(g.nam,x):=by rw[Az a]at hx;exact Ba hx
   rw[<-e,<-Fu a,Ja]
  ·obtain⟨j,d⟩:=DB.mp hp;have c:j<i:=by
    have:=(AO.mp d).1;rw[BY]at this
    lia
   rw[FJ c]at d;obtain⟨g2,f,b⟩:=h.at_ j (by lia);obtain rfl:p=(g2.nam,Ws.getD j 0):=Ba (d.symm.trans b);rw[MA,decide_eq_false_iff_not];intro e;have:j=i:=aD hn (by rw[AT,f];rfl) (by rw[AT,hg];show some g.nam=some g2.nam;rw[show g2.nam=g.nam from e])
   lia
 rw[hf];rfl
theorem mP{gs:List SG}{Ws:List Int}{k:Nat}{ws:List (Bc×Int)}(h:Ss gs Ws k ws){z:Bc}(hz:∀i g,i<k->gs[i]?=some g->g.nam≠z):gT ws (.str z)=false:=by
 show(Pl ws z).isSome=false;unfold Pl;rw[Gu.mpr λp hp=>?_]
 ·rfl
 ·obtain⟨j,d⟩:=DB.mp hp;have a:j<k:=by rw[<-h.len];exact(AO.mp d).1
  obtain⟨g2,c,b⟩:=h.at_ j a;obtain rfl:p=(g2.nam,Ws.getD j 0):=Ba (d.symm.trans b);simp only[decide_eq_true_eq];exact hz j g2 a c
theorem LA{gs:List SG}{Ws:List Int}{k:Nat}{ws:List (Bc×Int)}(h:Ss gs Ws k ws)(hn:CV (gs.map (·.nam)))(a:k<=gs.length){kd:Lk}(ho:kd.plain\/∃i,kd= .form i/\i<k):LC ws (EN gs kd)=true:=by
 rcases ho with ho|⟨i,rfl,hi⟩
 ·cases kd with
  |form i=>exact ho.elim
  |list j=>exact ho.elim
  |upto n=>
   show(decide (1<=n) &&decide (n<=MN))=true;have h1:1<=n:=ho.1;have h2:n<=2 ^ 64:=ho.2;rw[wg h1,wg (show n<=MN from Oj h2 Aa)];rfl
  |text n=>
   show(decide (1<=n) &&decide (n<=100))=true;rw[wg ho.1,wg ho.2];rfl
  |_=>rfl
 ·have hg:gs[i]?=some (gs[i]'(by lia)):=Az _;have hx:=bM h hn.nd hi hg;have e:JC gs i=(gs[i]'(by lia)).nam:=by unfold JC;rw[hg];rfl
  show(Fa (JC gs i) && (Pl ws (JC gs i)).isSome)=true;rw[e,hx,(hn.ok _ (Bg.mpr ⟨_,AY hg,rfl⟩)).1];rfl
theorem gO{gs:List SG}{Ws:List Int}{k:Nat}{ws:List (Bc×Int)}(h:Ss gs Ws k ws)(hn:CV (gs.map (·.nam)))(a:k<=gs.length){kd:Lk}(ho:kd.ok k):JE ws (EN gs kd)=true:=by
 cases kd with
 |list j=>exact LA h hn a (kd:=j) ho
 |form i=>exact LA h hn a (kd:=.form i) (.inr ⟨i,rfl,ho⟩)
 |truth=>rfl
 |count=>rfl
 |whole=>rfl
 |upto n=>exact LA h hn a (kd:=.upto n) (.inl ho)
 |text n=>exact LA h hn a (kd:=.text n) (.inl ho)
theorem US(gs:List SG){k:Lk}{n:Nat}(ho:k.ok n):EO (EN gs k) (Dy k)=true:=by
 cases k with
 |upto n=>
  show((decide (0<= (0:Int)) &&decide ((0:Int)<=n)) &&decide ((0:Int)=0))=true;have h1:1<=n:=ho.1;rw[wg (show(0:Int)<=n by lia)];rfl
 |text n=>
  show((!decide ((("" :Bc).length:Int) >n) && ("" :Bc).cps.toList.all Kl) &&decide (("" :Bc)=""))=true;have h1:1<=n:=ho.1;rw[wh (show ¬ (("" :Bc).length:Int) >n by show ¬ ((0:Nat):Int) >n;lia)];rfl
 |list j=>rfl
 |form i=>rfl
 |truth=>rfl
 |count=>exact(by decide+kernel:EO .count (.int 0)=true)
 |whole=>exact(by decide+kernel:EO .whole (.int 0)=true)
theorem VG{z:Bc}(h:Fa z=true):z.cps.toList.all Kl=true:=by
 refine BM.mpr λc hc=>?_;have:=BM.mp (Gj h).2.2 c hc;have hb:=lg this;unfold Kl;rw[wg (show(32:Int)<= (c:Int)by lia),wg (show(c:Int)<=126 by lia),wg (show ¬ (c:Int)=37 by lia)];rfl
theorem hH(gs:List SG){f:SF}{c:Bool}{n:Nat}{W:List Int}(h:ll n W c f):UM (SK gs f) c=true:=by
 have hm: (f.must&&c)=false:=by
  cases hc:c with
  |false=>rw[Lr]
  |true=>rw[h.must hc];rfl
 show(HS (.bl f.must) && (!(f.must&&c) && (EO (EN gs f.kind) f.dfl|| (!(f.must|| (c|| !LO (EN gs f.kind))) && (!(LW (EN gs f.kind) && !EH f.dfl) &&Ez (EN gs f.kind) f.dfl)))))=true;rw[hm];rcases h.dfl with hd|⟨h1,h2,hd⟩
 ·rw[hd,US gs h.kind];rfl
 ·rw[h1,h2];have key:LO (EN gs f.kind)=true/\(LW (EN gs f.kind) && !EH f.dfl)=false/\Ez (EN gs f.kind) f.dfl=true:=by
   cases a:f.kind with
   |truth=>rw[a]at hd;rw[show f.dfl= .bl true from hd];exact⟨rfl,rfl,rfl⟩
   |text n=>
    rw[a]at hd;obtain⟨z,e,hz,b⟩:=hd;rw[e];refine⟨rfl,?_,?_⟩
    ·show(true&& !Fa z)=false;rw[hz];rfl
    ·show(!decide ((z.length:Int) >n) &&z.cps.toList.all Kl)=true;rw[wh (show ¬ (z.length:Int) >n by lia),VG hz];rfl
   |upto m=>
    rw[a]at hd;obtain⟨i,e,h0,h1⟩:=hd;rw[e];refine⟨rfl,rfl,?_⟩;show(decide (0<=i) &&decide (i<=m))=true;rw[wg h0,wg h1];rfl
   |whole=>
    rw[a]at hd;obtain⟨i,e,h0,h1⟩:=hd;rw[e];refine⟨rfl,rfl,?_⟩;show(decide (-MW - 1<=i) &&decide (i<=MW))=true;rw[wg (show -MW - 1<=i from Oj Aa h0),wg (show i<=MW from Oj h1 Aa)];rfl
   |count=>
    rw[a]at hd;obtain⟨i,e,h0,h1⟩:=hd;rw[e];refine⟨rfl,rfl,?_⟩;show(decide (0<=i) &&decide (i<=MN))=true;rw[wg h0,wg (show i<=MN from Oj h1 Aa)];rfl
   |form i=>rw[a]at hd;exact hd.elim
   |list j=>rw[a]at hd;exact hd.elim
  obtain⟨k1,k2,k3⟩:=key;rw[k1,k2,k3];cases EO (EN gs f.kind) f.dfl <;> rfl
theorem gL{gs:List SG}{Ws:List Int}{k:Nat}{ws:List (Bc×Int)}(h:Ss gs Ws k ws)(hn:CV (gs.map (·.nam)))(b:k<=gs.length){f:SF}(ho:f.kind.ok k):FO ws (GH gs f)=Fb (Ws.take k) f.kind:=by
 show eW ws (EN gs f.kind)=_;cases a:f.kind with
 |form i=>
  rw[a]at ho;have hi:i<k:=ho;have hg:gs[i]?=some (gs[i]'(by lia)):=Az _;have hx:=bM h hn.nd hi hg;have e:JC gs i=(gs[i]'(by lia)).nam:=by unfold JC;rw[hg];rfl
  show(Pl ws (JC gs i)).getD 0=(Ws.take k).getD i 0;rw[e,hx,AL,AL,FJ hi];rfl
 |_=>rfl
theorem hq(gs:List SG)(fs:List SF): (fs.map (GH gs)).filter IV=(fs.filter (·.must)).map (GH gs):=by
 rw[List.filter_map];rfl
theorem fU{gs:List SG}{Ws:List Int}{k:Nat}{ws:List (Bc×Int)}(h:Ss gs Ws k ws)(hn:CV (gs.map (·.nam)))(a:k<=gs.length){g:SG}(hg:pb k (Ws.take k) g):EK ws g.choice (g.fields.map (GH gs))=Hj (Ws.take k) g.choice g.fields:=by
 have ld:∀f∈g.fields,FO ws (GH gs f)=Fb (Ws.take k) f.kind:=λf hf=>gL h hn a (hg.fs f hf).kind;unfold EK Hj;have c: (g.fields.map (GH gs)).map (FO ws)=g.fields.map λf=>Fb (Ws.take k) f.kind:=by
  rw[Bi];exact Dj λf hf=>ld f hf
 have b: ((g.fields.map (GH gs)).filter IV).map (FO ws)=(g.fields.filter (·.must)).map λf=>Fb (Ws.take k) f.kind:=by
  rw[hq,Bi];exact Dj λf hf=>ld f (Eh.mp hf).1
 rw[c,b]
theorem dz{gs:List SG}{Ws:List Int}{k:Nat}{ws:List (Bc×Int)}(h:Ss gs Ws k ws)(hs:GU gs Ws)(hW:bF Ws){g:SG}(hg:gs[k]?=some g)(w:gs.length<=6):
  Ip ws (.form ⟨g.choice,.str g.nam,some (g.fields.map (GH gs)),g.gone⟩)="" /\EK ws g.choice (g.fields.map (GH gs))=Ws.getD k 0:=by
 have o:k<gs.length:=(AO.mp hg).1;have hn:=hs.nms;have a:=hs.ok k g hg;have c: (Ws.take k).length=k:=by rw[BY,<-hs.len];lia
 have hw:=fU h hn (Gs o) a;have d:=hs.ws k g hg;have q:=hW k _ d;have s:Ws.getD k 0=Hj (Ws.take k) g.choice g.fields:=by rw[AL,d];rfl
 refine⟨?_,by rw[s];exact hw⟩;have hnm:=hn.ok g.nam (Bg.mpr ⟨g,AY hg,rfl⟩);show(if (Fa g.nam&& !gT ws (.str g.nam))=false then ("name" :Bc)else if HM ⟨g.choice,.str g.nam,some (g.fields.map (GH gs)),g.gone⟩=false then ("many" :Bc)else Nt ws g.choice (g.fields.map (GH gs)) g.gone)=""
 have j:gT ws (.str g.nam)=false:=mP h λi g2 hi l e=>by
  have:i=k:=aD hn.nd (by rw[AT,l];rfl) (by rw[AT,hg];show some g.nam=some g2.nam;rw[e])
  lia
 rw[hnm.1,j,wk Aa];have r: (g.fields.map (GH gs)).length=g.fields.length:=Ay ..;have p:=a.len;have hsz:HM ⟨g.choice,.str g.nam,some (g.fields.map (GH gs)),g.gone⟩=true:=by
  show((decide ((if g.choice then (1:Int)else 0)<= ((g.fields.map (GH gs)).length:Int)) &&decide (((g.fields.map (GH gs)).length:Int)<=10)) &&decide ((g.gone.length:Int)<=10))=true
  have hgl:=a.gl;have n: (if g.choice then (1:Int)else 0)<= ((g.fields.map (GH gs)).length:Int):=by
   cases hc:g.choice with
   |false=>show(0:Int)<=_;lia
   |true=>
    show(1:Int)<=_;have:=Kh.mpr (a.ne hc)
    lia
  rw[wg n,wg (show((g.fields.map (GH gs)).length:Int)<=10 by lia),wg (show(g.gone.length:Int)<=10 by lia)];rfl
 rw[hsz,wk Aa];have mem:∀e∈g.fields.map (GH gs),∃f∈g.fields,e=GH gs f:=λe b=>by
  obtain⟨f,hf,rfl⟩:=Bg.mp b;exact⟨f,hf,rfl⟩
 have n:HQ (g.fields.map (GH gs))=true:=by
  unfold HQ;rw[AI];refine⟨BM.mpr λe b=>?_,wg ?_⟩
  ·obtain⟨f,hf,rfl⟩:=mem e b;exact(a.nms.ok f.nam (Bg.mpr ⟨f,hf,rfl⟩)).1
  ·rw[Bi];show(g.fields.map (·.nam)).Nodup;exact a.nms.nd
 have v:ES (g.fields.map (GH gs)) g.gone=true:=by
  unfold ES Nh;rw[AI,AI];have hb:=a.nums.bd;have am:∀m:Int,1<=m/\m<=200->QE (.int m) 1 200=true:=λm hm=>by
   show(decide (1<=m) &&decide (m<=200))=true;rw[wg hm.1,wg hm.2];rfl
  refine⟨⟨BM.mpr λe b=>?_,BM.mpr λm hm=>am m (hb m (Ca _ hm))⟩,wg ?_⟩
  ·obtain⟨f,hf,rfl⟩:=mem e b;exact am f.num (hb f.num (Dq _ (Bg.mpr ⟨f,hf,rfl⟩)))
  ·rw[Bi];show(g.fields.map (·.num) ++g.gone).Nodup;exact a.nums.nd
 have u: ((g.fields.map (GH gs)).all λe=>JE ws (Mr e))=true:=BM.mpr λe b=>by
  obtain⟨f,hf,rfl⟩:=mem e b;exact gO h hn (Gs o) (a.fs f hf).kind
 have t: (g.fields.map (GH gs)).all (ly g.choice)=true:=BM.mpr λe b=>by
  obtain⟨f,hf,rfl⟩:=mem e b;exact hH gs (a.fs f hf)
 unfold Nt;rw[n,v,u,t,hw,wk Aa,wk Aa,wk Aa,wk Aa,wk];have: (Ws.take k).length=k:=c
 lia
def Np(gs:List SG)(g:SG):Ox:=.form ⟨g.choice,.str g.nam,some (g.fields.map (GH gs)),g.gone⟩
theorem kg{gs:List SG}{Ws:List Int}(hs:GU gs Ws)(hW:bF Ws)(d:gs.length<=6):∀p,p<=gs.length->∃ws,Ss gs Ws p ws/\gX (gs.map (Np gs)) [] 0=gX ((gs.map (Np gs)).drop p) ws p
 |0,_=>⟨[],⟨rfl,λi hi=>wo hi (Nat.not_lt_zero _)⟩,rfl⟩
 |p+1,h2=>by
  obtain⟨ws,ha,e⟩:=kg hs hW d p (by lia);have a:gs[p]?=some (gs[p]'(by lia)):=Az _;have c:p< (gs.map (Np gs)).length:=by rw[Ay];lia
  have f: (gs.map (Np gs)).drop p=Np gs (gs[p]'(by lia)):: (gs.map (Np gs)).drop (p+1):=by
   rw[Fu c,List.getElem_map]
  generalize gs[p]'(by lia)=g at a f;obtain⟨hf,hw⟩:=dz ha hs hW a d;rw[f]at e;unfold Np at e;rw[aT,wm hf]at e;refine⟨ws++[(g.nam,EK ws g.choice (g.fields.map (GH gs)))],⟨by rw[AZ,ha.len];rfl,λi hi=>?_⟩,e⟩;by_cases b:i<p
  ·obtain⟨g',h1,h2⟩:=ha.at_ i b;exact⟨g',h1,by rw[El (by rw[ha.len];exact b)];exact h2⟩
  ·obtain rfl:i=p:=by lia
   refine⟨g,a,?_⟩;rw[Ds (by rw[ha.len];exact AX _),ha.len,Vf,<-hw];rfl
theorem hQ{gs:List SG}{Ws:List Int}(hs:GU gs Ws)(c:gs.length<=6)(h1:1<=gs.length)(hlast:∀g,gs[gs.length - 1]?=some g->g.choice=false):
  ∃ws,Nu (gs.map (Np gs))= .inr ws/\∀(i:Nat) g n,gs[i]?=some g->Ws[i]?=some n->Pl ws g.nam=some n:=by
 have hW:=bF.of hs;obtain⟨ws,ha,e⟩:=kg hs hW c gs.length (AX _);rw[Oi (by rw[Ay];exact AX _)]at e;refine⟨ws,?_,λi g n hg hn=>?_⟩
 ·unfold Nu;rw[e];have a:gs[gs.length - 1]?=some (gs[gs.length - 1]'(by lia)):=Az _;have b: (gs.map (Np gs)).getLast?=some (Np gs (gs[gs.length - 1]'(by lia))):=by rw[Ek,Ay,AT,a];rfl
  have hc:=hlast _ a;rw[b];show(if (gs[gs.length - 1]'(by lia)).choice=true then _ else _)=_
  rw[hc];rfl
 ·have hi:i<gs.length:=(AO.mp hg).1;have:=bM ha hs.nms.nd hi hg;rw[AL,hn]at this;exact this
theorem fg(gs:List SG)(g:SG): (DO gs g).gx=⟨g.choice,.str g.nam,some (g.fields.map (GH gs)),g.gone⟩:=by
 unfold Pg.gx DO;rw[Bi];rfl
theorem aS:∀{k:Kx},k.good->k.may:=by
 intro k;induction k with
 |list k a=>exact λh=>a h.2
 |thing d=>exact λh=>h.elim
 |_=>exact λ_=>trivial
structure lm(g:Pg):Prop where
 fs: (g.fields.map (·.num)).Pairwise (·< ·)
 gone:g.gone.Pairwise (·<= ·)
theorem bA.pg{gs:List SG}{g:SG}(h:bA g):lm (DO gs g):=⟨by
 show((g.fields.map (GD gs)).map (·.num)).Pairwise (·< ·);rw[Bi];exact h.fs,h.gone⟩
def lO:Sp:=λvs H Q _=>∃a g,vs=[.ref a]/\WK H g a/\g.Ok/\lm g/\Lm H/\∀v H',Sm H H'->Lm H'->Jm H' g.gx v->Q v H'
theorem oU{H:Hp}:∀{ps:List Pf} {xs:List V},Paired (λp x=>Ms H (Pf.fx p) x) ps xs->Es H (ps.map λp=>.fld p.fx) xs
 |_,_,.nil=>.nil
 |_,_,.cons a r=>.cons a (oU r)
theorem mK(T:Tx K mg)(u:K.In base):HL.Et P w K mg base 6 848 Aq lO:=by
 refine(T.mf 37 rfl).ok Wc (λvs H Q E h=>?_) (λcdv A outer s H vs Q E D h=>?_)
 ·obtain⟨a,g,rfl,_⟩:=h;rfl
 ·obtain⟨a,g,rfl,hd,hok,hri,z,q⟩:=h;have Pe:FD (4+1) _:=D.mono Aa;refine⟨_,AV (BH (BI (BF (pv 0) rfl)) (AD (AN (DF ⟨T.Ra,T.Kk,T.Hy,T.QY⟩ (GN T u (NT T)) Pe rfl T.NI (Jk T) .nil CL (Ax (BF (pv 0) rfl) (Ax (BF (pv 0) rfl) (Ax (BF (pv 0) rfl) AA))))))
    Bd)
   (AD (AN (DF ⟨T.QZ,T.Kj,T.Hy,T.QX⟩ (GN T u (NS T)) Pe rfl T.NH (Jk T) .nil CL (Ax (BF (pv 0) rfl) (Ax (BF (pv 0) rfl) (Ax (BF (pv 0) rfl) AA)))))),?_⟩
  obtain⟨b,fl,gl,xs,ha,m,hx,hgl⟩:=hd;obtain⟨nam,choice,fields,gone⟩:=g;have F:fields.length<=10:=hok.len;have y:gone.length<=10:=hok.glen;have n:=oU hx;have l:fields.length=xs.length:=hx.length;have i:dM H (some (fields.map λp=>.fld p.fx)) (.ref fl):=⟨fl,xs,rfl,.inl m,n,λe o=>by
   obtain⟨p,hp,rfl⟩:=Bg.mp o;exact aS (hok.fs p hp).kind,by rw[<-l];lia⟩
  have f:dL H gone (.ref gl):=.inr ⟨gl,rfl,.inl hgl,by lia⟩;have hnm:Th H (.str nam) (.str nam):=⟨rfl,AJ (Gj hok.nam).2.1 Aa⟩;have fin:∀v o' H',Sm H H'->Lm H'->XO o' (some (fields.map λp=>.fld p.fx))->Jm H' ⟨choice,.str nam,o',MD gone⟩ v->Q v H':=λv o' H' s' r k B=>by
   obtain⟨t,rfl,C,j⟩:=jl k;have G:t=fields.map λp=>.fld p.fx:=Xc C (j λe o=>by
    obtain⟨p,_,rfl⟩:=Bg.mp o;rfl) (by rw[Bi];exact hri.fs)
   rw[G,TF (.refl _) hri.gone]at B;exact q v H' s' r B
  refine⟨_,rfl,a,_,b,_,_,rfl,ha,T.Em,T.Js,rfl,_,rfl,?_⟩;cases choice with
  |true=>
   refine CY ⟨_,rfl,a,_,b,_,_,rfl,ha,T.Em,T.Lu,rfl,_,rfl,a,_,b,_,_,rfl,ha,T.Em,T.HJ,rfl,_,rfl,a,_,b,_,_,rfl,ha,T.Em,T.Jc,rfl,λx dx hx d hne=>?_⟩;exact Jo (c:=true) hx d hne hnm i f z fin
  |false=>
   refine Ch ⟨_,rfl,a,_,b,_,_,rfl,ha,T.Em,T.Lu,rfl,_,rfl,a,_,b,_,_,rfl,ha,T.Em,T.HJ,rfl,_,rfl,a,_,b,_,_,rfl,ha,T.Em,T.Jc,rfl,λx dx hx d hne=>?_⟩;exact Jo (c:=false) hx d hne hnm i f z fin
inductive SO:List Pg->Option Pg->List (List Bc)->List Pg->Option Pg->Prop
 |nil {i:List Pg} {o:Option Pg}:SO i o [] i o
 |cons {i i' i2:List Pg} {o o' o2:Option Pg} {y:List Bc} {ys:List (List Bc)} (h:hV i o y i' o') (r:SO i' o' ys i2 o2):SO i o (y::ys) i2 o2
theorem SO.app{i i' i2:List Pg}{o o' o2:Option Pg}{ys zs:List (List Bc)}(h:SO i o ys i' o')(r:SO i' o' zs i2 o2):SO i o (ys++zs) i2 o2:=by
 induction h with
 |nil=>exact r
 |cons a _ b=>exact .cons a (b r)
def Rc(g:Pg):List (List Bc):=[if g.choice then ("choice" :Bc)else "record",g.nam]::g.fields.map Ko++ (if g.gone=[]then []else [("gone" :Bc)::g.gone.map toS])
theorem aM(g:Pg):DQ g=(Rc g).map (Ec ⟨#[32]⟩):=by
 unfold DQ Rc;rw[Ck,Bf];congr 1
 ·have b:Qo g=Ec ⟨#[32]⟩ [if g.choice then ("choice" :Bc)else "record",g.nam]:=by
   rw[<-IE,GO,Nn];rfl
  have a:g.fields.map IH=(g.fields.map Ko).map (Ec ⟨#[32]⟩):=by
   rw[Bi];exact Dj λp _=>IE _
  rw[b,a]
 ·unfold So;split
  ·rfl
  ·show [kf g.gone]=[Ec ⟨#[32]⟩ _];rw[<-IE];rfl
theorem Sd{i:List Pg}{z:Bc}{c:Bool}:∀(ps fs:List Pf),(∀p∈ps,p.Ok)->(c=true->∀p∈ps,Fs p=[])->fs.length+ps.length<=20->SO i (some ⟨z,c,fs,[]⟩) (ps.map Ko) i (some ⟨z,c,fs++ps,[]⟩)
 |[],fs,_,_,_=>by rw[CA];exact .nil
 |p::ps,fs,h1,h2,h3=>by
  rw[Cd]at h3;refine .cons (.field (g:=⟨z,c,fs,[]⟩) (h1 p (.head _)) (λe=>h2 e p (.head _)) (by show fs.length<=20;lia)) ?_;have:=Sd (i:=i) (z:=z) (c:=c) ps (fs++[p]) (λq a=>h1 q (.tail _ a)) (λe q a=>h2 e q (.tail _ a)) (by rw[AZ];simp;lia);rw[FH]at this;exact this
structure nS(g:Pg):Prop where
 ok:g.Ok
 rise:lm g
 tail:g.choice=true->∀p∈g.fields,Fs p=[]
theorem pJ{i:List Pg}{o:Option Pg}{g:Pg}(h:nS g)(hi:i.length<=20):SO i o (Rc g) (i++o.toList) (some g):=by
 obtain⟨z,c,fs,gone⟩:=g;have f:fs.length<=10:=h.ok.len;have d:gone.length<=10:=h.ok.glen;have a:=Sd (i:=i++o.toList) (z:=z) (c:=c) fs [] h.ok.fs h.tail (by simp;lia);rw[OT]at a;have b:SO (i++o.toList) (some ⟨z,c,fs,[]⟩) (if gone=[]then []else [("gone" :Bc)::gone.map toS]) (i++o.toList) (some ⟨z,c,fs,gone⟩):=by
  by_cases e:gone=[]
  ·rw[wm e,e];exact .nil
  ·rw[wk e];exact .cons (.gone (g:=⟨z,c,fs,[]⟩) rfl e (by lia) h.ok.gone) .nil
 exact .cons (.head h.ok.nam hi) (a.app b)
theorem eH:∀(gs:List Pg) (i:List Pg) (o:Option Pg),(∀g∈gs,nS g)->i.length+gs.length<=19->∃i' o',SO i o (gs.map Rc).flatten i' o'/\i'++o'.toList=i++o.toList++gs
 |[],i,o,_,_=>⟨i,o,.nil,by rw[CA]⟩
 |g::gs,i,o,h,a=>by
  rw[Cd]at a;have ol:o.toList.length<=1:=by cases o <;> simp
  obtain⟨i',o',r,e⟩:=eH gs (i++o.toList) (some g) (λx hx=>h x (.tail _ hx)) (by rw[AZ];lia);exact⟨i',o',(pJ (h g (.head _)) (by lia)).app r,by rw[e];simp⟩
theorem du(gs:List Pg): (gs.map DQ).flatten=(gs.map Rc).flatten.map (Ec ⟨#[32]⟩):=by
 induction gs with
 |nil=>rfl
 |cons g gs a=>rw[Bf,Bf,FG,FG,Ck,a,aM]
theorem Dr.all{H0 H:Hp}{dl:AE}{ini:List Pg}{o:Option Pg}(h:Dr H0 dl H ini o):Be H0 H/\H0 dl=none/\∃as:List AE,H dl=some (.lst (as.map V.ref))/\Paired (WK H) (ini++o.toList) as:=by
 cases h with
 |nil s h0 hd=>exact⟨s,h0,[],hd,.nil⟩
 |@cur _ g a h=>
  obtain @⟨as,fl,gl,dx,xs,b,h0,h1,h2,n1,n2,n3,hd,hp,ha,hf,hx,hg⟩:=h;refine⟨b,h0,as++[a],hd,Nb (L2.Paired.imp' (λ_ _ z=>z.same Uc) hp) (.cons ⟨dx,fl,gl,xs,Uc _ _ ha,hf,L2.Paired.imp' (λ_ _ z=>Ms.sf (Sm.of Uc).sf z) hx,hg⟩ .nil)⟩
theorem WK.sm{H H':Hp}(s:Sm H H'){g:Pg}{a:AE}(h:WK H g a):WK H' g a:=by
 obtain⟨dx,fl,gl,xs,h1,h2,h3,b⟩:=h;exact⟨dx,fl,gl,xs,s _ _ h1 rfl,s _ _ h2 rfl,L2.Paired.imp' (λ_ _ z=>Ms.sf s.sf z) h3,s _ _ b rfl⟩
theorem mR: ((["draft"]:List Bc) ++ ([]:List Bc)).Nodup:=by decide+kernel
theorem Xm{K:AF}{H:Hp}{Q:VK}{x dx l:AE}{xs:List V}{gs:List Pg}{ws:List (Bc×Int)}(hx:H x=none)(f:H dx=none)(hne:dx≠x)(k:H l=some (.lst xs))(hp:Paired (λg v=>Jm H (Pg.gx g) v) gs xs)(hok:∀g∈gs,g.Ok)(h1:1<=gs.length)(n:gs.length<=8)(hb:Nu (gs.map λg=>.form g.gx)= .inr ws)(q:∀H',Be H H'->Zo H H' xs ws (.ref x)->Q (.ref x) H'):ew K (.ref x::[.ref l]) (upd (upd H dx (.own x)) x (.ins 755 dx [])) (λv H2=>v= .non/\Q (.ref x) H2) E0:=by
 have tn:Be H (upd (upd H dx (.own x)) x (.ins 755 dx [])):=aK (C:=755) hx f hne;have ho:∀{gs:List Pg} {xs:List V},Paired (λg v=>Jm H (Pg.gx g) v) gs xs->Os (upd (upd H dx (.own x)) x (.ins 755 dx [])) (gs.map λg=>.form g.gx) xs:=λh=>by
  induction h with
  |nil=>exact .nil
  |cons a _ j=>exact .cons (Jm.sm (Sm.of tn) a) j
 refine⟨x,dx,l,xs,_,ws,rfl,AC,tn _ _ k,ho hp,λo h=>?_,by rw[Ay];lia,by rw[Ay];exact n,hb,?_⟩
 ·obtain⟨g,hg,rfl⟩:=Bg.mp h;have c:=hok g hg;have r:=c.len;have i:=c.glen;refine⟨λes d e hm=>?_,λes d=>?_,?_⟩
  ·cases d;obtain⟨p,hp,rfl⟩:=Bg.mp hm;exact aS (c.fs p hp).kind
  ·cases d;rw[Ay];lia
  ·show g.gone.length<40
   lia
 ·exact λt s m=>⟨rfl,q t (λb o e=>s b o (Bt e hx) (tn _ _ e)) (m.back tn)⟩
theorem iO{H:Hp}{l:AE}{o:HO}(h:H l=some o):upd (Ly H l) l o=H:=by
 funext b;by_cases hb:b=l
 ·subst hb;rw[AC,h]
 ·rw[Bb hb,HK hb]
theorem nq{H:Hp}{l T:AE}{o u:HO}(h:H l=none)(n:T≠l):Ly (upd (upd H l o) T u) l=upd H T u:=by
 funext b;by_cases hb:b=l
 ·subst hb;rw[KW,Bb (CI n),h]
 ·rw[HK hb];by_cases a:b=T
  ·subst a;rw[AC,AC]
  ·rw[Bb a,Bb hb,Bb a]
theorem lD{H:Hp}{l T:AE}{o u:HO}(n:T≠l):upd (upd H l o) T u=upd (upd H T u) l o:=by
 funext b;by_cases hb:b=l
 ·subst hb;rw[AC,Bb (CI n),AC]
 ·by_cases a:b=T
  ·subst a;rw[AC,Bb hb,AC]
  ·rw[Bb a,Bb hb,Bb hb,Bb a]
def ck:Sp:=λvs H Q _=>∃l gs ws,vs=[.ref l]/\H l=some (.lst ((gs.map DQ).flatten.map V.str))/\(∀g∈gs,nS g)/\1<=gs.length/\gs.length<=8/\Nu (gs.map λg=>.form g.gx)= .inr ws/\Lm (Ly H l)/\∀v xs H',Sm (Ly H l) H'->Lm H'->H' l=none->pa H' xs ws v->Paired (λg x=>Jm H' (Pg.gx g) x) gs xs->Q v (upd H' l (.lst ((gs.map DQ).flatten.map V.str)))
theorem da(T:Tx K mg)(kb:K.In base)(hT:KD P w K 73 bR):HL.Et P w K mg base 11 879 ["lines"] ck:=by
 have b:=@Wj P w K mg base T hT;have GB:=@Qe P w K mg base T;refine(T.df 36 rfl).ok LM (λvs H Q E h=>?_) (λcdv A outer s H vs Q E hr h=>?_)
 ·obtain⟨l,gs,ws,rfl,_⟩:=h;rfl
 ·obtain⟨l,gs,ws,rfl,L,hok,h1,h8,hb,hL,q⟩:=h;have a0:FD (9+1) _:=hr.mono Aa;refine⟨_,AV (BH (CK (BI (Bl (BC K rfl) rfl T.Bv Br (Ax (pv 0) (Ax (QV T.Ho FU) AA))))) (AD IG)
    Bd)
   (AV (BV (i:=1) LM.nd rfl (Bn rfl) (CP AA))
   (Bh (JA DT rfl (ae rfl T.RO (pv 0)) (Ue rfl (n:=2) (Ha (Cb (i:=2) LM.nd rfl (Bn rfl)) (Ha (Cb (i:=3) LM.nd rfl (Bn rfl)) PV))) (AD (BH (CK (BI (PY (AW b (hr.mono Aa) (T.d2 35 rfl λ_ _ _ _ _ _ _ _=>rfl) (Ax (pv 1) (Ax (pv 3) AA)))))) (AD IG)
      Bd)))
   (AD (AN (PY (DF ⟨T.dW,T.RV,T.RS,T.dS⟩ GB a0 rfl T.dX T.Sa .nil CL (Ax (CJ (ts:=["draft"]) (xs:=[]) (js:=[]) rfl ⟨rfl,rfl,Ab,Ab,CZ rfl⟩ .nil Ab (CU (pv 1)) (λC s_ H_ fp=>Cb (X:=Di _ _ _ C s_ H_ fp) (i:=0) mR rfl (Bn rfl) (Cw rfl)) (λC s_ H_ fp=>CT (X:=Di _ _ _ C s_ H_ fp)) (λC s_ H_ fp=>PY (X:=Di _ _ _ C s_ H_ fp) (ah (X:=Di _ _ _ C s_ H_ fp) (pv 0) T.Em (T.me 51 37 rfl rfl) (mK T kb) (hr.mono Aa) (HL.b1 (T.mf 37 rfl) λ_ _ _ _ _ _ _=>rfl) .nil CL))) AA))))))),?_⟩
  refine⟨_,rfl,.ref l,.ty "list",_,_,_,rfl,.lst L,rfl,T.FM,_,rfl,Ch ?_⟩;refine⟨zl 0,λdl J=>?_⟩;obtain⟨ini,o,S,he⟩:=eH gs [] none hok (by simp;lia);simp only[Option.toList_none,CA,OT]at he;rw[du]at L q;generalize (gs.map Rc).flatten=wl at L S q;have nd:dl≠l:=λz=>by rw[z,L]at J;cases J
  have r:Ly H l dl=none:=by rw[HK nd];exact J
  have e0:upd H dl (.lst [])=upd (upd (Ly H l) dl (.lst [])) l (.lst ((wl.map (Ec ⟨#[32]⟩)).map V.str)):=by
   rw[<-lD nd,iO L]
  rw[e0];refine Cq (λc H'=>∃k B t,H'=upd k l (.lst ((wl.map (Ec ⟨#[32]⟩)).map V.str))/\k l=none/\Dr (Ly H l) dl k ini o/\c=[some (.ref l),some (.ref dl),B,t]) ?_ ?_
  ·refine⟨_,rfl,l,rfl,⟨_,Cj.of AC⟩,?_⟩;refine Xv (xs:=(wl.map (Ec ⟨#[32]⟩)).map V.str) (λj c H'=>∃i' o' B t k,c=[some (.ref l),some (.ref dl),B,t]/\H'=upd k l (.lst ((wl.map (Ec ⟨#[32]⟩)).map V.str))/\k l=none/\Dr (Ly H l) dl k i' o'/\SO i' o' (wl.drop j) ini o) ⟨[],none,none,none,_,rfl,rfl,by rw[Bb (CI nd),KW],.nil (By r) r AC,S⟩ (λi c H' _ h=>by obtain⟨_,_,_,_,_,_,rfl,_⟩:=h;exact Cj.of AC) (λi x Tt c H1 hx h m=>?_) (λc H' h=>?_)
   ·obtain⟨i',o',B,t,k,rfl,rfl,d,N,f⟩:=h;rw[AT,AT]at hx;obtain⟨z,hz,rfl⟩:=Cc.mp hx;obtain⟨ys,F,rfl⟩:=Cc.mp hz;have hi:i<wl.length:=(AO.mp F).1;have ed:wl.drop i=ys::wl.drop (i+1):=by
     rw[Fu hi];have:wl[i]'hi=ys:=by rw[Az hi]at F;exact Ba F
     rw[this]
    rw[ed]at f;cases f with
    |@cons _ i2 _ _ o2 _ _ _ hS kc=>
     refine⟨Tt,_,rfl,DW.of AC,rfl,_,_,rfl,_,_,rfl,rfl,?_⟩;have U:Tt≠l:=λz=>by rw[z,AC]at m;cases m
     refine⟨l,_,by rw[Bb (CI U)];exact AC,?_⟩;rw[nq d U];rw[Bb U]at m;exact⟨_,rfl,_,rfl,Ly H l,dl,i',o',ys,i2,o2,rfl,N.same (By m),hS,λH' a7 h0=>⟨_,rfl,Ch ⟨i2,o2,_,_,H',rfl,rfl,h0,a7,kc⟩⟩⟩
   ·obtain⟨i',o',B,t,k,rfl,rfl,d,N,f⟩:=h;rw[Oi (by rw[Ay,Ay];exact AX _)]at f;cases f;exact⟨k,B,t,rfl,d,N,rfl⟩
  rintro c H' ⟨H1,B,t,rfl,Z,N,rfl⟩;obtain⟨s1,_,as,hd,hp⟩:=N.all;rw[he]at hp;have a8:gs.length=as.length:=hp.length;refine⟨l,_,AC,?_⟩;rw[PF Z];refine⟨_,rfl,dl,rfl,⟨_,Cj.of hd⟩,?_⟩;refine Rx hd (by rw[Ay];lia) Lm (hL.same s1) (λj H' y=>∃g,gs[j]?=some g/\Jm H' (Pg.gx g) y) (λi H' H2 v s I=>(by obtain⟨g,e,h⟩:=I;exact⟨g,e,Jm.sm s h⟩)) (λj x hx D ys k R d sm Y S=>?_) (λD H' ys h0 sm Y W hP=>?_)
  ·rw[AT]at hx;obtain⟨a,ha,rfl⟩:=Cc.mp hx;obtain⟨g,hg,a4⟩:=Hz hp j a ha;have p:=a4.sm sm;obtain⟨dx,fl,gl,xs,a5,_⟩:=id p;have M:=hok g (AY hg);refine⟨Sub.set rfl,D,ys,AC,?_⟩;rw[PF d];exact⟨_,rfl,a,dx,_,rfl,a5,rfl,a,g,rfl,p,M.ok,M.rise,Y,λv H' s' a6 hG h0=>S v H' s' a6 h0 ⟨g,hg,hG⟩⟩
  ·intro x dx hx a3 hne;have O:=By (u:=.lst ys) h0;rw[Ay]at W;refine Xm (Q:=λv H2=>H2 l=none->Q v (upd H2 l (.lst ((wl.map (Ec ⟨#[32]⟩)).map V.str)))) (gs:=gs) hx a3 hne AC (Lf (by lia) λi g y hg G=>?_) (λg hg=>(hok g hg).ok) h1 h8 hb λH2 s2 hB a2=>?_
   ·obtain⟨g',e,h⟩:=hP i y G;obtain rfl:g=g':=Ba (hg.symm.trans e);exact Jm.sm (Sm.of O) h
   ·refine q _ ys H2 (((Sm.of s1).trans sm).trans (Sm.of (O.trans s2))) (Y.same (O.trans s2)) a2 hB.isB (Lf (by lia) λi g y hg G=>?_);obtain⟨g',e,h⟩:=hP i y G;obtain rfl:g=g':=Ba (hg.symm.trans e);exact Jm.sm (Sm.of (O.trans s2)) h
theorem gh{gs:Unit}:∀{k:Kx},k.good->∀y∈Cy k,CB y=true:=by
 intro k;induction k with
 |upto d=>
  intro b y a;obtain⟨n,rfl,_⟩:=b;rcases AU.mp a with rfl|a
  ·exact Do _
  ·rw[AM.mp a];exact Do _
 |text d=>
  intro b y a;obtain⟨n,rfl,_⟩:=b;unfold Cy at a;split at a
  ·rw[AM.mp a];exact Do _
  ·rcases AU.mp a with rfl|a
   ·exact Do _
   ·rw[AM.mp a];exact Do _
 |form d=>
  intro b y a;obtain⟨z,rfl,h⟩:=b;rcases AU.mp a with rfl|a
  ·exact Do _
  ·rw[AM.mp a];exact KZ h
 |list k c=>
  intro b y a;rcases AU.mp a with rfl|a
  ·exact Do _
  ·exact c b.2 y a
 |bare=>exact λb=>b.elim
 |thing d=>exact λb=>b.elim
 |truth=>intro _ y a;rw[AM.mp a];exact Do _
 |count=>intro _ y a;rw[AM.mp a];exact Do _
 |whole=>intro _ y a;rw[AM.mp a];exact Do _
theorem gi{g:Pg}(h:g.Ok):∀y∈DQ g,CB y=true:=by
 intro y b;unfold DQ at b;rcases BZ.mp b with b|b
 ·rcases AU.mp b with rfl|b
  ·unfold Qo;refine SZ (SZ ?_ (Do _)) (KZ h.nam);cases g.choice <;> exact Do _
  ·obtain⟨p,hp,rfl⟩:=Bg.mp b;have ho:=h.fs p hp;refine Xa _ λa ha=>?_;rcases BZ.mp ha with ha|ha
   ·rcases BZ.mp ha with ha|ha
    ·rcases AU.mp ha with rfl|ha
     ·exact Do _
     ·rw[AM.mp ha];exact KZ ho.nam
    ·exact gh (gs:=()) ho.kind a ha
   ·exact iZ ho a ha
 ·unfold So at b;split at b
  ·cases b
  ·rw[AM.mp b];refine Xa _ λa ha=>?_;rcases AU.mp ha with rfl|ha
   ·exact Do _
   ·obtain⟨n,_,rfl⟩:=Bg.mp ha;exact Do _
theorem Qi(gs:List SG):Hs gs=((gs.map (DO gs)).map DQ).flatten:=by
 unfold Hs;rw[Bi];rfl
theorem cs{gs:List SG}(h:hY gs):∀y∈Hs gs,CB y=true:=λy a=>by
 unfold Hs at a;obtain⟨l,b,a⟩:=List.mem_flatten.mp a;obtain⟨g,hg,rfl⟩:=Bg.mp b;exact gi (Se h hg) y a
theorem oE{gs:List SG}{Ws:List Int}(hs:GU gs Ws)(i:gs.length<=6)(b:∀g∈gs,bA g):∀g∈gs.map (DO gs),nS g:=λp hp=>by
 obtain⟨g,hg,rfl⟩:=Bg.mp hp;have h:=hs.gsOk (by lia);refine⟨Se h hg,(b g hg).pg,λhc q c=>?_⟩;obtain⟨f,hf,rfl⟩:=Bg.mp (show q∈g.fields.map (GD gs)from c);obtain⟨k,d⟩:=DB.mp hg;have ho:=(hs.ok k g d).fs f hf;have a:g.choice=true:=hc;have hm:=ho.must a;have hd:f.dfl=Dy f.kind:=by
  rcases ho.dfl with e|⟨_,e,_⟩
  ·exact e
  ·rw[a]at e;cases e
 unfold Fs;rw[wk (by show ¬f.must=true;rw[hm];decide),wm];show EO (EN gs f.kind) f.dfl=true;rw[hd];exact US gs ho.kind
theorem nO{gs:List SG}{Ws:List Int}(hs:GU gs Ws)(a:gs.length<=6)(h1:1<=gs.length)(hlast:∀g,gs[gs.length - 1]?=some g->g.choice=false):
  ∃ws,Nu ((gs.map (DO gs)).map λg=>.form g.gx)= .inr ws/\∀(i:Nat) g n,gs[i]?=some g->Ws[i]?=some n->Pl ws g.nam=some n:=by
 obtain⟨ws,e,h⟩:=hQ hs a h1 hlast;refine⟨ws,?_,h⟩;rw[<-e,Bi];congr 1;refine Dj λg _=>?_;show Ox.form (DO gs g).gx=Np gs g;rw[fg];rfl
theorem qz{gs:List SG}{Ws:List Int}(hs:GU gs Ws)(d:gs.length<=6){g:SG}(hg:g∈gs):tm gs.length g.fields:=λf hf=>by
 obtain⟨a,_,b,c⟩:=(hs.gsOk (by lia)).fs g hg f hf;exact⟨a,b,c⟩
theorem Ud{e d c:Type}{R:c->d->Prop}{f:e->c}:∀{l:List e} {m:List d},Paired (λa b=>R (f a) b) l m->Paired R (l.map f) m
 |_,_,.nil=>.nil
 |_,_,.cons a r=>.cons a (Ud r)
def iC(K:AF):Sp:=λvs H Q _=>∃(a:AE) (ns:List Int),vs=[.ref a]/\Cj K H a (ns.map V.int)/\Lm H/\∀H',Q (.bl true) H'
theorem rZ: ((["_law_form"]:List Bc) ++ (["_law_spec_here","_law_bit"]:List Bc)).Nodup:=by decide+kernel
theorem IT.sm{H H':Hp}(s:Sm H H'){gs:List SG}{Ws:List Int}{v:V}(h:IT H gs Ws v):IT H' gs Ws v:=by
 obtain⟨xs,ws,⟨a,dx,l,b,e,h1,h2,h3⟩,hp,hw⟩:=h.ex;exact⟨xs,ws,⟨a,dx,l,b,e,s _ _ h1 rfl,s _ _ h2 rfl,s _ _ h3 rfl⟩,L2.Paired.imp' (λ_ _ z=>z.sm s) hp,hw⟩
structure LF(H:Hp)(gs:List SG)(Ws:List Int)(sv bv:V)(due:AE):Prop where
 sp:Nw H gs sv
 bk:IT H gs Ws bv
 due:H due=some (.lst ((Hs gs).map V.str))
theorem LF.sm{H H':Hp}(s:Sm H H'){gs:List SG}{Ws:List Int}{sv bv:V}{due:AE}(h:LF H gs Ws sv bv due):LF H' gs Ws sv bv due:=⟨h.sp.sm s,h.bk.sm s,s _ _ h.due rfl⟩
theorem gu{H H':Hp}{l:AE}(s:Be H H')(h:H l=none):Be H (Ly H' l):=λb o e=>by
 rw[HK (Bt e h)];exact s _ _ e
theorem LD{H:Hp}{Q:VK}{gs:List SG}{Ws:List Int}{bv:V}(b:hY gs)(h:IT H gs Ws bv)(q:Yk H Q ((Hs gs).map V.str)):Ov [bv] H Q E0:=by
 obtain⟨xs,ws,c,hp,_⟩:=h.ex;refine⟨bv,xs,ws,gs.map (DO gs),rfl,c,Ud hp,λg hg=>?_,by rw[Ay];exact b.len,by rw[<-Qi];exact q⟩;obtain⟨g',a,rfl⟩:=Bg.mp hg;exact Se b a
theorem pU(T:Tx K mg)(kb:K.In base)(hT:KD P w K 73 bR):HL.Et P w K mg base 14 1013 ["_law_script"] (iC K):=by
 have a0:=@mF P w K mg base T;have I:=@Xi P w K mg base T;have t:=@jE P w K mg base T kb;have S:=@gE P w K mg base T;have d:=@Wt P w K mg base T;have o:=@mG P w K mg base T;have B:=@da P w K mg base T kb hT;have GB:=@Qe P w K mg base T;refine T.oi.ok LL (λvs H Q E h=>?_) (λcdv A outer s H vs Q E G h=>?_)
 ·obtain⟨a,ns,rfl,_⟩:=h;rfl
 ·obtain⟨sc,ns,rfl,c1,hL,q⟩:=h;have e4:FD (9+1) _:=G.mono Aa;have hu:=G.units;refine⟨_,Bh (BV (i:=1) LL.nd rfl (Cw rfl) (AW a0 (G.mono Aa) (T.d3 47 rfl λ_ _ _ _ _ _ _ _ _=>rfl) (Ax (pv 0) (Ax AH (Ax AH AA))))) (Bh (BV (i:=2) LL.nd rfl (Cw rfl) (Bz Df (AW I (G.mono Aa) T.NJ (Ax (pv 0) (Ax AH AA))) AH)) (Bh (LN (i:=3) (ts:=["_law_form"]) (xs:=["_law_spec_here","_law_bit"]) (js:=[1,2]) rfl ⟨rfl,rfl,Ab,Ab,CZ rfl⟩ (.cons rfl (.inl rfl) rfl (.cons rfl (.inl rfl) rfl .nil)) Ab (CU (pv 1)) (λC s_ H_ fp=>Cb (X:=Di _ _ _ C s_ H_ fp) (i:=0) rZ rfl (Bn rfl) (Cw rfl)) (λC s_ H_ fp=>CT (X:=Di _ _ _ C s_ H_ fp)) (λC s_ H_ fp=>PY (X:=Di _ _ _ C s_ H_ fp) (AW (X:=Di _ _ _ C s_ H_ fp) t (G.mono Aa) (T.d3 50 rfl λ_ _ _ _ _ _ _ _ _=>rfl) (Ax (pv 0) (Ax (pv 1) (Ax (pv 2) AA)))))
     LL.nd rfl (Bn rfl) rfl)
   (Bh (BV (i:=4) LL.nd rfl (Bn rfl) (DF ⟨T.dW,T.RV,T.RS,T.dS⟩ GB e4 rfl T.dX T.Sa .nil CL (Ax (pv 3) AA)))
   (Bh (EX (ju BO PySem.F.slot_list_clear PySem.F.type_list_clear aF (pv 3)))
   (Bh (BV (i:=5) LL.nd rfl (Bn rfl) (AW S (G.mono Aa) (T.d1 53 rfl λ_ _ _ _ _ _ _=>rfl) (Ax (pv 1) AA)))
   (Bh (BV (i:=6) LL.nd rfl (Bn rfl) (AW d (G.mono Aa) T.Iu (Ax (pv 4) AA)))
   (Bh (BH (PW.pt (GA (CK (BI (Bl (BC K rfl) rfl T.Bv Br (Ax (pv 6) (Ax (QV T.Ho FU) AA))))) (GA (Bp (Pa hu) (pv 6) (pv 5) (Bw _)) (FS (CK (BI (AW o (G.mono Aa) T.Yh (Ax (pv 4) (Ax (pv 1) AA))))))))) (AD IG)
    Bd)
   (Bh (BV (i:=7) LL.nd rfl (Bn rfl) (AW B (G.mono Aa) (T.d1 36 rfl λ_ _ _ _ _ _ _=>rfl) (Ax (pv 6) AA)))
   (Bh (BH (Bp (Pa hu) (pv 6) (pv 5) (Bw _)) (AD IG)
    Bd)
   (Bh (EX (ju BO PySem.F.slot_list_clear PySem.F.type_list_clear aF (pv 6)))
   (Bh (BH (PW.pt (GA (CK (BI (AW o (G.mono Aa) T.Yh (Ax (pv 7) (Ax (pv 1) AA))))) (FS (Bp (Pa hu) (AW d (G.mono Aa) T.Iu (Ax (pv 7) AA)) (pv 5) (Bw _))))) (AD IG)
    Bd)
   (Bh (BV (i:=8) LL.nd rfl (Bn rfl) (AW d (G.mono Aa) T.Iu (Ax (pv 4) AA)))
   (Bh (EX (Gr BO Cn Cm EF (pv 8) (Ax AQ AA)))
   (AD (AN (Io (EY (Ug hu) (AW d (G.mono Aa) T.Iu (Ax (pv 4) AA)) (pv 5) (Bw _)) (Im (AW o (G.mono Aa) T.Yh (Ax (pv 4) (Ax (pv 1) AA)))))))))))))))))))),?_⟩
  refine Cq (λc H'=>∃gs Ws as l,c=[some (.ref sc),some (.ref l),none,none,none,none,none,none,none]/\GU gs Ws/\(∀g∈gs,bA g)/\1<=gs.length/\gs.length<=6/\(∀g,gs[gs.length - 1]?=some g->g.choice=false)/\Be H H'/\H' l=some (.lst (as.map V.ref))/\Paired (λg a=>SQ H' g (.ref a)) gs as) ?_ ?_
  ·exact⟨_,rfl,sc,ns,rfl,c1,λgs Ws as l H1 hok hri h1 Z hlast _ _ _ s1 M hpa=>⟨gs,Ws,as,l,rfl,hok,hri,h1,Z,hlast,s1,M,hpa⟩⟩
  rintro c H1 ⟨gs,Ws,as,l,rfl,hs,hri,h1,Z,hlast,s1,M,hpa⟩;have c7:Nw H1 gs (.ref l):=⟨l,as,rfl,M,hpa⟩;have W:=hs.gsOk (show gs.length<=8 by lia);have k:=cs W;have f1:=hL.same s1;have g2:gs.length=as.length:=hpa.length;obtain⟨ws,c5,b8⟩:=nO hs Z h1 hlast;refine Cq (λc H'=>∃b:Int,(b=0\/b=1)/\H1=H'/\c=[some (.ref sc),some (.ref l),some (.int b),none,none,none,none,none,none]) ?_ ?_
  ·exact⟨_,rfl,sc,ns,30,rfl,s1.seq c1,Aa,Aa,λr _ _=>⟨_,_,rfl,rfl,(by show(0:Int) <2;decide),r%2,by lia,rfl,rfl⟩⟩
  rintro c H' ⟨b,hb,rfl,rfl⟩;refine Cq (λc H'=>∃D ys J,c=[some (.ref sc),some (.ref l),some (.int b),some (.ref D),none,none,none,none,none]/\H'=upd J D (.lst ys)/\J D=none/\Sm H1 J/\Lm J/\Paired (λg x=>Jm J (DO gs g).gx x) gs ys) ?_ ?_
  ·refine⟨_,rfl,l,rfl,⟨_,Cj.of M⟩,?_⟩;refine Rx M (by rw[Ay];lia) Lm f1 (λj H' y=>∃g,gs[j]?=some g/\Jm H' (DO gs g).gx y) (λi H' H2 v s a7=>(by obtain⟨g,e,h⟩:=a7;exact⟨g,e,Jm.sm s h⟩)) (λj x hx D ys J R U sm hy hR=>?_) (λD H' ys h0 sm hy d9 hP=>?_)
   ·rw[AT]at hx;obtain⟨a,ha,rfl⟩:=Cc.mp hx;obtain⟨g,hg,e3⟩:=Hz hpa j a ha;have N:=AY hg;have g5:=W.fl g N;have hgl:=W.gl g N;refine⟨Sub.set rfl,D,ys,AC,?_⟩;rw[PF U];refine⟨_,rfl,_,rfl,_,rfl,.ref a,.ref l,gs,g,b,rfl,hb,e3.sm sm,c7.sm sm,hs.nms,hs.nms.ok g.nam (Bg.mpr ⟨g,N,rfl⟩),qz hs Z N,hri g N,by lia,by lia,hy,λv H' s' c8 hv h0=>?_⟩;exact hR v H' s' c8 h0 ⟨g,hg,by rw[fg];exact hv⟩
   ·rw[Ay]at d9;refine⟨D,ys,H',rfl,rfl,h0,sm,hy,Lf (by lia) λi g y hg e0=>?_⟩;obtain⟨g',e,h⟩:=hP i y e0;obtain rfl:g=g':=Ba (hg.symm.trans e);exact h
  rintro c H' ⟨D,ys,J,rfl,rfl,U,sm,e8,c2⟩;have tD:=By (u:=.lst ys) U;refine Cq (λc H'=>∃bv,c=[some (.ref sc),some (.ref l),some (.int b),some (.ref D),some bv,none,none,none,none]/\Be (upd J D (.lst ys)) H'/\Zo (upd J D (.lst ys)) H' ys ws bv) ?_ ?_
  ·refine⟨_,rfl,λx dx hx e7 hne=>?_⟩;exact Xm (Q:=λv H'=>∃bv,([some (.ref sc),some (.ref l),some (.int b),some (.ref D),some v,none,none,none,none]:L2.St)=[some (.ref sc),some (.ref l),some (.int b),some (.ref D),some bv,none,none,none,none]/\Be (upd J D (.lst ys)) H'/\Zo (upd J D (.lst ys)) H' ys ws bv) (gs:=gs.map (DO gs)) hx e7 hne AC (Ud (L2.Paired.imp' (λ_ _ z=>z.sm (Sm.of tD)) c2)) (λg hg=>(oE hs Z hri g hg).ok) (by rw[Ay];exact h1) (by rw[Ay];lia) c5 λH2 s2 hB=>⟨_,rfl,s2,hB⟩
  rintro c H2 ⟨bv,rfl,s2,hB⟩;have Y:H2 D=some (.lst ys):=s2 _ _ AC;refine Cq (λc H'=>c=[some (.ref sc),some (.ref l),some (.int b),some (.ref D),some bv,none,none,none,none]/\Nw H' gs (.ref l)/\IT H' gs Ws bv/\Lm H') ?_ ?_
  ·refine⟨_,rfl,.inl ⟨rfl,_,Cj.of Y⟩,D,ys,rfl,rfl,Y,rfl,?_⟩;have s4:Be J (upd H2 D (.lst [])):=(tD.trans s2).put U;obtain⟨a,dx,lf,wa,rfl,b1,b2,b3,b4⟩:=hB;have n2:lf≠D:=λz=>by rw[z,AC]at b4;cases b4
   refine⟨c7.sm (sm.trans (Sm.of s4)),⟨ys,ws,⟨a,dx,lf,wa,rfl,?_,?_,?_⟩,L2.Paired.imp' (λ_ _ z=>z.sm (Sm.of s4)) c2,b8⟩,e8.same s4⟩
   ·rw[Bb (λz=>by rw[z,Y]at b1;cases b1)];exact b1
   ·rw[Bb n2];exact b2
   ·rw[Bb (λz=>by rw[z,Y]at b3;cases b3)];exact b3
  rintro c H4 ⟨rfl,c6,f3,f0⟩;refine Cq (λc H'=>∃due,c=[some (.ref sc),some (.ref l),some (.int b),some (.ref D),some bv,some (.ref due),none,none,none]/\LF H' gs Ws (.ref l) bv due/\Lm H') ?_ ?_
  ·exact⟨_,rfl,_,gs,rfl,c6,W,λdue H5 _ s5 e5=>⟨due,rfl,⟨c6.sm (Sm.of s5),f3.same s5,e5⟩,f0.same s5⟩⟩
  rintro c H5 ⟨due,rfl,b0,e9⟩;refine Cq (λc H'=>∃m,c=[some (.ref sc),some (.ref l),some (.int b),some (.ref D),some bv,some (.ref due),some (.ref m),none,none]/\H5 m=none/\Be H5 H'/\H' m=some (.lst ((Hs gs).map V.str))) ?_ ?_
  ·exact⟨_,rfl,LD W b0.bk λm H6 h0 s6 e6=>⟨m,rfl,h0,s6,e6⟩⟩
  rintro c H6 ⟨m,rfl,c4,s6,L⟩;have a9:=b0.sm (Sm.of s6);refine Cq (λc H'=>c=[some (.ref sc),some (.ref l),some (.int b),some (.ref D),some bv,some (.ref due),some (.ref m),none,none]/\Be H5 H'/\H' m=some (.lst ((Hs gs).map V.str))) ?_ ?_
  ·refine⟨_,rfl,.ref m,.ty "list",_,_,_,rfl,.lst L,rfl,T.FM,_,rfl,Ch ⟨_,rfl,_,rfl,_,_,.lst (Cj.of L) (Ef _),.lst (Cj.of a9.due) (Ef _),En k,En k,_,rfl,?_⟩⟩;rw[Qt k];exact Ch ⟨_,rfl,_,rfl,bv,.ref l,gs,Ws,rfl,a9.bk,a9.sp,hs,h1,Z,λH7 s7=>⟨_,rfl,Ch ⟨rfl,s6.trans s7,s7 _ _ L⟩⟩⟩
  rintro c H7 ⟨rfl,s7,c3⟩;have su:=gu s7 c4;refine Cq (λc H'=>∃n Hv,c=[some (.ref sc),some (.ref l),some (.int b),some (.ref D),some bv,some (.ref due),some (.ref m),some n,none]/\H'=upd Hv m (.lst ((Hs gs).map V.str))/\Hv m=none/\LF Hv gs Ws (.ref l) bv due/\IT Hv gs Ws n) ?_ ?_
  ·refine⟨_,rfl,m,gs.map (DO gs),ws,rfl,by rw[<-Qi];exact c3,oE hs Z hri,by rw[Ay];exact h1,by rw[Ay];lia,c5,e9.same su,λv xs H' s' c8 h0 hB hp=>?_⟩;rw[<-Qi];exact⟨v,H',rfl,rfl,h0,b0.sm ((Sm.of su).trans s'),⟨xs,ws,hB,Ld (R:=λp x=>Jm H' (Pg.gx p) x) (f:=DO gs) hp,b8⟩⟩
  rintro c H8 ⟨n,Hv,rfl,rfl,b9,c9,f2⟩;have tv:=By (u:=.lst ((Hs gs).map V.str)) b9;refine Cq (λc H'=>c=[some (.ref sc),some (.ref l),some (.int b),some (.ref D),some bv,some (.ref due),some (.ref m),some n,none]/\H'=upd Hv m (.lst ((Hs gs).map V.str))) ?_ ?_
  ·refine⟨_,rfl,_,rfl,_,_,.lst (Cj.of AC) (Ef _),.lst (Cj.of (tv _ _ c9.due)) (Ef _),En k,En k,_,rfl,?_⟩;rw[Qt k];exact Ch ⟨rfl,rfl⟩
  rintro c H' ⟨rfl,rfl⟩;refine Cq (λc H'=>c=[some (.ref sc),some (.ref l),some (.int b),some (.ref D),some bv,some (.ref due),some (.ref m),some n,none]/\LF H' gs Ws (.ref l) bv due/\IT H' gs Ws n) ?_ ?_
  ·have s9:Be Hv (upd (upd Hv m (.lst ((Hs gs).map V.str))) m (.lst [])):=tv.put b9;exact⟨_,rfl,.inl ⟨rfl,_,Cj.of AC⟩,m,_,rfl,rfl,AC,rfl,c9.sm (Sm.of s9),f2.same s9⟩
  rintro c H9 ⟨rfl,a8,d0⟩;refine Cq (λc H'=>c=[some (.ref sc),some (.ref l),some (.int b),some (.ref D),some bv,some (.ref due),some (.ref m),some n,none]/\LF H' gs Ws (.ref l) bv due) ?_ ?_
  ·refine⟨_,rfl,_,rfl,n,.ref l,gs,Ws,rfl,d0,a8.sp,hs,h1,Z,λh9 a6=>⟨_,rfl,Ch ⟨_,rfl,LD W (d0.same a6) λt1 b5 _ b7 f6=>⟨_,rfl,_,_,.lst (Cj.of f6) (Ef _),.lst (Cj.of ((a8.sm (Sm.of (a6.trans b7))).due)) (Ef _),En k,En k,_,rfl,?_⟩⟩⟩⟩;rw[Qt k];exact Ch ⟨rfl,a8.sm (Sm.of (a6.trans b7))⟩
  rintro c b5 ⟨rfl,a3⟩;refine Cq (λc H'=>∃t8,c=[some (.ref sc),some (.ref l),some (.int b),some (.ref D),some bv,some (.ref due),some (.ref m),some n,some (.ref t8)]/\b5 t8=none/\Be b5 H'/\H' t8=some (.lst ((Hs gs).map V.str))) ?_ ?_
  ·exact⟨_,rfl,LD W a3.bk λt8 f7 h0 a5 f5=>⟨t8,rfl,h0,a5,f5⟩⟩
  rintro c f7 ⟨t8,rfl,e2,a5,c0⟩;refine Cq (λc H'=>c=[some (.ref sc),some (.ref l),some (.int b),some (.ref D),some bv,some (.ref due),some (.ref m),some n,some (.ref t8)]/\LF H' gs Ws (.ref l) bv due) ?_ ?_
  ·refine⟨_,rfl,.inl ⟨rfl,_,Cj.of c0⟩,t8,_,_,rfl,rfl,c0,?_,rfl,a3.sm (Sm.of (a5.put e2))⟩;rw[Ay,Qi];exact DC (by
    have:=Qs (gs:=gs.map (DO gs)) λp hp=>by
     obtain⟨g,hg,rfl⟩:=Bg.mp hp;exact Se W hg
    rw[Ay]at this
    lia)
  rintro c h8 ⟨rfl,O⟩;refine⟨_,rfl,LD W O.bk λt9 h7 _ b6 f4=>⟨_,rfl,_,_,.lst (Cj.of f4) (Ef _),.lst (Cj.of ((O.sm (Sm.of b6)).due)) (Ef _),En k,En k,_,rfl,?_⟩⟩;rw[Qt k];have a2:=O.sm (Sm.of b6);exact CY ⟨_,rfl,_,rfl,bv,.ref l,gs,Ws,rfl,a2.bk,a2.sp,hs,h1,Z,λH' _=>q H'⟩
theorem kU{K:AF}{mg:Bc->Option AB}(T:Tx K mg)(s:AG)(u:AB):BindsTo s (Fe K 1013) ⟨[u],[]⟩ [("_law_script",u)]:=by
 obtain⟨oc,od,kV,doc,pm,an,cdv,ct,osl,e,lk,a⟩:=T.oi.ex;rw[e];exact .of_eq rfl
theorem lE:rM.Holds:=holds (k:=14) ⟨Aa,Aa⟩ (sp:=iC) (λw K mg base T b c=>pU T b c) (λK mg T s u=>kU T s u) (λK H a ns _ _ ho h=>⟨a,ns,rfl,h,.inl ho.1,λ_=>rfl⟩)
end K9
theorem PySem.Challenge.cw_formkin_k08_books_written_holds : PySem.Challenge.rw_formkin_k08_books_written.Holds := by
 exact K9.lE
#print axioms PySem.Challenge.cw_formkin_k08_books_written_holds
