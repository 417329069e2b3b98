import PyProof.Rows.All
import KE.KDictList
import KE.KLam
import KE.KSortTup
import KE.KTryMore
import OpenK.XOpen
import Wide.Txt2
import PySem.Challenge.RW_formkin_k09_books_refused
set_option Elab.async false
set_option linter.all false
set_option maxRecDepth 1000000
set_option maxHeartbeats 0
set_option genSizeOf false
set_option compiler.extract_closed false
open Option.some renaming inj->AR,injEq->Nw
open PySem renaming mainGlobals->AT,Value->AY,Addr->Ba,Shared->Bf,wpAny_bind->Bg,Str->Bx,Program->BG,wpAny_pure->BQ,wpAny->Cc,starEach->Cn,World->Cs,Heap->CO,bootBuiltins->CP,Stmt->Dn,Around->Do,wpAny_Call_Name_kw->DD,FuncData->Ek,wpAny_holding->El,compareOp->EE,sizeLine_eq->FE,mem_of_lookup->FF,wpAny_mono->FK,backTo->FL,wpAny_truthy_bool->GS,codeAny_mono->GT,codeAny_call_builtin->GU,wpAny_call->Ho,sysModules->Ip,attributeBase->Iy,codeAny->IN,wpAny_standAt->JJ,keywordEach->JY,KeyKind->Ku,wpAny_loadPart_at->KU,assignEach->LF,behindInMarks->LL,wpAny_field->Mg,sliceBounds->Mh,binaryOp->Mi,wpAny_passesOwn->MU,wpAny_execs_nil->MV,rawInt->MX,letOwnedTupleGo->MY,Arguments->NE,wpAny_setField->OO,tupleKind_room_in1->OP,isInstance->OQ,builtinsNs->OR,wpAny_pyIter_list->QI,wpAny_newObj_type->QJ,excClassObj->QK,wpAny_execs_cons->TW,Params->UX,codeAny_builtin->VG
open List renaming length_map->AV,getElem?_eq_getElem->AW,length_append->Bh,getElem?_eq_some_iff->Bi,getElem?_map->Bj,mem_map->Bm,mem_of_getElem?->Bp,length_take->Bt,mem_singleton->Bu,length_range->Bw,range->Bz,getD_eq_getElem?_getD->BD,all_eq_true->BI,mem_cons->BK,mem_append_right->BU,map_cons->BV,size_toArray->BY,map_map->Cf,mem_append->Cg,length_cons->Cj,not_mem_nil->Cq,map_append->Cr,mem_of_mem_take->CA,getElem?_append_right->CB,filter_cons_of_pos->CD,mem_append_left->CF,replicate->CI,mem_cons_of_mem->CJ,getElem?_append_left->CU,getElem?_eq_none->CW,getElem?_take_of_lt->Da,filter_cons_of_neg->Dd,append_nil->De,mem_cons_self->Ds,mem_range->DJ,take_length->DU,mem_iff_getElem?->DW,sum_cons->EM,length_pos_iff->ET,nil_append->EW,mem_filter->EX,lookup->EY,filter_append->Fg,getElem?_set_ne->Fn,getElem?_range->FG,lookup_cons->FN,drop_eq_getElem_cons->Gh,take_sublist->Gq,nodup_append->Gr,map_nil->Gs,append_assoc->Gu,filterMap_cons->GM,length_drop->GX,take_of_length_le->HC,contains_cons->HD,all_cons->HN,take_append_drop->Ic,length_filter_le->Ie,flatten_cons->Ik,take_succ_cons->IQ,replicate_succ->IR,any_cons->Jk,nodup_cons->Jn,find?_cons->Jo,pairwise_map->JM,length_replicate->JZ,map_eq_nil_iff->Ls,map_congr_left->Lu,take_succ->Ml,getLast?_eq_getElem?->MZ,ext_getElem?->Nx,getElem_mem->OU,getElem?_replicate->OV,getElem?_set_self->PB,length_nil->QL,filter_eq_self->UY,take_append_of_le_length->cK
open PySem.Heap renaming get?_push_of_some->Bb,lt_size->BN,get?_push_size->Ca,get?_update_other->DV,get?_update_self->Gw,size_push->KY,SameBut->NA,get?_none_of_le->YY
open PySem.W renaming kitOne->Bd,Frag->Be,findIn->Bl,keepIn->Bq,kitOne->Co,findIn->Dh,emptyDict->Dq,hasDictIn->Dx,instObj->DE,plainOver->DL,kia_one->Eg,plainGet->Ei,kia_tup->EC,kitAny->EQ,InstAt->ER,makesIn->EU,keepIn->FY,sortI->Gy,mroIn->Hr,hideAll->HM,CodeHd->Iu,clsIn->Jj,kla_obj->Jm,callWith_K->Jq,looks_findIn->KW,makesIn->Lb,looks_clsIn->Lq,hideAll_get->Lr,fnOf->LH,tabObj->Mj,specialIn->Nr,kitx_list->Nt,kitx_dict->Nu,hasDictIn->Nv,mroIn->Nz,plainGet->OS,any_some->OT,methodCall_KW->Ru,hideAll_none->TX,plainGet_of->UU,callWith_K0->UV
open Nat renaming le_refl->Bv,le_trans->BF,ne_of_lt->Ck,lt_of_le_of_lt->Cp,add_le_add_left->Cy,lt_of_lt_of_le->Cz,zero_le->CH,lt_irrefl->Ev,le_succ->EV,le_of_lt->Gp,lt_succ_self->GV,lt_succ_of_lt->JL,ne_of_gt->LI,lt_trans->LJ
open Bool renaming false_ne_true->BL,and_eq_true->BZ,false_and->DK,noConfusion->Ej,true_and->Ew,eq_iff_iff->Fw,and_eq_false_iff->Ig,and_false->Iv,and_eq_true_iff->TY
open Or renaming inl->BP,inr->Di
open Option renaming map_eq_some_iff->BS
open PySem.Challenge renaming pw_formkin_k09_books_refused->Cu
open False renaming elim->CG
open PySem.Value renaming none->CM,bool->Dm,type->EB,int->HK,str->LG
open PySem.Str renaming empty->Db
open Int renaming toNat_of_nonneg->Dj,le_refl->Jr,zero_add->LK
open PySem.F renaming plainAttrs_list->DI,type_list_append->Et,slot_list_append->Eu,slot_dict_get->Rv
open Ne renaming symm->DP
open True renaming intro->Ef
open PySem.Txt renaming slice->EF
open PySem.Builtin.Int renaming intBits->Ff
open PyProof.Rows renaming callWith_type1->FI,envOfC->GD,callWith_builtin1->Kk,seqObj->Kt
open PySem.Obj renaming mapSeq->FM,mapFields->JK
open PySem.BindsTo renaming of_defaults->FZ
open Array renaming length_toList->GN,toList_append->UZ
open Nat.succ renaming inj->HB
open PyProof.Rows.F renaming plain_set_update_loop->IP,entry_set_update_loop->UW
open PySem.PassesOwn renaming never->JN
open PySem.Calls renaming spliced_cons->JU,spliced_nil->QN,evalArgs_plain->YZ
open List.Perm renaming refl->Mm
open PySem.Builtin.Str renaming strSliceIndices->NB
open ForInStep renaming yield->QM
open PySem.Builtin.List renaming listTooLong->Rw
open PySem.SeqAt renaming shaped->UT
noncomputable section
abbrev Ac:List Bx:=["self","place","why"]
abbrev Ad:List Bx:=["thing"]
abbrev Ae:List Bx:=["thing","least","most"]
abbrev Af:List Bx:=["text","signs"]
abbrev Ag:List Bx:=["self"]
abbrev Ah:List Bx:=["self","value"]
abbrev Ai:List Bx:=["self","most"]
abbrev Aj:List Bx:=["kind","default"]
abbrev Ak:List Bx:=["self","number","name","kind","must","default"]
abbrev Al:List Bx:=["fields"]
abbrev Am:List Bx:=["self","name","fields","gone"]
abbrev An:List Bx:=["kind","ahead"]
abbrev Ao:List Bx:=["field","in_choice"]
abbrev Ap:List Bx:=["field","weights"]
abbrev Aq:List Bx:=["form","weights"]
abbrev Ar:List Bx:=["self","forms"]
abbrev As:List Bx:=["book","form"]
abbrev At:List Bx:=["_law_script","_law_k"]
abbrev Au:List Bx:=["_law_number_here","_law_k"]
abbrev Av:List Bx:=["_law_number_here","_law_many"]
abbrev Aw:List Bx:=["_law_number_here"]
abbrev Ax:List Bx:=["_law_number_here","_law_ahead"]
abbrev Ay:List Bx:=["_law_kind_here"]
abbrev Az:List Bx:=["_law_kind_here","_law_number_here"]
abbrev AA:List Bx:=["_law_number_here","_law_mark","_law_name","_law_ahead","_law_weights","_law_is_choice"]
abbrev AB:List Bx:=["_law_kind_here","_law_weights"]
abbrev AC:List Bx:=["_law_form","_law_weights"]
abbrev AD:List Bx:=["_law_script","_law_base","_law_most"]
abbrev AE:List Bx:=["_law_kind_here","_law_spec_here"]
abbrev AF:List Bx:=["_law_field_here","_law_spec_here"]
abbrev AG:List Bx:=["_law_form","_law_spec_here","_law_bit"]
abbrev AH:List Bx:=["_law_script"]
abbrev AI:List Bx:=["_law_form","_law_j"]
abbrev AJ:List Bx:=["_law_spec_here","_law_at","_law_number_here"]
abbrev AK:List Bx:=["_law_mark","_law_is_choice","_law_number_here"]
abbrev AL:List Bx:=["_law_spec_here","_law_at","_law_ways","_law_number_here"]
abbrev AM:List Bx:=["field"]
abbrev AN:List Bx:=["_law_j"]
abbrev AO:List Bx:=["_law_field_here"]
abbrev AQ:List Bx:=["_law_spec_here"]
theorem A32{p:Prop}[inst:Decidable p](h:p):decide p=true:=decide_eq_true h
theorem A33{p:Prop}[inst:Decidable p](h:¬p):decide p=false:=decide_eq_false h
theorem A34{p:Prop}[inst:Decidable p](h:decide p=true):p:=of_decide_eq_true h
theorem A35{c:Prop}[h:Decidable c](n:¬c){α:Sort u}{t e:α}:ite c t e=e:=if_neg n
theorem A36{c:Prop}[h:Decidable c](n:c){α:Sort u}{t e:α}:ite c t e=t:=if_pos n
theorem A37{α:Sort u}{β:Sort v}{a b:α}(f:α->β)(h:a=b):f a=f b:=congrArg f h
def A38{a:Prop}{b:Sort v}(h:a)(n:¬a):b:=absurd h n
theorem Ab{p:Prop}[i:Decidable p](h:decide p=true:=by kernel_rfl):p:=of_decide_eq_true h
theorem Aa{p:Prop}[i:Decidable p](h:decide p=true:=by exact Eq.refl true):p:=of_decide_eq_true h
theorem k09.ws:PySem.Challenge.rw_formkin_k09_books_refused.wellSaid=true:=by kernel_rfl
theorem k09.law_of(h:PySem.Challenge.rw_formkin_k09_books_refused.row.wellSaid=true->PySem.Challenge.rw_formkin_k09_books_refused.row.Holds):PySem.Challenge.rw_formkin_k09_books_refused.Holds:=PySem.W.holds_law k09.ws h
namespace HL
open PySem PySem.W PyProof.Rows
abbrev ko:String->Option Builtin:=PySem.W.Fast.tw14364793385576792824
abbrev XD:=PySem.W.Fast.tw15667345088766844465
abbrev SK:=PySem.W.Fast.tw14374325043358763698
abbrev uc:=PySem.W.Fast.tw10110043849684766642
abbrev TC:=PySem.W.Fast.tw11892475500146522536
abbrev Io:Pos:=⟨0,0,0,0⟩
abbrev Me:Option AY:=some (.ref 6)
noncomputable def env(p:BG):Env:={scope:=p.main.scope,locals:=mainNs,globals:=mainNs,cells:=[],code:=.ref 13,frame:=some 14}
noncomputable def code(p:BG):Code:=.body (behindTheImports p) (env p)
noncomputable def qs(l:List Nat):Bx:=⟨⟨l⟩⟩
noncomputable def Z8:Bx:=qs [60,109,111,100,117,108,101,62]
noncomputable def n6:Bx:=qs [47,99,108,97,105,109,47,99,117,116,46,112,121]
noncomputable def Z9:Bx:=qs [95,95,109,97,105,110,95,95]
noncomputable def o11:Obj:={cls:=.type PySem.W.SL.s2766695959194262286x5,data:=.seq #[]}
noncomputable def o12:Obj:={cls:=.none,data:=.fields #[]}
noncomputable def o13:Obj:={cls:=.type PySem.W.SL.s5856160107412720595x4,data:=.fields #[.str Z8 182,.str Z8 183,.str n6 184,.int 1 0,.int 0 0,.int 0 0,.int 0 0,.int 0 0,.ref 11,.bool false,.int 181 0,.ref 12,.none,.none,.none,.none,.int 185 0,.int 1 0,.str n6 186]}
noncomputable def o14:Obj:={cls:=.type PySem.W.SL.s658472552662922059x5,slots:=#[some (.ref 13),some (.ref 3),some (.ref 3),none,some (.str Z9 164),none,some (.ref 0)]}
abbrev lf(o:Obj):BT:=.node o .nil .nil
noncomputable def X7(P:UX):BT:=.node (boot_o_0 P) (.node (boot_o_1 P) (.node (boot_o_3 P) (lf (boot_o_7 P)) (lf o11)) (.node (boot_o_5 P) (lf (boot_o_9 P)) (lf o13))) (.node (boot_o_2 P) (.node (boot_o_4 P) (lf (boot_o_8 P)) (lf o12)) (.node (boot_o_6 P) (lf (boot_o_10 P)) (lf o14)))
noncomputable def S0(w:Cs)(os:OsState):SharedT:=⟨X7 w.params,15,{},#[],{},187,os⟩
noncomputable def pL(w:Cs)(os:OsState):Bf:=⟨boot_heap w.params,#[],boot_drawn,boot_toks,os⟩
noncomputable def T0(p:BG):Thread:=piecesOf (behindTheImports p) (env p) (code p) Io [topFrame Io]
noncomputable def R(p:BG)(n:Nat)(w:Cs)(os:OsState):Option (Flow×SharedT×Code×Pos):=uc ko p w 11 Me 1 n (S0 w os) (T0 p)
abbrev zT(p:BG):=PySem.W.Fast.tw5923862056798008813 p.main.body
abbrev zQ(q:BG):=PySem.W.Fast.tw3399658132070893891 q
abbrev fO(q:BG)(lo:List Bx):=PySem.W.Fast.tw821141287760084731 q lo
abbrev vA(q:BG):=PySem.W.Fast.tw3247288618530077131 q
noncomputable def A0p(p:BG)(P:UX)(s:Bf):Bool:=staticsOk (zT p) (boot_heap P) s.heap&&namesBound p s.heap&&gensDone s&&laidKept (boot_heap P) s.heap
noncomputable def A0o(q:BG)(s:Bf):=PySem.W.Fast.tw5160383126252970620 (PySem.W.R.mapR (λx=>x.name) (zQ q)) (PySem.W.Fast.tw5991557255702980513 q) [] {s with gens:=#[]}
noncomputable def A0n(p q:BG)(lo:List Bx)(s:Bf):Bool:=PySem.W.Fast.tw10880121769531294198 s.heap (fO q lo) (PySem.W.R.mapR (λx=>x.name) (zQ q)) (PySem.W.R.mapR (λx=>x.fst) (PySem.W.Fast.tw7409074990110511671 q)) (PySem.W.R.mapR (λx=>x.name) (PySem.W.Fast.tw13664370479719496447 q (fO q lo)))
  &&PySem.W.Fast.tw14722251495701143533 s.heap (zT p) &&s.heap.isNs AT&&s.heap.isNs OR&&PySem.W.Fast.tw10994771534591457954 q s.heap&& (xlAt q [] s&&recOk [] s) && (s.gens.size==0)
noncomputable def VA(p q:BG)(lo:List Bx)(P:UX)(s:Bf):=(A0p p P s,A0o q s,s.heap.bltView,A0n p q lo s,PySem.W.Fast.tw479339242167458305 q s,PySem.W.Fast.tw16090120013241838585 q (vA q) s,PySem.W.Fast.tw2386780881361962483 q (fO q lo) s,PySem.W.Fast.tw11698064438423848299 q lo s,PySem.W.Fast.tw7317090234206586261 q s,PySem.W.Fast.tw7369524293546568484 q lo s)
noncomputable def cn(q:BG)(lo:List Bx):=(true,expectedOf q,bltViewBooted,true,true,pinGoodD (vA q),plainGoodE q (fO q lo),plainGoodD q lo,wideGood q,clsGoodW q lo)
open PySem.W.Fast in
theorem tW{p:BG}{w:Cs}{os:OsState}(h:XD ko p w 11 Me 12 (pL w os) (topStub p)=some ((S0 w os).abs,⟨TC ko (code p),code p,Io,[topFrame Io]⟩)):
  topGo treeTable p w 11 Me 12 (pL w os) (topStub p)=some ((S0 w os).abs,⟨denote treeTable (code p),code p,Io,[topFrame Io]⟩):=by
 rw[te15667345088766844465,te14364793385576792824,te11892475500146522536];exact h
open PySem.W.Fast in
theorem lC{p:BG}{w:Cs}{s:Bf}(h:SK ko p w 11 Me 1 1 s (blockOf (behindTheImports p) (env p) (code p) Io [topFrame Io])=some (.next,s,code p,Io)):
  segRun treeTable p w 11 Me 1 1 s (blockOf (behindTheImports p) (env p) (code p) Io [topFrame Io])=some (.next,s,code p,Io):=by
 rw[te14374325043358763698,te14364793385576792824];exact h
open PySem.W.Fast in
theorem tV{p:BG}{n:Nat}{w:Cs}{os:OsState}{x:Flow×SharedT×Code×Pos}(h:R p n w os=some x):segRunT treeTable p w 11 Me 1 n (S0 w os) (T0 p)=some x:=by
 rw[te10110043849684766642,te14364793385576792824];exact h
theorem zm{p:BG}{w:Cs}{c:Code}{q:Pos}:∀s:Bf,topRun treeTable p w 11 Me 2 s ⟨doneF .next,c,q,[topFrame Io]⟩=some s
 |⟨_,_,_,_,_⟩=>rfl
theorem qp{p:BG}{n:Nat}{w:Cs}{os:OsState}{s:SharedT}{q:Pos}(Tv:XD ko p w 11 Me 12 (pL w os) (topStub p)=some ((S0 w os).abs,⟨TC ko (code p),code p,Io,[topFrame Io]⟩))(mC:∀s,SK ko p w 11 Me 1 1 s (blockOf (behindTheImports p) (env p) (code p) Io [topFrame Io])=some (.next,s,code p,Io))(h:R p n w os=some (.next,s,code p,q)):topRun treeTable p w 11 Me (12+ (1+ (n+2))) (pL w os) (topStub p)=some s.abs:=by
 refine go_top (tW Tv) (piece_block (lC (mC _)) ?_);have e:=piece_app (rest:=[]) (segRun_of (tV h)) (piece_nil (zm (q:=q) s.abs));rw[De]at e;exact e
open PySem.W.Fast in
theorem lB{p q:BG}{lo:List Bx}{P:UX}{s:Bf}(h:VA p q lo P s=cn q lo): (staticsOk (importedModules p.main.body) (boot_heap P) s.heap&&namesBound p s.heap&&gensDone s&&laidKept (boot_heap P) s.heap)=true/\openSeen q lo (importedModules p.main.body) (λs=>xlAt q [] s&&recOk [] s) true s=openGood q lo:=by
 simp only[VA,cn,Prod.mk.injEq]at h;obtain⟨a,b,c,d,e,f,g,i,j,k⟩:=h;refine⟨?_,?_⟩
 ·rw[te5923862056798008813];exact a
 ·unfold openSeen openGood;simp only[Prod.mk.injEq];refine⟨?_,c,?_,?_,?_,?_,?_,?_,?_⟩
  ·rw[PySem.W.R.mapR_eq,te5160383126252970620,te3399658132070893891,te5991557255702980513];exact b
  ·rw[PySem.W.R.mapR_eq,te10880121769531294198,te821141287760084731,te3399658132070893891,te7409074990110511671,te13664370479719496447,te14722251495701143533,te5923862056798008813,te10994771534591457954];exact d
  ·rw[te479339242167458305];exact e
  ·rw[te16090120013241838585,te3247288618530077131];exact f
  ·rw[te2386780881361962483,te821141287760084731];exact g
  ·rw[te11698064438423848299];exact i
  ·rw[te7317090234206586261];exact j
  ·rw[te7369524293546568484];exact k
noncomputable def lk{a:Type}(p q:BG)(lo:List Bx)(Yf:Bf->a)(w:Cs)(s:SharedT):=(VA p q lo w.params s.abs,Yf s.abs)
theorem some_of{j i d:Type}{o:Option (Flow×j×i)}{f:j->d}{y:Flow}{z:i}{g:d}(h:o.map (λx=>(x.1,x.2.2,f x.2.1))=some (y,z,g)):∃s,o=some (y,s,z)/\f s=g:=by
 cases o with
 |none=>cases h
 |some x=>
  obtain⟨a,b,c⟩:=x;have e:=AR h;simp only[Prod.mk.injEq]at e;obtain⟨rfl,rfl,rfl⟩:=e;exact⟨b,rfl,rfl⟩
theorem yW{p q:BG}{lo:List Bx}{n N:Nat}{pos:Pos}{g:Type}{Yf:Bf->g}{Ya:Cs->g}(h1:opening p=plainProg p.main.scope.names)(h2:∀s,fenceModules? p s=some s)(Tv:∀w os,XD ko p w 11 Me 12 (pL w os) (topStub p)=some ((S0 w os).abs,⟨TC ko (code p),code p,Io,[topFrame Io]⟩))(mC:∀w s,SK ko p w 11 Me 1 1 s (blockOf (behindTheImports p) (env p) (code p) Io [topFrame Io])=some (.next,s,code p,Io))(a:∀w os,(R p n w os).map (λx=>(x.1,x.2.2,lk p q lo Yf w x.2.1))=some (.next,(code p,pos),(cn q lo,Ya w)))(hsz:∀P:UX,(boot_heap P).isNs AT=true/\(boot_heap P).objs.size=11/\(boot_heap P).nsMap AT "__annotations__"=Me)(u:Nat.ble 600 N=true)(v:12+ (1+ (n+2))<=N):LeftO p q lo (λs=>xlAt q [] s&&recOk [] s) Yf Ya N:=by
 intro w;obtain⟨⟨y,gs,d,k,os⟩,e,i⟩:=BS.mp (boot_open h1 u h2 w);simp only[Prod.mk.injEq]at i;obtain⟨rfl,rfl,rfl,rfl⟩:=i;obtain⟨s,hs,h⟩:=some_of (f:=lk p q lo Yf w) (a w os);have c:VA p q lo w.params s.abs=cn q lo:=A37 Prod.fst h;have b:Yf s.abs=Ya w:=A37 Prod.snd h;obtain⟨o,l2⟩:=lB c;have r:=topRun_mono (N - (12+ (1+ (n+2)))) _ _ _ _ (qp (Tv w os) (mC w) hs);rw[Nat.add_sub_cancel' v]at r;obtain⟨m,l,j⟩:=hsz w.params;have t:topFrom treeTable p w N (pL w os)=some s.abs:=by
  unfold topFrom;have z: ((pL w os).heap.isNs AT&& (pL w os).gens.size==0)=true:=by
   show((boot_heap w.params).isNs AT&&_)=true;rw[m];rfl
  rw[z]
  dsimp only
  rw[show(pL w os).heap.objs.size=11 from l,show(pL w os).heap.nsMap AT "__annotations__"=Me from j,r]
  dsimp only[Option.bind]
  rw[show(pL w os).heap=boot_heap w.params from rfl,o]
 unfold openEnds;rw[e];show((topFrom treeTable p w N (pL w os)).map _)=_;rw[t];exact A37 some (Prod.ext l2 b)
end HL
namespace L2
open PySem PySem.Spec PyProof.Rows
abbrev Gv:=Sum Int Bx
def ce:Gv->AY->Bool
 |.inl k,v=>Value.isInt k v
 |.inr x,v=>Value.isStrOf x v
def A2e(w:Cs):Gv->Int
 |.inl k=>hashInt k
 |.inr x=>hashStr w x
theorem Fv:∀{k:Gv} {v:AY},ce k v=true->(∃i t,k=Sum.inl i/\v=HK i t)\/(∃x t,k=Sum.inr x/\v=LG x t)
 |.inl i,v,h=>by
  obtain⟨t,e⟩:=Value.isInt_shape (k:=i) (v:=v) h;exact .inl ⟨i,t,rfl,e⟩
 |.inr x,v,h=>by
  obtain⟨t,e⟩:=Value.isStrOf_shape (x:=x) (v:=v) h;exact .inr ⟨x,t,rfl,e⟩
theorem qV(i:Int)(t:Tok):ce (.inl i) (.int i t)=true:=by simp[ce,Value.isInt]
theorem qU(x:Bx)(t:Tok):ce (.inr x) (.str x t)=true:=by simp[ce,Value.isStrOf]
theorem R6(a b:Int):decide ((Sum.inl a:Gv)=Sum.inl b)=(a==b):=by
 by_cases e:a=b
 ·subst e;simp
 ·have h:¬ (Sum.inl a:Gv)=Sum.inl b:=λq=>e (Sum.inl.inj q);rw[A33 h];exact(beq_eq_false_iff_ne.mpr e).symm
theorem R3(a b:Bx):decide ((Sum.inr a:Gv)=Sum.inr b)=decide (a=b):=by
 by_cases e:a=b
 ·subst e;simp
 ·have h:¬ (Sum.inr a:Gv)=Sum.inr b:=λq=>e (Sum.inr.inj q);rw[A33 h,A33 e]
theorem R5(a:Int)(b:Bx):decide ((Sum.inl a:Gv)=Sum.inr b)=false:=A33 (λq=>nomatch q)
theorem R4(a:Bx)(b:Int):decide ((Sum.inr a:Gv)=Sum.inl b)=false:=A33 (λq=>nomatch q)
noncomputable def EZ(prog:BG)(w:Cs):Ku prog w Gv where
 is:=ce
 hash:=A2e w
 inj:=λv a b ha f=>by
  rcases Fv ha with⟨i,t,rfl,rfl⟩|⟨x,t,rfl,rfl⟩
  ·rcases Fv f with⟨j,u,rfl,e⟩|⟨y,u,rfl,e⟩
   ·injection e with c _;rw[c]
   ·exact nomatch e
  ·rcases Fv f with⟨j,u,rfl,e⟩|⟨y,u,rfl,e⟩
   ·exact nomatch e
   ·injection e with c _;rw[c]
 byValue:=λk v h=>by
  rcases Fv h with⟨i,t,rfl,rfl⟩|⟨x,t,rfl,rfl⟩ <;> rfl
 pyHash:=λd h=>by
  rcases Fv d with⟨i,t,rfl,rfl⟩|⟨x,t,rfl,rfl⟩
  ·exact wpAny_pyHash_int h
  ·exact wpAny_pyHash_str h
 eqBool:=λg d h=>by
  rcases Fv g with⟨i,t,rfl,rfl⟩|⟨x,t,rfl,rfl⟩
  ·rcases Fv d with⟨j,u,rfl,rfl⟩|⟨y,u,rfl,rfl⟩
   ·rw[R6]at h;exact wpAny_eqBool_int h
   ·rw[R5]at h;exact SeqAt.EqAt.int_str i t y u _ _ _ _ h
  ·rcases Fv d with⟨j,u,rfl,rfl⟩|⟨y,u,rfl,rfl⟩
   ·rw[R4]at h;exact SeqAt.EqAt.str_int x t j u _ _ _ _ h
   ·rw[R3]at h;exact wpAny_eqBool_str h
 «strs»:=λk x t v h=>by
  rcases Fv h with⟨i,u,rfl,e⟩|⟨y,u,rfl,e⟩
  ·exact nomatch e
  ·injection e with c _;subst c;cases v <;> rfl
theorem jz(prog:BG)(w:Cs)(i:Int)(t:Tok): (EZ prog w).is (.inl i) (.int i t)=true:=qV i t
theorem jy(prog:BG)(w:Cs)(x:Bx)(t:Tok): (EZ prog w).is (.inr x) (.str x t)=true:=qU x t
inductive V where
 |non|bl (b:Bool)|int (i:Int)|str (x:Bx)|byt (b:Array UInt8)|flt (b:UInt64)|ref (a:Ba)|ty (n:String)
 deriving DecidableEq
def DA:V->AY->Prop
 |.non,u=>u=CM
 |.bl b,u=>u=Dm b
 |.int i,u=>∃t,u=HK i t
 |.str x,u=>∃t,u=LG x t
 |.byt b,u=>∃t,u=Value.bytes b t
 |.flt b,u=>∃t,u=Value.float b t
 |.ref a,u=>u=Value.ref a
 |.ty n,u=>u=EB n
abbrev CQ:List V->List AY->Prop:=Paired DA
theorem CQ.length{xs:List V}{us:List AY}(r:CQ xs us):xs.length=us.length:=Paired.length r
theorem CQ.get:∀{xs:List V} {us:List AY} {i:Nat} {x:V},CQ xs us->xs[i]?=some x->∃u,us[i]?=some u/\DA x u
 |_,_,_,_,.nil,e=>by simp at e
 |_,_,0,_,.cons r _,e=>by simp at e;subst e;exact⟨_,rfl,r⟩
 |_,_,i+1,x,.cons _ t,e=>by
  obtain⟨u,h1,h2⟩:=CQ.get (i:=i) (x:=x) t (by simpa using e);exact⟨u,by simpa using h1,h2⟩
theorem CQ.set{x:V}{u:AY}(r:DA x u):∀{xs:List V} {us:List AY} (i:Nat),CQ xs us->CQ (xs.set i x) (us.set i u)
 |_,_,_,.nil=>.nil
 |_,_,0,.cons _ t=>.cons r t
 |_,_,i+1,.cons q t=>.cons q (CQ.set r i t)
theorem CQ.append:∀{xs ys:List V} {us ws:List AY},CQ xs us->CQ ys ws->CQ (xs++ys) (us++ws)
 |_,_,_,_,.nil,s=>s
 |_,_,_,_,.cons r t,s=>.cons r (CQ.append t s)
theorem CQ.take:∀{xs:List V} {us:List AY} (n:Nat),CQ xs us->CQ (xs.take n) (us.take n)
 |_,_,0,_=>.nil
 |_,_,_+1,.nil=>.nil
 |_,_,n+1,.cons r t=>.cons r (CQ.take n t)
theorem CQ.drop:∀{xs:List V} {us:List AY} (n:Nat),CQ xs us->CQ (xs.drop n) (us.drop n)
 |_,_,0,r=>r
 |_,_,_+1,.nil=>.nil
 |_,_,n+1,.cons _ t=>CQ.drop n t
def La:Option V->Option AY->Prop
 |some v,some u=>DA v u
 |none,none=>True
 |_,_=>False
def KV{κ:Type}:List (κ×V)->List (κ×AY)->Prop:=Paired λ(p:κ×V) (q:κ×AY)=>p.1=q.1/\DA p.2 q.2
def kV:Gv->V
 |.inl i=>.int i
 |.inr x=>.str x
inductive HO where
 |lst (xs:List V)
 |tup (xs:List V)
 |dK (kvs:List (Gv×V))|dT (kvs:List (List Gv×V))
 |set (S:Int->Bool) (n:Nat)
 |ins (C dx:Ba) (fs:List (Bx×V))
 |own (x:Ba)
 |xd (fs:List (Bx×V))
 |met (f x:Ba)
 |rng (lo hi:Int)
 |frz (o:Obj) (u:HO)
 |tbl (ps:Array AY)
 |ext (φ:CO->Prop)
abbrev Hp:=Ba->Option HO
def upd(H:Hp)(a:Ba)(o:HO):Hp:=λb=>if b=a then some o else H b
theorem AX{H:Hp}{a:Ba}{o:HO}:upd H a o a=some o:=by unfold upd;rw[A36 rfl]
theorem Bo{H:Hp}{a b:Ba}{o:HO}(h:b≠a):upd H a o b=H b:=by unfold upd;rw[A35 h]
theorem Fo{H:Hp}{a:Ba}{o u:HO}:upd (upd H a o) a u=upd H a u:=by
 funext b;unfold upd;split <;> rfl
theorem jw{H:Hp}{a b:Ba}{o u:HO}(h:H a=some o)(h':H b=some u)(d:o≠u):a≠b:=by
 intro e;subst e;rw[h]at h';exact d (AR h')
theorem Ce{H:Hp}{a b:Ba}{o:HO}(h:H a=some o)(h':H b=none):a≠b:=by
 intro e;subst e;rw[h]at h';cases h'
section
variable(P:BG)(w:Cs)
def DH(H:Hp)(h:CO)(a:Ba):HO->Prop
 |.lst xs=>xs.length<=sizeLine/\∃(b:List AY) (n:Nat),CQ xs b/\h.get? a=some {cls:=.type "list",data:=.seq b.toArray n}
 |.tup xs=>xs.length<=sizeLine/\∃b:List AY,CQ xs b/\IsTup h a b.toArray
 |.dK kvs=>kvs.length<=sizeLine/\(a==Ip)=false/\∃vs,KV kvs vs/\h.DictOf (EZ P w) a vs
 |.dT kvs=>kvs.length<=sizeLine/\(a==Ip)=false/\∃xs:List (List Gv×Ba×AY),Paired (λ(p:List Gv×V) (q:List Gv×Ba×AY)=>p.1=q.1/\H q.2.1=some (.tup (p.1.map kV))/\DA p.2 q.2.2) kvs xs/\∃o es ep,h.get? a=some o/\o.ExactDict/\o.data= .dict es ep/\es.toList=xs.map (entryOfKey (tupleKind (EZ P w)))/\(xs.map (·.1)).Nodup
 |.set S n=>h.SetOf (intKind P w) a S n
 |.ins C dx fs=>H dx=some (.own a)/\fs.length<=1000/\dx≠a/\h.get? a=some (DE C dx)/\∃mA,h.Ns1 dx mA/\(∀f,La (fs.lookup f) (mA f))/\PySem.Within mA (fs.map (·.1))
 |.own _=>∃o,h.get? a=some o
 |.xd fs=>∃mA,h.Ns1 a mA/\∀f,La (fs.lookup f) (mA f)
 |.rng lo hi=>∃t u v,h.get? a=some {cls:=.type "range",data:=.fields #[.int lo t,.int hi u,.int 1 v]}
 |.frz o u=>h.get? a=some o/\DH H h a u
 |.tbl ps=>h.get? a=some {cls:=.none,data:=.fields ps}
 |.met f x=>h.get? a=some (PySem.W.methodObj (.ref f) (.ref x))
 |.ext φ=>φ h/\(∃o,h.get? a=some o)/\∀h1 h2:CO,φ h1->(∀o,h1.get? a=some o->h2.get? a=some o)->φ h2
def JE(H:Hp)(h:CO):Prop:=∀a o,H a=some o->DH P w H h a o
end
section
variable{P:BG}{w:Cs}{H H':Hp}{h h':CO}{a:Ba}{o:HO}
theorem DH.lt(x:DH P w H h a o):a<h.objs.size:=by
 cases o with
 |lst xs=>obtain⟨_,_,_,_,e⟩:=x;exact BN e
 |tup xs=>obtain⟨_,_,_,p⟩:=x;exact p.lt
 |dK kvs=>obtain⟨_,_,_,_,o,_,_,e,_⟩:=x;exact BN e
 |dT kvs=>obtain⟨_,_,_,_,o,_,_,e,_⟩:=x;exact BN e
 |set S n=>obtain⟨o,_,_,_,e,_⟩:=x;exact BN e
 |ins C dx fs=>obtain⟨_,_,_,e,_⟩:=x;exact BN e
 |own y=>obtain⟨_,e⟩:=x;exact BN e
 |xd fs=>obtain⟨_,⟨_,_,_,e,_⟩,_⟩:=x;exact BN e
 |rng lo hi=>obtain⟨_,_,_,e⟩:=x;exact BN e
 |frz ob u=>obtain⟨e,_⟩:=x;exact BN e
 |tbl ps=>exact BN (show h.get? a=some _ from x)
 |met f y=>exact BN (show h.get? a=some _ from x)
 |ext φ=>obtain⟨_,⟨_,e⟩,_⟩:=x;exact BN e
theorem Paired.mapP{d c:Type}{F G:d->c->Prop}:∀{l₁:List d} {l₂:List c},Paired F l₁ l₂->(∀a b,F a b->G a b)->Paired G l₁ l₂
 |_,_,.nil,_=>.nil
 |_,_,.cons r t,f=>.cons (f _ _ r) (Paired.mapP t f)
theorem Paired.imp'{d c:Type}{F G:d->c->Prop}(f:∀a b,F a b->G a b){l₁:List d}{l₂:List c}(r:Paired F l₁ l₂):Paired G l₁ l₂:=Paired.mapP r f
theorem DH.stay(x:DH P w H h a o)(k:∀b u,(b=a\/H b=some (.own a))->h.get? b=some u->h'.get? b=some u)(l:∀b,H b=some (.own a)->H' b=some (.own a))(j:∀b xs,H b=some (.tup xs)->H' b=some (.tup xs)):DH P w H' h' a o:=by
 induction o with
 |lst xs=>obtain⟨z,g,n,r,e⟩:=x;exact⟨z,g,n,r,k _ _ (.inl rfl) e⟩
 |tup xs=>obtain⟨z,g,r,ob,e,c⟩:=x;exact⟨z,g,r,ob,k _ _ (.inl rfl) e,c⟩
 |dK kvs=>obtain⟨z,y,vs,r,ob,es,ep,e,c⟩:=x;exact⟨z,y,vs,r,ob,es,ep,k _ _ (.inl rfl) e,c⟩
 |dT kvs=>
  obtain⟨z,y,xs,r,ob,es,ep,e,c⟩:=x;exact⟨z,y,xs,Paired.mapP r λp q z=>⟨z.1,j _ _ z.2.1,z.2.2⟩,ob,es,ep,k _ _ (.inl rfl) e,c⟩
 |set S n=>obtain⟨ob,es,ep,t,e,c⟩:=x;exact⟨ob,es,ep,t,k _ _ (.inl rfl) e,c⟩
 |ins C dx fs=>
  obtain⟨d,z,ne,e,mA,⟨od,es,ep,m,c⟩,r⟩:=x;exact⟨l _ d,z,ne,k _ _ (.inl rfl) e,mA,⟨od,es,ep,k _ _ (.inr d) m,c⟩,r⟩
 |own y=>obtain⟨ob,e⟩:=x;exact⟨ob,k _ _ (.inl rfl) e⟩
 |xd fs=>obtain⟨mA,⟨od,es,ep,e,c⟩,r⟩:=x;exact⟨mA,⟨od,es,ep,k _ _ (.inl rfl) e,c⟩,r⟩
 |rng lo hi=>obtain⟨t,u,v,e⟩:=x;exact⟨t,u,v,k _ _ (.inl rfl) e⟩
 |frz ob u i=>obtain⟨e,q⟩:=x;exact⟨k _ _ (.inl rfl) e,i q⟩
 |tbl ps=>
  have e:h.get? a=some {cls:=.none,data:=.fields ps}:=x;show h'.get? a=some {cls:=.none,data:=.fields ps};exact k a _ (.inl rfl) e
 |met f y=>
  have e:h.get? a=some (PySem.W.methodObj (.ref f) (.ref y)):=x;show h'.get? a=some (PySem.W.methodObj (.ref f) (.ref y));exact k a _ (.inl rfl) e
 |ext φ=>obtain⟨p,⟨o,e⟩,st⟩:=x;exact⟨st _ _ p λo q=>k _ _ (.inl rfl) q,⟨o,k _ _ (.inl rfl) e⟩,st⟩
theorem JE.lt(x:JE P w H h)(e:H a=some o):a<h.objs.size:=(x a o e).lt
theorem JE.fresh(x:JE P w H h)(e:h.objs.size<=a):H a=none:=by
 cases q:H a with
 |none=>rfl
 |some u=>exact A38 (Cz (x.lt q) e) (Ev _)
theorem JE.kept(x:JE P w H h)(k:∀b u,h.get? b=some u->h'.get? b=some u):JE P w H h':=λa o e=>
 (x a o e).stay (λb u _ q=>k b u q) (λ_ q=>q) λ_ _ q=>q
theorem JE.laid(x:JE P w H h)(k:∀b u,h.get? b=some u->h'.get? b=some u)(f:h.objs.size<=a)(new:DH P w (upd H a o) h' a o):JE P w (upd H a o) h':=λb u e=>by
 have hn:=x.fresh f;by_cases d:b=a
 ·subst d;rw[AX]at e;cases e;exact new
 ·rw[Bo d]at e;exact(x b u e).stay (λc v _ q=>k c v q) (λc q=>by rw[Bo (Ce q hn)];exact q) λc xs q=>by rw[Bo (Ce q hn)];exact q
end
def Rd(H:Hp)(a:Ba)(u:HO):Prop:=H a=some u\/∃o,H a=some (.frz o u)
theorem Rd.ok{P:BG}{w:Cs}{H:Hp}{h:CO}{a:Ba}{u:HO}(r:Rd H a u)(x:JE P w H h):DH P w H h a u:=by
 rcases r with r|⟨o,r⟩
 ·exact x a u r
 ·obtain⟨_,q⟩:=x a _ r;exact q
def Mut:Option HO->Prop
 |some (.lst _)=>True
 |some (.dK _)=>True
 |some (.dT _)=>True
 |some (.set _ _)=>True
 |some (.ins _ _ _)=>True
 |some (.xd _)=>True
 |some (.ext _)=>True
 |_=>False
section
variable{P:BG}{w:Cs}{H:Hp}{h h':CO}{x e:Ba}{o':HO}
theorem JE.write(ok:JE P w H h)(g:Mut (H x))(m:e=x\/H e=some (.own x))(k:∀b u,b≠e->h.get? b=some u->h'.get? b=some u)(j:∃u,h'.get? e=some u)(new:DH P w (upd H x o') h' x o'):JE P w (upd H x o') h':=λb u q=>by
 have d:∀c y,H c=some (.own y)->c≠x:=λc y r z=>by subst z;rw[r]at g;exact g
 have f:∀c xs,H c=some (.tup xs)->c≠x:=λc xs r z=>by subst z;rw[r]at g;exact g
 by_cases i:b=x
 ·subst i;rw[AX]at q;cases q;exact new
 ·rw[Bo i]at q;by_cases a:b=e
  ·have l:H b=some (.own x):=by
    rcases m with z|z
    ·exact A38 (a.trans z) i
    ·rw[a];exact z
   rw[q]at l;cases l;obtain⟨v,n⟩:=j;exact⟨v,by rw[a];exact n⟩
  ·refine(ok b u q).stay (λc v hc r=>k c v ?_ r) (λc r=>by rw[Bo (d c b r)];exact r) λc xs r=>by rw[Bo (f c xs r)];exact r
   rcases hc with rfl|hc
   ·exact a
   ·rintro rfl;rcases m with z|z
    ·exact d c b hc z
    ·rw[hc]at z;cases z;exact i rfl
end
structure Un(fs ex:List Ba)(H H':Hp)(h h':CO):Prop where
 keep:∀b o,h.get? b=some o->H b=none->b∉fs->b∉ex->h'.get? b=some o
 slot:∀b o,h.get? b=some o->H b=none->b∈fs->b∉ex->∃sl,h'.get? b=some {o with slots:=sl}
 free:∀b o,h.get? b=some o->H b=none->b∉ex->H' b=none
 there:∀b o,h.get? b=some o->b∉ex->∃o',h'.get? b=some o'
 tups:∀b xs,H b=some (.tup xs)->H' b=some (.tup xs)
 frzs:∀b o u,H b=some (.frz o u)->H' b=some (.frz o u)
 tbls:∀b ps,H b=some (.tbl ps)->∃more,H' b=some (.tbl (ps++more))
section
variable{fs fs' ex ex':List Ba}{H H1 H2:Hp}{h h1 h2 h':CO}{a x e:Ba}{o:HO}
theorem Un.any(u:Un fs ex H H1 h h1){b:Ba}{ob:Obj}(q:h.get? b=some ob)(n:H b=none)(a:b∉ex):∃sl,h1.get? b=some {ob with slots:=sl}:=by
 by_cases c:b∈fs
 ·exact u.slot b ob q n c a
 ·exact⟨ob.slots,u.keep b ob q n c a⟩
theorem Un.kept(k:∀b u,h.get? b=some u->h'.get? b=some u):Un fs ex H H h h':=⟨λb ob q _ _ _=>k b ob q,λb ob q _ _ _=>⟨ob.slots,k b ob q⟩,λ_ _ _ n _=>n,λb ob q _=>⟨ob,k b ob q⟩,λ_ _ q=>q,λ_ _ _ q=>q,λ_ ps q=>⟨#[],by rw[q];simp⟩⟩
theorem Un.refl:Un fs ex H H h h:=Un.kept λ_ _ q=>q
theorem Un.laid(k:∀b u,h.get? b=some u->h'.get? b=some u)(c:h.objs.size<=a)(hn:H a=none):Un fs ex H (upd H a o) h h' where
 keep:=λb u q _ _ _=>k b u q
 slot:=λb u q _ _ _=>⟨u.slots,k b u q⟩
 free:=λb u q n _=>by rw[Bo (Ck (Cz (BN q) c))];exact n
 there:=λb u q _=>⟨u,k b u q⟩
 tups:=λb xs q=>by rw[Bo (Ce q hn)];exact q
 frzs:=λb u xs q=>by rw[Bo (Ce q hn)];exact q
 tbls:=λb ps q=>⟨#[],by rw[Bo (Ce q hn),q];simp⟩
theorem Un.write(c:Mut (H x))(i:e=x\/H e=some (.own x))(k:∀b u,b≠e->h.get? b=some u->h'.get? b=some u)(d:∃u,h'.get? e=some u):Un fs ex H (upd H x o) h h':=by
 have f:∀b,H b=none->b≠x:=λb n z=>by subst z;rw[n]at c;exact c
 have g:∀b,H b=none->b≠e:=λb n z=>by
  subst z;rcases i with r|r
  ·exact f b n r
  ·rw[n]at r;cases r
 have hm:∀b u,H b=some u->¬Mut (some u)->b≠x:=λb u q nm z=>by subst z;rw[q]at c;exact nm c
 refine⟨λb u q n _ _=>k b u (g b n) q,λb u q n _ _=>⟨u.slots,k b u (g b n) q⟩,λb u q n _=>by rw[Bo (f b n)];exact n,λb u q _=>?_,λb xs q=>by rw[Bo (hm b _ q λz=>z)];exact q,λb u xs q=>by rw[Bo (hm b _ q λz=>z)];exact q,λb ps q=>⟨#[],by rw[Bo (hm b _ q λz=>z),q];simp⟩⟩;by_cases a:b=e
 ·subst a;exact d
 ·exact⟨u,k b u a q⟩
end
def trk(h:CO)(H:Hp):List Ba:=(Bz h.objs.size).filter λa=>(H a).isSome
def fV(h:CO)(H:Hp):CO:=HM h (trk h H)
theorem qZ(h:CO)(H:Hp): (fV h H).objs.size=h.objs.size:=PySem.W.hideAll_size _ _
theorem vm{h:CO}{H:Hp}{b:Ba}{o:Obj}(e:h.get? b=some o)(n:H b=none): (fV h H).get? b=some o:=Lr _ e λhm=>by
  have q: (H b).isSome=true:=(EX.mp hm).2;rw[n]at q;simp at q
theorem yK{h:CO}{H:Hp}{b:Ba}{o:Obj}(e: (fV h H).get? b=some o):h.get? b=some o/\H b=none:=by
 have a:h.get? b=some o:=PySem.W.of_hideAll (trk h H) e;refine⟨a,?_⟩;cases q:H b with
 |none=>rfl
 |some x=>
  have hm:b∈trk h H:=EX.mpr ⟨DJ.mpr (BN a),by simp[q]⟩;have z: (fV h H).get? b=none:=TX (trk h H) hm;rw[z]at e;cases e
def zA(g h:CO)(L:Ba):List (Ba×Obj):=(Bz h.objs.size).filterMap λa=>if a=L\/(g.get? a).isSome=true then none else (h.get? a).map λo=>(a,o)
def rest(g h:CO)(L d:Ba):List (Ba×Obj):=(zA g h L).filter λp=>decide (p.1≠d)
structure Mod(K:Be)(mg:Bx->Option AY)(base:CO):Prop where
 kin:K.In base
 glob:base.Ns AT mg
 blt:∃mb,base.Ns OR mb/\∀x:Bx,x≠ "__name__" ->mb x=CP x
 nolimit:base.NoLimit
abbrev JP(cls:AY)(dx:Option Ba)(a0 tb:AY):Obj:={cls:=cls,dict:=dx,data:=.fields #[a0,tb,.none,.none,.bool false,.none]}
def wu(e:Ba)(ob:Obj):HO:=.frz ob (.ext λh=>h.get? e=some ob)
def Hd(A:Do)(H:Hp):Prop:=∃e cls dx a0 tb,A.handled=some (.ref e)/\H e=some (wu e (JP cls dx a0 tb))
structure Cx where
 prog:BG
 w:Cs
 K:Be
 mg:Bx->Option AY
 base:CO
 A:Do
 N:List Bx
 s_:Bf
 H_:Hp
 env:Env
 outer:List Env
 stack:List Env
 ex:List Ba
 fn:Bx->Bool
 calm:Bool
 suit:Bool
 pn:List (Ba×Obj)
 xe:AY->Bf->Prop
def ND(l:List Env):List Ba:=l.filterMap (·.frame)
abbrev Cx.fs(X:Cx):List Ba:=ND X.outer
def Vis(sc:Scope)(x:Bx):Prop:=sc.names.lookup x=some .local\/sc.names.lookup x=some .cell\/sc.names.lookup x=some .free
def Loc(sc:Scope)(x:Bx):Prop:=sc.names.lookup x=some .local\/sc.names.lookup x=some .cell
def A2t(env:Env)(h:CO)(m:Bx->Option AY)(x:Bx)(u:AY):Prop:=(env.kindOf x=some .local/\m x=some u)\/((env.kindOf x=some .cell\/env.kindOf x=some .free)/\∃c,env.cells.lookup x=some c/\h.IsCell c (some u))
structure Cx.Ok(X:Cx):Prop where
 mod:Mod X.K X.mg X.base
 kind:X.env.scope.kind= .function
 glob:X.env.globals=AT
 blt:X.env.builtins=OR
 above:X.s_.heap.objs.size<=X.env.locals
 inj:∀x y c,X.env.cells.lookup x=some c->X.env.cells.lookup y=some c->x=y
 has:∀x,(X.env.kindOf x=some .cell\/X.env.kindOf x=some .free)->∃c,X.env.cells.lookup x=some c
 cab:∀x c,X.fn x=true->X.env.cells.lookup x=some c->X.s_.heap.objs.size<=c
 hd:X.calm=true->X.A.handled=none
 frames:X.A.frames=some X.stack
 stk:X.stack=X.outer\/(X.stack=X.env::X.outer/\X.env.frame=some X.env.locals)
 exf:∀b∈X.ex,b≠X.env.locals/\∀x c,X.env.cells.lookup x=some c->c≠b
 bs:∀b o,X.base.get? b=some o->X.s_.heap.get? b=some o/\X.H_ b=none
 bsz:X.base.objs.size<=X.s_.heap.objs.size
 noex:∀b o,X.base.get? b=some o->b∉X.ex
 exfs:∀b∈X.ex,b∉X.fs
 funs:X.s_.heap.FunFrames X.base X.outer
 frf:∀b∈X.fs,X.H_ b=none
 hs:X.suit=true->Hd X.A X.H_
structure CL(X:Cx)(pZ:List (Ba×Obj))(σ:List (Option V))(H:Hp)(s:Bf):Prop where
 ok:X.Ok
 os:s.os=X.s_.os
 bare:AllBare s.gens
 base:Un X.fs X.ex X.H_ H X.s_.heap s.heap
 loc:∃m,s.heap.Ns X.env.locals m/\∀(i:Nat) (x:Bx) (v:V),X.N[i]?=some x->σ[i]?=some (some v)->Vis X.env.scope x->∃u,DA v u/\A2t X.env s.heap m x u
 cell:∀x c,X.env.cells.lookup x=some c->∃v,s.heap.IsCell c v
 free:H X.env.locals=none
 freeC:∀x c,X.env.cells.lookup x=some c->H c=none
 pin:∀p∈X.pn++pZ,s.heap.get? p.1=some p.2/\H p.1=none/\p.1≠X.env.locals/\p.1∉X.fs/\∀v,p.2.data≠ .cell v
 hok:JE X.prog X.w H s.heap
 len:σ.length=X.N.length
section
variable{X:Cx}{pZ:List (Ba×Obj)}{σ:List (Option V)}{H H':Hp}{s:Bf}{h':CO}
theorem Cx.Ok.nofr(ok:X.Ok){b:Ba}{o:Obj}(e:X.base.get? b=some o):b∉X.fs:=λa=>by
 have:=(ok.funs.mem a).1;rw[e]at this;cases this
theorem CL.bs(I:CL X pZ σ H s):∀b o,X.base.get? b=some o->s.heap.get? b=some o/\H b=none:=λb o e=>
 ⟨I.base.keep b o (I.ok.bs b o e).1 (I.ok.bs b o e).2 (I.ok.nofr e) (I.ok.noex b o e),I.base.free b o (I.ok.bs b o e).1 (I.ok.bs b o e).2 (I.ok.noex b o e)⟩
theorem CL.bk(I:CL X pZ σ H s):∀b o,X.base.get? b=some o->s.heap.get? b=some o:=λb o e=>(I.bs b o e).1
theorem CL.mod(I:CL X pZ σ H s):Mod X.K X.mg X.base:=I.ok.mod
theorem CL.kIn(I:CL X pZ σ H s):X.K.In s.heap:=I.ok.mod.kin.keeps I.bk
theorem CL.lt(I:CL X pZ σ H s):X.env.locals<s.heap.objs.size:=let ⟨_,hn,_⟩:=I.loc;hn.lt
theorem CL.sz(I:CL X pZ σ H s):X.s_.heap.objs.size<=s.heap.objs.size:=BF I.ok.above (Gp I.lt)
theorem CL.nofs(I:CL X pZ σ H s){a:Ba}(h:s.heap.objs.size<=a):a∉X.fs:=λc=>by
 obtain⟨_,o,b,_⟩:=I.ok.funs.mem c;exact A38 (Cz (BN b) (BF I.sz h)) (Ev _)
theorem CL.cne(I:CL X pZ σ H s):∀x c,X.env.cells.lookup x=some c->c≠X.env.locals:=λx c e z=>by
 obtain⟨v,o,d,hd⟩:=I.cell x c e;obtain⟨m,⟨o',es,ep,a,b,_⟩,_⟩:=I.loc;rw[z,a]at d;cases d;rw[b]at hd;cases hd
theorem CL.funs(I:CL X pZ σ H s):s.heap.FunFrames X.base X.outer:=by
 have all:∀(l:List Env),(∀b∈ND l,b∈X.fs)->X.s_.heap.FunFrames X.base l->s.heap.FunFrames X.base l:=by
  intro l;induction l with
  |nil=>intro _ _;trivial
  |cons env r f=>
   intro hs i;obtain⟨j,⟨L,o,a,hn,h,hd⟩,g⟩:=i;have d:L∈X.fs:=hs L (by unfold ND;rw[GM,a];exact Ds);obtain⟨sl,e⟩:=I.base.slot L o h (I.ok.frf L d) d λz=>I.ok.exfs L z d;exact⟨j,⟨L,_,a,hn,e,hd⟩,f (λb c=>hs b (by unfold ND;rw[GM,a];exact CJ _ c)) g⟩
 exact all X.outer (λ_ c=>c) I.ok.funs
theorem CL.stack(I:CL X pZ σ H s):s.heap.FunFrames X.base X.stack:=by
 rcases I.ok.stk with e|⟨e,a⟩
 ·rw[e];exact I.funs
 ·rw[e];obtain⟨m,hn,_⟩:=I.loc;refine .cons (by rw[I.ok.kind];decide) a hn ?_ I.funs;exact YY (BF I.ok.bsz I.ok.above)
theorem CL.stkSub(I:CL X pZ σ H s):∀b∈ND X.stack,b∈X.env.locals::X.fs:=λb a=>by
 rcases I.ok.stk with e|⟨e,c⟩
 ·rw[e]at a;exact CJ _ a
 ·rw[e]at a;unfold ND at a;rw[GM,c]at a;exact a
theorem CL.stkFree(I:CL X pZ σ H s):∀b∈ND X.stack,H b=none:=λb a=>by
 rcases BK.mp (I.stkSub b a)with e|a
 ·rw[e];exact I.free
 ·obtain⟨_,o,c,_⟩:=I.ok.funs.mem a;exact I.base.free b o c (I.ok.frf b a) λz=>I.ok.exfs b z a
theorem CL.step{g':Array GenState}{t':Nat}{d':Drawn}{ch:List Ba}(I:CL X pZ σ H s)(g:∀b∈ch,(b∈X.ex\/X.s_.heap.objs.size<=b)/\b≠X.env.locals/\(∀x c,X.env.cells.lookup x=some c->c≠b)/\∀p∈X.pn++pZ,p.1≠b)(keep:∀b o,b≠X.env.locals->b∉X.fs->b∉ch->s.heap.get? b=some o->H b=none->h'.get? b=some o)(slot:∀b o,b≠X.env.locals->b∈X.fs->b∉ch->s.heap.get? b=some o->H b=none->∃sl,h'.get? b=some {o with slots:=sl})(free:∀b o,b∉ch->s.heap.get? b=some o->H b=none->H' b=none)(there:∀b o,b∉ch->s.heap.get? b=some o->∃o',h'.get? b=some o')(tups:∀b xs,H b=some (.tup xs)->H' b=some (.tup xs))(frzs:∀b o u,H b=some (.frz o u)->H' b=some (.frz o u))(tbls:∀b ps,H b=some (.tbl ps)->∃more,H' b=some (.tbl (ps++more)))(ns:∀m,s.heap.Ns X.env.locals m->h'.Ns X.env.locals m)(hok:JE X.prog X.w H' h')(M:AllBare g'):
  CL X pZ σ H' {s with heap:=h',gens:=g',drawn:=d',toks:=t'}:=by
 have B:∀b o,X.s_.heap.get? b=some o->b≠X.env.locals:=λb o e=>Ck (Cz (BN e) I.ok.above);have j:∀b o,X.s_.heap.get? b=some o->b∉X.ex->b∉ch:=λb o e a y=>by
  rcases(g b y).1 with z|z
  ·exact a z
  ·exact A38 (Cz (BN e) z) (Ev _)
 have h:∀x c,X.env.cells.lookup x=some c->∀v,s.heap.IsCell c v->h'.IsCell c v:=λx c e v C=>by
  obtain⟨o,A,hd⟩:=C;have f:c∉ch:=λz=>(g c z).2.2.1 x c e rfl;by_cases hc:c∈X.fs
  ·obtain⟨sl,q⟩:=slot c o (I.cne x c e) hc f A (I.freeC x c e);exact⟨_,q,hd⟩
  ·exact⟨o,keep c o (I.cne x c e) hc f A (I.freeC x c e),hd⟩
 refine⟨I.ok,I.os,M,⟨λb o e n y a=>?_,λb o e n y a=>?_,λb o e n a=>?_,λb o e a=>?_,λb xs e=>tups b xs (I.base.tups b xs e),λb o xs e=>frzs b o xs (I.base.frzs b o xs e),λb ps e=>?_⟩,?_,λx c e=>?_,?_,λx c e=>?_,λp G=>?_,hok,I.len⟩
 ·exact keep b o (B b o e) y (j b o e a) (I.base.keep b o e n y a) (I.base.free b o e n a)
 ·obtain⟨sl,t⟩:=I.base.slot b o e n y a;obtain⟨E,D⟩:=slot b _ (B b o e) y (j b o e a) t (I.base.free b o e n a);exact⟨E,D⟩
 ·obtain⟨o',t⟩:=I.base.there b o e a;exact free b o' (j b o e a) t (I.base.free b o e n a)
 ·obtain⟨o',t⟩:=I.base.there b o e a;exact there b o' (j b o e a) t
 ·obtain⟨K,t⟩:=I.base.tbls b ps e;obtain⟨J,D⟩:=tbls b _ t;exact⟨K++J,by rw[D,Array.append_assoc]⟩
 ·obtain⟨m,hn,L⟩:=I.loc;refine⟨m,ns m hn,λi x v t D N=>?_⟩;obtain⟨u,r,l⟩:=L i x v t D N;refine⟨u,r,?_⟩;rcases l with l|⟨k,c,e,z⟩
  ·exact .inl l
  ·exact .inr ⟨k,c,e,h x c e _ z⟩
 ·obtain⟨v,z⟩:=I.cell x c e;exact⟨v,h x c e v z⟩
 ·obtain⟨m,⟨o,_,_,A,_⟩,_⟩:=I.loc;exact free _ o (λz=>(g _ z).2.1 rfl) A I.free
 ·obtain⟨v,o,A,hd⟩:=I.cell x c e;exact free c o (λz=>(g c z).2.2.1 x c e rfl) A (I.freeC x c e)
 ·obtain⟨e,n,ne,F,d⟩:=I.pin p G;have f:p.1∉ch:=λz=>(g p.1 z).2.2.2 p G rfl;exact⟨keep p.1 p.2 ne F f e n,free p.1 p.2 f e n,ne,F,d⟩
theorem CL.un{t':Nat}(I:CL X pZ σ H s)(u:Un X.fs [] H H' s.heap h')(hok:JE X.prog X.w H' h'):CL X pZ σ H' {s with heap:=h',toks:=t'}:=by
 obtain⟨m,⟨o,es,ep,g,r⟩,_⟩:=id I.loc;obtain⟨sl,i⟩:=u.any g I.free (by simp);exact I.step (g':=s.gens) (d':=s.drawn) (ch:=[]) (λ_ z=>nomatch z) (λb o _ c _ e n=>u.keep b o e n c (by simp)) (λb o _ c _ e n=>u.slot b o e n c (by simp)) (λb o _ e n=>u.free b o e n (by simp)) (λb o _ e=>u.there b o e (by simp)) u.tups u.frzs u.tbls (λj hm=>by
  obtain⟨o',d,f,a,h⟩:=hm;rw[g]at a;cases a;exact⟨_,d,f,i,h⟩) hok I.bare
theorem CL.call{g':Array GenState}{t':Nat}{d':Drawn}{ch:List Ba}(I:CL X pZ σ H s)(u:Un (ND X.stack) ch H H' s.heap h')(hok:JE X.prog X.w H' h')(k:AllBare g')(d:∀b∈ch,(b∈X.ex\/X.s_.heap.objs.size<=b)/\b≠X.env.locals/\(∀x c,X.env.cells.lookup x=some c->c≠b)/\∀p∈X.pn++pZ,p.1≠b):
  CL X pZ σ H' {s with heap:=h',gens:=g',drawn:=d',toks:=t'}:=by
 obtain⟨m,⟨o,es,ep,i,r⟩,_⟩:=id I.loc;obtain⟨sl,f⟩:=u.any i I.free λz=>(d _ z).2.1 rfl;exact I.step (ch:=ch) d (λb o f l hc e n=>u.keep b o e n (λz=>(BK.mp (I.stkSub b z)).elim f l) hc) (λb o _ _ hc e n=>u.any e n hc) (λb o hc e n=>u.free b o e n hc) (λb o hc e=>u.there b o e hc) u.tups u.frzs u.tbls (λq hm=>by
  obtain⟨o',g,h,a,j⟩:=hm;rw[i]at a;cases a;exact⟨_,g,h,f,j⟩) hok k
theorem CL.turned{t':Nat}{it:Ba}(I:CL X pZ σ H s)(k:∀b o,b≠it->s.heap.get? b=some o->h'.get? b=some o)(hn:H it=none)(d:it≠X.env.locals)(h1:it∈X.ex\/X.s_.heap.objs.size<=it)(h2:∀x c,X.env.cells.lookup x=some c->c≠it)(h3:∀p∈X.pn++pZ,p.1≠it):CL X pZ σ H {s with heap:=h',toks:=t'}:=by
 have a:∀b u,H b=some u->b≠it:=λb u e z=>by rw[z,hn]at e;cases e
 refine I.step (g':=s.gens) (d':=s.drawn) (ch:=[it]) (λb g=>?_) (λb o _ _ hc e _=>k b o (λz=>hc (by simp[z])) e) (λb o _ _ hc e _=>⟨o.slots,k b o (λz=>hc (by simp[z])) e⟩) (λ_ _ _ _ n=>n) (λb o hc e=>⟨o,k b o (λz=>hc (by simp[z])) e⟩) (λ_ _ e=>e) (λ_ _ _ e=>e) (λb ps e=>⟨#[],by rw[e];simp⟩) (λm hm=>?_) (λb u e=>?_) I.bare
 ·have e:b=it:=by simpa using g
  subst e;exact⟨h1,d,h2,h3⟩
 ·obtain⟨o,es,ep,f,r⟩:=hm;exact⟨o,es,ep,k _ o (DP d) f,r⟩
 ·refine(I.hok b u e).stay (λc v hc q=>k c v ?_ q) (λ_ q=>q) λ_ _ q=>q;rcases hc with z|z
  ·rw[z];exact a b u e
  ·exact a c _ z
theorem CL.tok(I:CL X pZ σ H s)(t:Nat):CL X pZ σ H {s with toks:=t}:=I.un (h':=s.heap) (t':=t) Un.refl I.hok
theorem CL.kept{t':Nat}(I:CL X pZ σ H s)(k:∀b u,s.heap.get? b=some u->h'.get? b=some u):CL X pZ σ H {s with heap:=h',toks:=t'}:=I.un (Un.kept k) (I.hok.kept k)
theorem CL.laid{a:Ba}{o:HO}{t':Nat}(I:CL X pZ σ H s)(k:∀b u,s.heap.get? b=some u->h'.get? b=some u)(c:s.heap.objs.size<=a)(new:DH X.prog X.w (upd H a o) h' a o):
  CL X pZ σ (upd H a o) {s with heap:=h',toks:=t'}:=I.un (Un.laid k c (I.hok.fresh c)) (I.hok.laid k c new)
theorem CL.write{x e:Ba}{o:HO}{t':Nat}(I:CL X pZ σ H s)(c:Mut (H x))(d:e=x\/H e=some (.own x))(k:∀b u,b≠e->s.heap.get? b=some u->h'.get? b=some u)(a:∃u,h'.get? e=some u)(new:DH X.prog X.w (upd H x o) h' x o):CL X pZ σ (upd H x o) {s with heap:=h',toks:=t'}:=I.un (Un.write c d k a) (I.hok.write c d k a new)
theorem CL.weak{a:List (Option V)}(I:CL X pZ σ H s)(c:a.length=σ.length)(w:∀(i:Nat) v,a[i]?=some (some v)->σ[i]?=some (some v)):CL X pZ a H s:=⟨I.ok,I.os,I.bare,I.base,let ⟨m,hn,b⟩:=I.loc;⟨m,hn,λi x v f e d=>b i x v f (w i v e) d⟩,I.cell,I.free,I.freeC,I.pin,I.hok,c.trans I.len⟩
theorem CL.pins_of{a:List (Ba×Obj)}(I:CL X pZ σ H s)(h:∀p∈a,s.heap.get? p.1=some p.2/\H p.1=none/\p.1≠X.env.locals/\p.1∉X.fs/\∀v,p.2.data≠ .cell v):CL X a σ H s:=⟨I.ok,I.os,I.bare,I.base,I.loc,I.cell,I.free,I.freeC,λp b=>(Cg.mp b).elim (λz=>I.pin p (CF _ z)) (h p),I.hok,I.len⟩
theorem jv{N:List Bx}(c:N.Nodup){i j:Nat}{x:Bx}(a:N[i]?=some x)(b:N[j]?=some x):i=j:=by
 obtain⟨h1,e⟩:=Bi.mp a;obtain⟨h2,d⟩:=Bi.mp b;exact(List.getElem_inj c).mp (e.trans d.symm)
theorem bH{M:Model}{A:Do}{E:AY->Bf->Prop}{i:Nat}{x:Bx}{v:V}{u:AY}{Q:Unit->Bf->Prop}(I:CL X pZ σ H s)(hN:X.N.Nodup)(hi:X.N[i]?=some x)(l:Loc X.env.scope x)(r:DA v u)(h:∀s',CL X pZ (σ.set i (some v)) H s'->(∃a,NA a s.heap s'.heap/\(a=X.env.locals\/X.env.cells.lookup x=some a))->Q () s')(hf:X.fn x=true\/X.env.scope.names.lookup x=some .local:=by first|exact .inl rfl|exact .inr rfl|assumption):Cc M A (storeName X.env x u) Q E s:=by
 obtain⟨m,hn,hl⟩:=id I.loc;have O: (X.env.scope.kind== .class|| (X.env.scope.kind== .module&&X.env.locals != X.env.globals))=false:=by rw[I.ok.kind];rfl
 have D:i<σ.length:=by rw[I.len];exact(Bi.mp hi).1
 have cne:=I.cne;have f:∀{a:Ba} {h':CO},(∃o,s.heap.get? a=some o/\H a=none)->NA a s.heap h'->JE X.prog X.w H h':=λ{a h'} ha hs b ob e=>by
  obtain⟨_,_,t⟩:=ha;refine(I.hok b ob e).stay (λc S hc q=>(hs.2 c ?_).trans q) (λ_ q=>q) λ_ _ q=>q;rintro rfl;rcases hc with rfl|hc
  ·rw[t]at e;cases e
  ·rw[t]at hc;cases hc
 rcases l with C|C
 ·refine wpAny_storeName_local C hn (λh' a2 hs=>?_) O;obtain⟨oL,_,_,a1,_⟩:=id hn;refine h _ ⟨I.ok,I.os,I.bare,⟨λb o e n J l=>?_,λb o e n J l=>?_,I.base.free,λb o e l=>?_,I.base.tups,I.base.frzs,I.base.tbls⟩,⟨_,a2,λj y U g B e3=>?_⟩,λy c e=>?_,I.free,I.freeC,λp hp=>?_,f ⟨oL,a1,I.free⟩ hs,by simpa using I.len⟩ ⟨_,hs,.inl rfl⟩
  ·exact(hs.2 b (Ck (Cz (BN e) I.ok.above))).trans (I.base.keep b o e n J l)
  ·obtain⟨sl,g⟩:=I.base.slot b o e n J l;exact⟨sl,(hs.2 b (Ck (Cz (BN e) I.ok.above))).trans g⟩
  ·obtain⟨o',g⟩:=I.base.there b o e l;exact⟨o',(hs.2 b (Ck (Cz (BN e) I.ok.above))).trans g⟩
  ·by_cases F:j=i
   ·subst F;rw[hi]at g;cases g;rw[PB D]at B;cases B;exact⟨u,r,.inl ⟨C,by simp⟩⟩
   ·rw[Fn (DP F)]at B;obtain⟨W,Y,q⟩:=hl j y U g B e3;refine⟨W,Y,?_⟩;rcases q with⟨k,e⟩|⟨k,c,e,z⟩
    ·refine .inl ⟨k,?_⟩;have:y≠x:=λe=>F (jv hN g (e ▸ hi));simp[this,e]
    ·exact .inr ⟨k,c,e,z.sameBut hs (cne y c e)⟩
  ·obtain⟨S,z⟩:=I.cell y c e;exact⟨S,z.sameBut hs (cne y c e)⟩
  ·obtain⟨e,n,ne,Z,d⟩:=I.pin p hp;exact⟨(hs.2 p.1 ne).trans e,n,ne,Z,d⟩
 ·have G:X.fn x=true:=by
   rcases hf with z|z
   ·exact z
   ·rw[z]at C;cases C
  obtain⟨c,hc⟩:=I.ok.has x (.inl C);obtain⟨S,z⟩:=I.cell x c hc;refine wpAny_storeName_cell I.ok.kind C hc z (λh' R hs=>?_);obtain⟨oc,L,K⟩:=id z;refine h {s with heap:=h'} ⟨I.ok,I.os,I.bare,⟨λb o e n J l=>?_,λb o e n J l=>?_,I.base.free,λb o e l=>?_,I.base.tups,I.base.frzs,I.base.tbls⟩,⟨m,hn.sameBut hs (DP (cne x c hc)),λj y U g B e3=>?_⟩,λy T e=>?_,I.free,I.freeC,λp hp=>?_,f ⟨oc,L,I.freeC x c hc⟩ hs,by simpa using I.len⟩ ⟨c,hs,.inr hc⟩
  ·exact(hs.2 b (Ck (Cz (BN e) (I.ok.cab x c G hc)))).trans (I.base.keep b o e n J l)
  ·obtain⟨sl,g⟩:=I.base.slot b o e n J l;exact⟨sl,(hs.2 b (Ck (Cz (BN e) (I.ok.cab x c G hc)))).trans g⟩
  ·obtain⟨o',g⟩:=I.base.there b o e l;exact⟨o',(hs.2 b (Ck (Cz (BN e) (I.ok.cab x c G hc)))).trans g⟩
  ·by_cases F:j=i
   ·subst F;rw[hi]at g;cases g;rw[PB D]at B;cases B;exact⟨u,r,.inr ⟨.inl C,c,hc,R⟩⟩
   ·rw[Fn (DP F)]at B;obtain⟨W,Y,q⟩:=hl j y U g B e3;refine⟨W,Y,?_⟩;rcases q with q|⟨k,T,e,z'⟩
    ·exact .inl q
    ·refine .inr ⟨k,T,e,z'.sameBut hs ?_⟩;rintro rfl;exact F (jv hN g (I.ok.inj _ _ _ e hc ▸ hi))
  ·by_cases P:T=c
   ·subst P;exact⟨_,R⟩
   ·obtain⟨w2,z2⟩:=I.cell y T e;exact⟨w2,z2.sameBut hs P⟩
  ·obtain⟨e,n,ne,Z,d⟩:=I.pin p hp;refine⟨(hs.2 p.1 ?_).trans e,n,ne,Z,d⟩;intro q;rw[q,L]at e;have q':oc=p.2:=AR e;exact d S (by rw[<-q'];exact K)
theorem XG{M:Model}{A:Do}{E:AY->Bf->Prop}{i:Nat}{x:Bx}{v:V}{u:AY}{Q:Unit->Bf->Prop}(I:CL X pZ σ H s)(c:X.N.Nodup)(hi:X.N[i]?=some x)(a:Loc X.env.scope x)(r:DA v u)(h:∀s',CL X pZ (σ.set i (some v)) H s'->Q () s')(b:X.fn x=true\/X.env.scope.names.lookup x=some .local:=by first|exact .inl rfl|exact .inr rfl|assumption):Cc M A (storeName X.env x u) Q E s:=bH I c hi a r (λs' d _=>h s' d) b
theorem CL.call'{s':Bf}{ch:List Ba}(I:CL X pZ σ H s)(d:s'.os=s.os)(u:Un (ND X.stack) ch H H' s.heap s'.heap)(hok:JE X.prog X.w H' s'.heap)(f:AllBare s'.gens)(a:∀b∈ch,(b∈X.ex\/X.s_.heap.objs.size<=b)/\b≠X.env.locals/\(∀x c,X.env.cells.lookup x=some c->c≠b)/\∀p∈X.pn++pZ,p.1≠b):CL X pZ σ H' s':=by
 obtain⟨h',g',d',t',o'⟩:=s';have e:o'=s.os:=d;subst e;exact I.call (g':=g') (t':=t') (d':=d') u hok f a
end
abbrev XK:=AY->Option Ba->Hp->Prop
abbrev St:=List (Option V)
abbrev VK:=V->Hp->Prop
abbrev TE:=St->Hp->VK->Prop
abbrev TT:=St->Hp->(Bool->Hp->Prop)->Prop
abbrev TA:=St->Hp->(List V->Hp->Prop)->Prop
structure Wt where
 nx:St->Hp->Prop
 rt:VK
 bk:St->Hp->Prop:=λ_ _=>False
 ct:St->Hp->Prop:=λ_ _=>False
abbrev TS:=Wt->St->Hp->Prop
def EP(X:Cx)(pZ:List (Ba×Obj))(σ:St)(Q:VK)(u:AY)(s':Bf):Prop:=∃v H',CL X pZ σ H' s'/\DA v u/\Q v H'
def TP(X:Cx)(pZ:List (Ba×Obj))(σ:St)(Q:Bool->Hp->Prop)(b:Bool)(s':Bf):Prop:=∃H',CL X pZ σ H' s'/\Q b H'
def AP(X:Cx)(pZ:List (Ba×Obj))(σ:St)(Q:List V->Hp->Prop)(us:List AY)(s':Bf):Prop:=∃vs H',CL X pZ σ H' s'/\CQ vs us/\Q vs H'
def SP(X:Cx)(pZ:List (Ba×Obj))(D:Wt)(f:Flow)(s':Bf):Prop:=match f with
 |.next=>∃a H',CL X pZ a H' s'/\D.nx a H'
 |.brk=>∃a H',CL X pZ a H' s'/\D.bk a H'
 |.cont=>∃a H',CL X pZ a H' s'/\D.ct a H'
 |.ret u=>∃v a H',CL X pZ a H' s'/\DA v u/\D.rt v H'
def PE(X:Cx)(e:Expr)(t:TE):Prop:=∀(pZ:List (Ba×Obj)) (s:Bf) (σ:St) (H:Hp) (Q:VK),CL X pZ σ H s->t σ H Q->Cc (model X.prog X.w) X.A (eval e X.env) (EP X pZ σ Q) X.xe s
def PT(X:Cx)(e:Expr)(t:TT):Prop:=∀(pZ:List (Ba×Obj)) (s:Bf) (σ:St) (H:Hp) (Q:Bool->Hp->Prop),CL X pZ σ H s->t σ H Q->Cc (model X.prog X.w) X.A (isTrue e X.env (eval e X.env)) (TP X pZ σ Q) X.xe s
def PW(X:Cx)(e:Expr)(t:TT):Prop:=∀(whole:Sem AY) (pZ:List (Ba×Obj)) (s:Bf) (σ:St) (H:Hp) (Q:Bool->Hp->Prop),CL X pZ σ H s->t σ H Q->Cc (model X.prog X.w) X.A (isTrue e X.env whole) (TP X pZ σ Q) X.xe s
theorem PW.pt{X:Cx}{e:Expr}{t:TT}(h:PW X e t):PT X e t:=h _
def PA(X:Cx)(es:List Expr)(t:TA):Prop:=∀(pos:Pos) (pZ:List (Ba×Obj)) (s:Bf) (σ:St) (H:Hp) (Q:List V->Hp->Prop),CL X pZ σ H s->t σ H Q->Cc (model X.prog X.w) X.A (spliced (FL pos (Cn es X.env))) (AP X pZ σ Q) X.xe s
def PS(X:Cx)(st:Dn)(t:TS):Prop:=∀(pZ:List (Ba×Obj)) (s:Bf) (σ:St) (H:Hp) (D:Wt),CL X pZ σ H s->t D σ H->Cc (model X.prog X.w) X.A (exec st X.env) (SP X pZ D) X.xe s
def WH(X:Cx)(st:List Dn)(t:TS):Prop:=∀(pZ:List (Ba×Obj)) (s:Bf) (σ:St) (H:Hp) (D:Wt),CL X pZ σ H s->t D σ H->Cc (model X.prog X.w) X.A (execs st X.env) (SP X pZ D) X.xe s
theorem ES{b:Type}{t:Sem b}{Q c:b->Bf->Prop}{M:Model}{A:Do}{E:AY->Bf->Prop}{s:Bf}(h:Cc M A t Q E s)(d:∀a s,Q a s->c a s):Cc M A t c E s:=FK h d λ_ _ x=>x
section
variable{X:Cx}
def Y0(i:Nat):TE:=λσ H Q=>∃v,σ[i]?=some (some v)/\Q v H
def tC(v:V):TE:=λ_ H Q=>Q v H
theorem O8{i:Nat}{x:Bx}{pos:Pos}(j:X.N[i]?=some x)(f:Vis X.env.scope x)(hd: (x==("__debug__" :Bx))=false:=by decide)(d: (x==("__classdict__" :Bx))=false:=by decide):PE X (.Name x pos) (Y0 i):=by
 intro pZ s σ H Q I h;obtain⟨v,e,h⟩:=h;obtain⟨m,hn,g⟩:=I.loc;obtain⟨u,r,l⟩:=g i x v j e f;have fin:EP X pZ σ Q u s:=⟨v,H,I,r,h⟩;rcases l with⟨b,hm⟩|⟨b,c,hc,a⟩
 ·exact wpAny_Name (wpAny_loadName_local I.ok.kind b hn hm fin) hd
 ·rcases b with b|b
  ·exact wpAny_Name (wpAny_loadName_cell I.ok.kind b hc a fin) hd
  ·exact wpAny_Name (wpAny_loadName_free I.ok.kind b hc a fin d) hd
theorem Bc{i j pos}:PE X (.Constant (.int i) j pos) (tC (.int i)):=λ_ _ _ H _ I h=>wpAny_Constant_int ⟨.int i,H,I.tok _,⟨_,rfl⟩,h⟩
theorem DR{b j pos}:PE X (.Constant (.bool b) j pos) (tC (.bl b)):=λ_ _ _ H _ I h=>Constant_bool ⟨.bl b,H,I,rfl,h⟩
theorem FC{j pos}:PE X (.Constant .none j pos) (tC .non):=λ_ _ _ H _ I h=>Constant_none ⟨.non,H,I,rfl,h⟩
theorem Bs{x j pos}:PE X (.Constant (.str x) j pos) (tC (.str x)):=λ_ _ _ H _ I h=>Calls.Constant_str ⟨.str x,H,I.tok _,⟨_,rfl⟩,h⟩
def Gl(X:Cx)(x:Bx):Prop:=X.env.kindOf x=some .globalImplicit
theorem JA{E:AY->Bf->Prop}{pZ:List (Ba×Obj)}{s:Bf}{σ:St}{H:Hp}{x:Bx}{u:AY}{pos:Pos}{Q:AY->Bf->Prop}(I:CL X pZ σ H s)(a:Gl X x)(hm:X.mg x=some u)(h:Q u s)(hd: (x==("__debug__" :Bx))=false:=by decide):Cc (model X.prog X.w) X.A (eval (.Name x pos) X.env) Q E s:=Calls.Name_function_global I.ok.kind a (Calls.loadGlobal_global (by rw[I.ok.glob];exact I.mod.glob.keeps I.bk) hm h) hd
theorem MP{E:AY->Bf->Prop}{pZ:List (Ba×Obj)}{s:Bf}{σ:St}{H:Hp}{x:Bx}{u:AY}{pos:Pos}{Q:AY->Bf->Prop}(I:CL X pZ σ H s)(b:Gl X x)(hm:X.mg x=none)(a:CP x=some u)(h:Q u s)(hn:x≠ "__name__":=by decide)(hd: (x==("__debug__" :Bx))=false:=by decide):Cc (model X.prog X.w) X.A (eval (.Name x pos) X.env) Q E s:=by
 obtain⟨mb,h1,h2⟩:=I.mod.blt;exact Calls.Name_function_global I.ok.kind b (Calls.loadGlobal_builtin (by rw[I.ok.glob];exact I.mod.glob.keeps I.bk) hm (by rw[I.ok.blt];exact h1.keeps I.bk) ((h2 x hn).trans a) h) hd
theorem fK{x:Bx}{v:V}{u:AY}{pos:Pos}(a:Gl X x)(hm:X.mg x=some u)(r:DA v u)(hd: (x==("__debug__" :Bx))=false:=by decide):PE X (.Name x pos) (tC v):=λ_ _ _ H _ I h=>JA I a hm ⟨v,H,I,r,h⟩ hd
theorem yy{x:Bx}{v:V}{u:AY}{pos:Pos}(b:Gl X x)(hm:X.mg x=none)(a:CP x=some u)(r:DA v u)(hn:x≠ "__name__":=by decide)(hd: (x==("__debug__" :Bx))=false:=by decide):PE X (.Name x pos) (tC v):=λ_ _ _ H _ I h=>MP I b hm a ⟨v,H,I,r,h⟩ hn hd
variable{a b:Expr}{ta tb:TE}{pos:Pos}
def PC(X:Cx)(op:CmpOp)(a b:Expr)(t:TE):Prop:=∀(pZ:List (Ba×Obj)) (s:Bf) (σ:St) (H:Hp) (Q:VK),CL X pZ σ H s->t σ H Q->Cc (model X.prog X.w) X.A (eval a X.env) (λv d=>Cc (model X.prog X.w) X.A (eval b X.env) (λu c=>Cc (model X.prog X.w) X.A (EE op v u) (EP X pZ σ Q) X.xe c) X.xe d) X.xe s
def tB(t:TE):TT:=λσ H Q=>t σ H λx H1=>∃c,x= .bl c/\Q c H1
theorem O9{op:CmpOp}{t:TE}(h:PC X op a b t)(h1:LL op b=false:=by first|exact nobehind _ Aa Aa|rfl):PE X (.Compare a [op] [b] pos) t:=λpZ s σ H Q I hw=>wpAny_Compare1 (h pZ s σ H Q I hw) h1
theorem O5{op:CmpOp}{t:TE}(h:PC X op a b t)(h1:LL op b=false:=by first|exact nobehind _ Aa Aa|rfl):PT X (.Compare a [op] [b] pos) (tB t):=by
 intro pZ s σ H Q I hw;refine wpAny_isTrue_Compare1 (ES (h pZ s σ H _ I hw) λv s1 h1=>ES h1 λu s2 h2=>ES h2 λc j e=>?_) h1;obtain⟨x,H1,i,f,g⟩:=e;obtain⟨d,rfl,q⟩:=g;cases f;exact GS ⟨H1,i,q⟩
theorem CZ{e:Expr}{t:TE}(h:PE X e t)(f:∀whole,isTrue e X.env whole=(do let v <-whole;standAt e.pos;holding [v] (truthy v)):=by intro _;rfl):PT X e (tB t):=by
 intro pZ s σ H Q I hw;refine isTrue_plain (ES (h pZ s σ H _ I hw) λv s1 a=>?_) (f _);obtain⟨x,H1,g,b,c⟩:=a;obtain⟨d,rfl,q⟩:=c;cases b;exact GS ⟨H1,g,q⟩
variable{tA tB':TT}{rest:List Expr}
def A1F(t u:TT):TT:=λσ H Q=>t σ H λc H1=>if c=true then u σ H1 Q else Q false H1
def tOr(t u:TT):TT:=λσ H Q=>t σ H λc H1=>if c=true then Q true H1 else u σ H1 Q
def A1z(t:TT):TT:=λσ H Q=>t σ H λc H1=>Q (!c) H1
theorem Pj(ha:PT X a tA):PW X (.BoolOp .And [a] pos) tA:=by
 intro b pZ s σ H Q I h;refine isTrue_and (ES (ha pZ s σ H Q I h) λc s1 e=>?_);cases c with
 |true=>exact isTrue_and_nil e
 |false=>exact e
theorem Ly(ha:PT X a tA):PW X (.BoolOp .Or [a] pos) tA:=by
 intro b pZ s σ H Q I h;refine isTrue_or (ES (ha pZ s σ H Q I h) λc s1 e=>?_);cases c with
 |false=>exact isTrue_or_nil e
 |true=>exact e
theorem Op(ha:PT X a tA)(i:PW X (.BoolOp .And (b::rest) pos) tB'):PW X (.BoolOp .And (a::b::rest) pos) (A1F tA tB'):=by
 intro g pZ s σ H Q I h;refine isTrue_and (ES (ha pZ s σ H _ I h) λc s1 d=>?_);obtain⟨H1,f,e⟩:=d;cases c with
 |true=>exact i g pZ s1 σ H1 Q f e
 |false=>exact⟨H1,f,e⟩
theorem Oo(ha:PT X a tA)(i:PW X (.BoolOp .Or (b::rest) pos) tB'):PW X (.BoolOp .Or (a::b::rest) pos) (tOr tA tB'):=by
 intro g pZ s σ H Q I h;refine isTrue_or (ES (ha pZ s σ H _ I h) λc s1 d=>?_);obtain⟨H1,f,e⟩:=d;cases c with
 |true=>exact⟨H1,f,e⟩
 |false=>exact i g pZ s1 σ H1 Q f e
theorem Fh(ha:PT X a tA):PT X (.UnaryOp .Not a pos) (A1z tA):=by
 intro pZ s σ H Q I h;exact isTrue_not (ha pZ s σ H (λc H1=>Q (!c) H1) I h)
def Z5(ta tb:TE):TE:=λσ H Q=>ta σ H λx H1=>∃c,x= .bl c/\if c=true then tb σ H1 Q else Q (.bl false) H1
def Y5(ta:TE):TE:=λσ H Q=>ta σ H λx H1=>∃c,x= .bl c/\Q (.bl (!c)) H1
theorem JQ{op}{t:TE}(h:PE X a t):PE X (.BoolOp op [a] pos) t:=λpZ s σ H Q I hw=>BoolOp_one (h pZ s σ H Q I hw)
theorem JR(ha:PE X a ta)(i:PE X (.BoolOp .And (b::rest) pos) tb):PE X (.BoolOp .And (a::b::rest) pos) (Z5 ta tb):=by
 intro pZ s σ H Q I h;refine BoolOp_and (ES (ha pZ s σ H _ I h) λv s1 d=>?_);obtain⟨x,H1,f,g,e⟩:=d;obtain⟨c,rfl,e⟩:=e;cases g;refine GS ?_;cases c with
 |true=>exact i pZ s1 σ H1 Q f e
 |false=>exact⟨.bl false,H1,f,rfl,e⟩
theorem uz(ha:PE X a ta):PE X (.UnaryOp .Not a pos) (Y5 ta):=by
 intro pZ s σ H Q I h;refine UnaryOp_ (ES (ha pZ s σ H _ I h) λv s1 b=>?_);obtain⟨x,H1,f,e,d⟩:=b;obtain⟨c,rfl,d⟩:=d;cases e;exact not_of (GS ⟨.bl (!c),H1,f,rfl,d⟩)
def tIf(t:TT)(ta tb:TE):TE:=λσ H Q=>t σ H λc H1=>if c=true then ta σ H1 Q else tb σ H1 Q
theorem KL{c:Expr}(hc:PT X c tA)(ha:PE X a ta)(i:PE X b tb):PE X (.IfExp c a b pos) (tIf tA ta tb):=by
 intro pZ s σ H Q I h;refine wpAny_IfExp (ES (hc pZ s σ H _ I h) λd s1 e=>?_);obtain⟨H1,g,f⟩:=e;cases d with
 |true=>exact ha pZ s1 σ H1 Q g f
 |false=>exact i pZ s1 σ H1 Q g f
end
def Dk(K:Be)(H:Hp)(a:Ba)(xs:List V):Prop:=Rd H a (.lst xs)\/
  ∃(o:Obj) (b:Array AY) (n:Nat),K.lookup a=some o/\o.cls= .type "list" /\o.dict=none/\o.data= .seq b n/\b.size<=sizeLine/\CQ xs b.toList
def Hm(K:Be)(H:Hp)(a:Ba)(xs:List V):Prop:=Rd H a (.tup xs)\/
  ∃(o:Obj) (b:Array AY) (n:Nat),K.lookup a=some o/\o.cls= .type "tuple" /\o.data= .seq b n/\b.size<=sizeLine/\CQ xs b.toList
def A2n:AY->Option V
 |.none=>some .non
 |.bool b=>some (.bl b)
 |.int i _=>some (.int i)
 |.str x _=>some (.str x)
 |.bytes b _=>some (.byt b)
 |.float b _=>some (.flt b)
 |.ref a=>some (.ref a)
 |.type n=>some (.ty n)
 |_=>none
theorem DA.abs{x:V}{u:AY}(r:DA x u):A2n u=some x:=by
 cases x with
 |non=>cases r;rfl
 |bl _=>cases r;rfl
 |int _=>obtain⟨t,rfl⟩:=r;rfl
 |str _=>obtain⟨t,rfl⟩:=r;rfl
 |byt _=>obtain⟨t,rfl⟩:=r;rfl
 |flt _=>obtain⟨t,rfl⟩:=r;rfl
 |ref _=>cases r;rfl
 |ty _=>cases r;rfl
theorem DA.inj{x y:V}{u:AY}(r:DA x u)(q:DA y u):x=y:=AR (r.abs.symm.trans q.abs)
theorem CQ.inj:∀{xs ys:List V} {us:List AY},CQ xs us->CQ ys us->xs=ys
 |_,_,_,.nil,.nil=>rfl
 |_,_,_,.cons r t,.cons a t'=>by rw[r.inj a,CQ.inj t t']
section
variable{X:Cx}{pZ:List (Ba×Obj)}{σ:St}{H:Hp}{s:Bf}{a:Ba}{xs ys:List V}
theorem Dk.of{K:Be}(h:H a=some (.lst xs)):Dk K H a xs:=.inl (.inl h)
theorem Hm.of{K:Be}(h:H a=some (.tup xs)):Hm K H a xs:=.inl (.inl h)
theorem CL.list(I:CL X pZ σ H s)(h:Dk X.K H a xs):∃b:List AY,CQ xs b/\PlainL s.heap a b.toArray/\xs.length<=sizeLine:=by
 rcases h with h|⟨o,b,n,c,hc,hd,hs,d,r⟩
 ·obtain⟨z,b,n,r,e⟩:=h.ok I.hok;exact⟨b,r,⟨_,n,e,rfl,rfl,rfl⟩,z⟩
 ·refine⟨b.toList,r,⟨o,n,I.kIn a o c,hc,hd,by simpa using hs⟩,?_⟩;have e:=r.length;simp only[GN]at e;omega
theorem CL.tuple(I:CL X pZ σ H s)(h:Hm X.K H a xs):∃b:List AY,CQ xs b/\IsTup s.heap a b.toArray/\xs.length<=sizeLine:=by
 rcases h with h|⟨o,b,n,c,hc,hs,d,r⟩
 ·obtain⟨z,b,r,p⟩:=h.ok I.hok;exact⟨b,r,p,z⟩
 ·refine⟨b.toList,r,⟨o,I.kIn a o c,hc,n,by simpa using hs⟩,?_⟩;have e:=r.length;simp only[GN]at e;omega
theorem CL.list_inj(I:CL X pZ σ H s)(h:Dk X.K H a xs)(h':Dk X.K H a ys):xs=ys:=by
 obtain⟨b,r,⟨o,n,e,_,_,d⟩,_⟩:=I.list h;obtain⟨its',f,⟨o',i,c,_,_,d'⟩,_⟩:=I.list h';rw[e]at c;cases c;rw[d]at d';injection d' with g _;have:b=its':=by simpa using A37 Array.toList g
 subst this;exact r.inj f
end
abbrev Cx.wish(X:Cx)(E:AY->Bf->Prop):Cx:={X with xe:=E}
abbrev Cx.nox(X:Cx):Cx:=X.wish λ_ _=>False
theorem Cx.Ok.wish{X:Cx}(ok:X.Ok)(E:AY->Bf->Prop): (X.wish E).Ok:=⟨ok.mod,ok.kind,ok.glob,ok.blt,ok.above,ok.inj,ok.has,ok.cab,ok.hd,ok.frames,ok.stk,ok.exf,ok.bs,ok.bsz,ok.noex,ok.exfs,ok.funs,ok.frf,ok.hs⟩
theorem Cx.Ok.unwish{X:Cx}{E:AY->Bf->Prop}(ok: (X.wish E).Ok):X.Ok:=⟨ok.mod,ok.kind,ok.glob,ok.blt,ok.above,ok.inj,ok.has,ok.cab,ok.hd,ok.frames,ok.stk,ok.exf,ok.bs,ok.bsz,ok.noex,ok.exfs,ok.funs,ok.frf,ok.hs⟩
section
variable{X:Cx}{pZ:List (Ba×Obj)}{σ:St}{H:Hp}{s:Bf}{E:AY->Bf->Prop}
theorem CL.wish(I:CL X pZ σ H s)(E:AY->Bf->Prop):CL (X.wish E) pZ σ H s:=⟨I.ok.wish E,I.os,I.bare,I.base,I.loc,I.cell,I.free,I.freeC,I.pin,I.hok,I.len⟩
theorem CL.unwish(I:CL (X.wish E) pZ σ H s):CL X pZ σ H s:=⟨I.ok.unwish,I.os,I.bare,I.base,I.loc,I.cell,I.free,I.freeC,I.pin,I.hok,I.len⟩
theorem SP.unwish{D:Wt}{f:Flow}{s':Bf}(h:SP (X.wish E) pZ D f s'):SP X pZ D f s':=by
 cases f with
 |next=>obtain⟨a,H',I,q⟩:=h;exact⟨a,H',I.unwish,q⟩
 |brk=>obtain⟨a,H',I,q⟩:=h;exact⟨a,H',I.unwish,q⟩
 |cont=>obtain⟨a,H',I,q⟩:=h;exact⟨a,H',I.unwish,q⟩
 |ret u=>obtain⟨v,a,H',I,r,q⟩:=h;exact⟨v,a,H',I.unwish,r,q⟩
theorem WH.nox{st:List Dn}{t:TS}(h:WH X.nox st t):WH X st t:=λpZ s σ H D I hw=>
 FK (h pZ s σ H D (I.wish _) hw) (λ_ _ q=>q.unwish) λ_ _ z=>CG z
end
section
variable{X:Cx}{st:Dn}{rest:List Dn}{t u:TS}{e:Expr}{te:TE}{pos:Pos}
def Y6:TS:=λD σ H=>D.nx σ H
def A1x(t u:TS):TS:=λD σ H=>t {D with nx:=u D} σ H
theorem Ci:WH X [] Y6:=λ_ _ σ H _ I h=>MV ⟨σ,H,I,h⟩
theorem BW(h1:PS X st t)(h2:WH X rest u):WH X (st::rest) (A1x t u):=by
 intro pZ s σ H D I h;refine TW (ES (h1 pZ s σ H {D with nx:=u D} I h) λf s1 q=>?_);cases f with
 |next=>
  obtain⟨a,H',b,q⟩:=q;exact h2 pZ s1 a H' D b q
 |ret v=>exact q
 |brk=>exact q
 |cont=>exact q
theorem Bk(h1:PS X st t):WH X [st] t:=by
 intro pZ s σ H D I h;refine TW (ES (h1 pZ s σ H D I h) λf s1 q=>?_);cases f with
 |next=>exact MV q
 |ret v=>exact q
 |brk=>exact q
 |cont=>exact q
theorem CL.quiet{pZ:List (Ba×Obj)}{σ:St}{H:Hp}{s:Bf}(I:CL X pZ σ H s):interactive X.env=false:=by simp[interactive,I.ok.kind]
def Z0(te:TE):TS:=λD σ H=>te σ H λ_ H1=>D.nx σ H1
theorem Li(c:PE X e te)(hs:swapsWith e none pos.line X.env=pure false:=by rfl):PS X (.Expr e pos) (Z0 te):=by
 intro pZ s σ H D I h;exact wpAny_Expr_any (ES (c pZ s σ H _ I h) λv s1 a=>(by obtain⟨x,H1,d,f,b⟩:=a;exact⟨σ,H1,d,b⟩)) I.quiet hs
def A1y(te:TE):TS:=λD σ H=>te σ H D.rt
theorem BH(d:PE X e te):PS X (.Return (some e) pos) (A1y te):=by
 intro pZ s σ H D I h;exact wpAny_Return_some (ES (d pZ s σ H _ I h) λv s1 a=>(by obtain⟨x,H1,f,b,c⟩:=a;exact⟨x,σ,H1,f,b,c⟩))
def A1B(c:TT)(t u:TS):TS:=λD σ H=>c σ H λb H1=>if b=true then t D σ H1 else u D σ H1
theorem CV{c:Expr}{a b:List Dn}{tc:TT}(hc:PT X c tc)(ha:WH X a t)(i:WH X b u):PS X (.If c a b pos) (A1B tc t u):=by
 intro pZ s σ H D I h;refine wpAny_If (ES (hc pZ s σ H _ I h) λd s1 e=>?_);obtain⟨H1,g,f⟩:=e;cases d with
 |true=>exact ha pZ s1 σ H1 D g f
 |false=>exact i pZ s1 σ H1 D g f
def M6:TS:=λ_ _ _=>False
theorem LY:PS X st M6:=λ_ _ _ _ _ _ h=>h.elim
end
abbrev TG:=V->St->Hp->(St->Hp->Prop)->Prop
abbrev zZ:=List V->St->Hp->(St->Hp->Prop)->Prop
def PG(X:Cx)(target:Expr)(t:TG):Prop:=∀(pZ:List (Ba×Obj)) (s:Bf) (σ:St) (H:Hp) (v:V) (u:AY) (Q:St->Hp->Prop),CL X pZ σ H s->DA v u->t v σ H Q->Cc (model X.prog X.w) X.A (assign target X.env u) (λ_ s'=>∃a H',CL X pZ a H' s'/\Q a H') X.xe s
def V8(X:Cx)(ts:List Expr)(t:zZ):Prop:=∀(pZ:List (Ba×Obj)) (s:Bf) (σ:St) (H:Hp) (vs:List V) (us:List AY) (Q:St->Hp->Prop),CL X pZ σ H s->CQ vs us->t vs σ H Q->Cc (model X.prog X.w) X.A (assignInOrder ((LF ts X.env).map (·.2)) us) (λ_ s'=>∃a H',CL X pZ a H' s'/\Q a H') X.xe s
abbrev U5:=V->V->V->Hp->(Hp->Prop)->Prop
def A11(X:Cx)(t:U5):Prop:=∀(pZ:List (Ba×Obj)) (s:Bf) (σ:St) (H:Hp) (o i v:V) (a iv u:AY) (Q:Hp->Prop),CL X pZ σ H s->DA o a->DA i iv->DA v u->t o i v H Q->Cc (model X.prog X.w) X.A (setItem a iv u) (λ_ s'=>∃H',CL X pZ σ H' s'/\Q H') X.xe s
section
variable{X:Cx}{pos:Pos}
def pr(i:Nat):TG:=λv σ H Q=>Q (σ.set i (some v)) H
theorem CN{i:Nat}{x:Bx}(c:X.N.Nodup)(hi:X.N[i]?=some x)(a:Loc X.env.scope x)(b:X.fn x=true\/X.env.scope.names.lookup x=some .local:=by first|exact .inl rfl|exact .inr rfl|assumption):PG X (.Name x pos) (pr i):=by
 intro pZ s σ H v u Q I r h;exact wpAny_assign_Name (XG I c hi a r (λs' d=>⟨_,H,d,h⟩) b)
def A2k:zZ:=λvs σ H Q=>vs=[]/\Q σ H
def A0J(t:TG)(u:zZ):zZ:=λvs σ H Q=>∃v r,vs=v::r/\t v σ H λa H'=>u r a H' Q
theorem fJ:V8 X [] A2k:=by
 intro pZ s σ H vs us Q I r h;obtain⟨e,h⟩:=h;subst e;cases r;exact assignInOrder_nil ⟨σ,H,I,h⟩
theorem KJ{e:Expr}{es:List Expr}{t:TG}{u:zZ}(h1:PG X e t)(h2:V8 X es u)(hs: (LF (e::es) X.env).map (·.2)=assign e X.env:: (LF es X.env).map (·.2):=by rfl):V8 X (e::es) (A0J t u):=by
 intro pZ s σ H vs us Q I r h;obtain⟨v,i,f,h⟩:=h;subst f;cases r with
 |cons r c=>
  rw[hs];refine assignInOrder_cons (ES (h1 pZ s σ H _ _ _ I r h) λ_ s1 a=>?_);obtain⟨b,H1,g,d⟩:=a;exact h2 pZ s1 b H1 _ _ Q g c d
def A0I(K:Be)(n:Nat)(t:zZ):TG:=λv σ H Q=>∃a xs,v= .ref a/\Hm K H a xs/\xs.length=n/\t xs σ H Q
theorem lS{es:List Expr}{k:Nat}{t:zZ}{n:Nat}(hc:X.calm=true)(h:V8 X es t)(hn: (LF es X.env).length=n:=by rfl)(c: (LF es X.env).findIdx? (·.1)=none:=by rfl):PG X (.Tuple es k pos) (A0I X.K n t):=by
 intro pZ s σ H v u Q I r hw;obtain⟨a,xs,m,j,l,hw⟩:=hw;subst m;cases r;obtain⟨f,d,i,q⟩:=I.tuple j;refine assign_Tuple_tuple (I.ok.hd hc) i (by simp[hn,<-l,d.length]) c λh' g=>?_;have p:CL X pZ σ H {s with heap:=h'}:=I.kept (t':=s.toks) λb o e=>g b o (Ck (BN e)) e;exact h pZ _ σ H xs _ Q p (by simpa using d) hw
def A2j(to a:TE)(t:U5):TG:=λv σ H Q=>to σ H λo H1=>a σ H1 λi H2=>t o i v H2 λb=>Q σ b
theorem uw{o i:Expr}{to e:TE}{t:U5}(m:PE X o to)(hi:PE X i e)(hs:A11 X t)(ha:∀v,assign (.Subscript o i pos) X.env v=(do
   let d <-holding [v] (eval o X.env);let iv <-holding [v,d] (eval i X.env)
   standAt pos
   holding [v,d,iv] (setItem d iv v)
   release [v,d,iv] []):=by intro _;rfl):PG X (.Subscript o i pos) (A2j to e t):=by
 intro pZ s σ H v u Q I r h;rw[ha];refine Bg (El (ES (m pZ s σ H _ I h) λd s1 c=>?_));obtain⟨x,H1,q,g,l⟩:=c;refine Bg (El (ES (hi pZ s1 σ H1 _ q l) λiv s2 b=>?_));obtain⟨y,H2,p,f,k⟩:=b;refine Bg (JJ (Bg (El (ES (hs pZ s2 σ H2 x y v d iv u _ p g f r k) λ_ z a=>?_))));obtain⟨w,n,j⟩:=a;exact wpAny_release ⟨σ,w,n,j⟩
def N4(te:TE)(g:TG):TS:=λD σ H=>te σ H λx H1=>g x σ H1 D.nx
theorem lQ{tg e:Expr}{te:TE}{g:TG}(f:PE X e te)(d:PG X tg g)(hs:swapsWithSole [tg] e pos.line X.env=pure false:=by rfl)(hw:swappedStores [tg] e X.env=pure none:=by rfl)(h1: (LF [tg] X.env).map (·.2)=[assign tg X.env]:=by rfl):PS X (.Assign [tg] e pos) (N4 te g):=by
 intro pZ s σ H D I h;refine wpAny_Assign_stores (ES (f pZ s σ H _ I h) λv s1 a=>?_) hs hw;obtain⟨x,H1,i,b,c⟩:=a;rw[h1];exact ES (d pZ s1 σ H1 x v _ i b c) λ_ s2 q=>q
theorem Ct{i:Nat}{x:Bx}{e:Expr}{te:TE}{pos':Pos}(j:X.N.Nodup)(hi:X.N[i]?=some x)(d:Loc X.env.scope x)(g:PE X e te)(hs:swapsWith e (some (.Name x pos')) pos.line X.env=pure false:=by rfl)(f:X.fn x=true\/X.env.scope.names.lookup x=some .local:=by first|exact .inl rfl|exact .inr rfl|assumption):
  PS X (.Assign [.Name x pos'] e pos) (N4 te (pr i)):=by
 intro pZ s σ H D I h;refine wpAny_Assign_Name (ES (g pZ s σ H _ I h) λv s1 a=>?_) hs;obtain⟨y,H1,l,b,c⟩:=a;exact XG l j hi d b (λs2 k=>⟨_,H1,k,c⟩) f
end
section
variable{X:Cx}{pos:Pos}
end
structure It where
 go:Nat->Hp->Prop
 yld:Nat->Hp->V->Hp->Prop
 stop:Nat->Hp->Prop
 sok:Bool
def Wq(X:Cx)(pZ:List (Ba×Obj))(H:Hp)(b:Ba):Prop:=H b=none/\b≠X.env.locals/\b∉X.fs/\(b∈X.ex\/X.s_.heap.objs.size<=b)/\(∀x c,X.env.cells.lookup x=some c->c≠b)/\∀p∈X.pn++pZ,p.1≠b
theorem CL.fpOk{X:Cx}{pZ:List (Ba×Obj)}{σ:St}{H H':Hp}{s:Bf}{b:Ba}(I:CL X pZ σ H s)(a:s.heap.objs.size<=b)(hn:H' b=none):Wq X pZ H' b:=by
 refine⟨hn,LI (Cz I.lt a),I.nofs a,.inr (BF I.sz a),λx c e z=>?_,λp d z=>?_⟩
 ·obtain⟨v,q⟩:=I.cell x c e;exact A38 (Cz q.lt (by rw[z];exact a)) (Ev _)
 ·exact A38 (Cz (BN (I.pin p d).1) (by rw[z];exact a)) (Ev _)
structure rL(P:BG)(w:Cs)(K:Be)(tg:Expr)(J:It)(fp:List Ba)(it:Ba)(tn:Nat->CO->Prop):Prop where
 mem:it∈fp
 obj:∀i h,tn i h->∀b∈fp,∃o,h.get? b=some o/\∀v,o.data≠ .cell v
 keep:∀i h h',tn i h->(∀b∈fp,∀o,h.get? b=some o->h'.get? b=some o)->tn i h'
 item:∀(X:Cx),X.prog=P->X.w=w->X.K=K->(X.calm=true\/J.sok=true/\X.suit=true)->∀(i:Nat) (pZ:List (Ba×Obj)) (s:Bf) (σ:St) (H:Hp) (E:AY->Bf->Prop),CL X pZ σ H s->(∀b∈fp,Wq X pZ H b)->tn i s.heap->J.go i H->Cc (model P w) X.A (pyNext (.ref it)) (λr s1=>∃u,r=some u/\Cc (model P w) X.A (MY tg (.ref it) u) (λ_ s2=>∃x H',CL X pZ σ H' s2/\DA x u/\J.yld i H x H'/\tn (i+1) s2.heap/\∀b∈fp,H' b=none) E s1) E s
 done:∀(X:Cx),X.prog=P->X.w=w->X.K=K->(X.calm=true\/J.sok=true/\X.suit=true)->∀(i:Nat) (pZ:List (Ba×Obj)) (s:Bf) (σ:St) (H:Hp) (E:AY->Bf->Prop),CL X pZ σ H s->(∀b∈fp,Wq X pZ H b)->tn i s.heap->J.stop i H->Cc (model P w) X.A (pyNext (.ref it)) (λr s1=>r=none/\CL X pZ σ H s1) E s
 self:∀(A:Do) (i:Nat) (s:Bf) (Q:AY->Bf->Prop) (E:AY->Bf->Prop),tn i s.heap->Q (.ref it) s->Cc (model P w) A (pyIter (.ref it)) Q E s
abbrev TI:=St->Hp->(It->Hp->Prop)->Prop
def zD(X:Cx)(pZ:List (Ba×Obj))(σ:St)(tg:Expr)(R:It->Hp->Prop)(a:AY)(s2:Bf):Prop:=∃(it:Ba) (fp:List Ba) (tn:Nat->CO->Prop) (J:It) (H':Hp),a= .ref it/\CL X pZ σ H' s2/\rL X.prog X.w X.K tg J fp it tn/\tn 0 s2.heap/\(∀b∈fp,Wq X pZ H' b)/\R J H'
def PI(X:Cx)(tg iter:Expr)(wi:TI):Prop:=∀(pZ:List (Ba×Obj)) (s:Bf) (σ:St) (H:Hp) (R:It->Hp->Prop),CL X pZ σ H s->wi σ H R->Cc (model X.prog X.w) X.A (eval iter X.env) (λv s1=>Cc (model X.prog X.w) X.A (pyIter v) (zD X pZ σ tg R) X.xe s1) X.xe s
theorem ph{M:Model}{A:Do}{E:AY->Bf->Prop}{s:Bf}{tg:Expr}{it:Ba}{u:AY}{o:Obj}{n:String}{vs:Array AY}{Q:Unit->Bf->Prop}(b:s.heap.get? it=some o)(hc:o.cls= .type n)(hd:o.data= .fields vs)(hn: ["enumerate","zip","dict_itemiterator","dict_reverseitemiterator","odict_iterator","itertools.zip_longest","itertools.pairwise"].contains n=false)(a:Q () s):Cc M A (MY tg (.ref it) u) Q E s:=by
 unfold MY;cases tg <;> first
  |exact BQ a
  |(cases u <;> first
    |exact BQ a
    |(refine Bg (wpAny_load b ?_)
      rw[hc,hd];show Cc M A (if (["enumerate","zip","dict_itemiterator","dict_reverseitemiterator","odict_iterator","itertools.zip_longest","itertools.pairwise"].contains n&&vs[0]?==some (MX _))=true then _ else _) Q E s
      rw[A35 (by intro h;rw[hn,DK]at h;cases h)];exact BQ a))
section
variable{prog:BG}{w:Cs}{A:Do}{E:AY->Bf->Prop}{s:Bf}
theorem bh:entryFor table "proto.unchain"=some Builtin.«proto.unchain»:=entryFor_of_tree (by kernel_rfl)
theorem lO{a:Type}{e x:Ba}{b oe:Obj}{xs es:Array AY}{Q:a->Bf->Prop}(g:A.handled=some (.ref x))(d:s.heap.get? x=some b)(dx:b.data= .fields xs)(c:xs[2]?=some .none)(ne:x≠e)(f:s.heap.get? e=some oe)(h:oe.data= .fields es)(z:2<es.size)(k:E (.ref e) {s with heap:=s.heap.update e (JK (·.setIfInBounds 2 (.ref x)))}):Cc (model prog w) A (raiseNew (.ref e):Sem a) Q E s:=by
 unfold raiseNew;refine Bg (wpAny_handled ?_);rw[g]
 dsimp only
 rw[A36 (show(Value.ref x != Value.ref e)=true from by simp[ne])];refine Bg (El (wpAny_runValue (VG bh ?_)));unfold Builtin.«proto.unchain»
 dsimp only
 refine Bg (Mg d dx c ?_);rw[A36 Aa];refine BQ ?_;show Cc _ _ (setField (.ref e) 2 (.ref x) >>= λ_=>throw (Value.ref e)) _ _ _;exact Bg (OO f h z (wpAny_throw k))
theorem N7{f:Type}{x it:Ba}{c:Obj}{xs:Array AY}{d:CO}{Q:Option AY->Bf->Prop}{R:f->Bf->Prop}(n:A.handled=some (.ref x))(h:s.heap.get? x=some c)(dx:c.data= .fields xs)(i:xs[2]?=some .none)(kp:∀b o,b≠it->s.heap.get? b=some o->d.get? b=some o)(ne:x≠it)(k:∀h',Heap.ExtBut it s.heap h'->Q none {s with heap:=h'}):
  Cc (model prog w) A.in1 (newExc (.type "StopIteration") [] >>= λe=>(raiseNew e:Sem f)) R (λe s'=>Cc (model prog w) A (do if <-OQ e (.type "StopIteration")then pure none else throw e) Q E s') {s with heap:=d}:=by
 refine Bg ?_;simp only[newExc,newTuple];refine Bg (QJ ?_ (by size_fits));refine Bg (m:=firstArgMember _ _) (wpAny_of_eq (a:=CM) (by simp only[firstArgMember];rfl) ?_);refine QJ ?_ (by size_fits)
 dsimp only
 have j: (d.push {cls:=.type "tuple",data:=.seq ([]:List AY).toArray}).objs.size≠x:=LI (BN (Bb _ (kp x c ne h)));refine lO (x:=x) n (Bb _ (Bb _ (kp x c ne h))) dx i (DP j) (Ca _ rfl) rfl (by show 2<6;decide) ?_;refine Bg (wpAny_isInstance (T:="StopIteration") (b:=true) ⟨_,Gw _ (Ca _ rfl) rfl,rfl⟩ isSubtype_stop ?_);refine BQ (k _ λb o l q=>?_);have g:=Bb {cls:=.type "tuple",data:=.seq ([]:List AY).toArray} (kp b o l q)
 dsimp only
 rw[DV _ _ (LI (BN g))];exact Bb _ g
theorem YA{x it l:Ba}{i:Nat}{items:Array AY}{d:Obj}{xs:Array AY}{Q:Option AY->Bf->Prop}(j:A.handled=some (.ref x))(f:s.heap.get? x=some d)(dx:d.data= .fields xs)(e:xs[2]?=some .none)(hit:s.heap.IsListIter it l i)(g:s.heap.IsList l items)(hi:items[i]?=none)(ne:x≠it)(k:∀h',Heap.ExtBut it s.heap h'->Q none {s with heap:=h'}):Cc (model prog w) A (pyNext (.ref it)) Q E s:=by
 obtain⟨p,a,_,c⟩:=id hit;obtain⟨ol,n,_,nl,dl⟩:=g;unfold pyNext;refine Bg (wpAny_attempt (wpAny_callSpecial?_slot (name:="__next__") hit.typeIs slot_listiter_next (wpAny_call_entry slot_listiter_next hit.typeIs entry_listiter_next ?_ (args_listiter_next _))));refine Bg (m:=field (.ref it) 0) (Mg a c (x:=.ref l) rfl ?_);rw[A35 (by intro z;cases z)];refine Bg (m:=field (.ref it) 1) (Mg a c (x:=.int i 0) rfl ?_);refine Bg (m:=seqItems? (.ref l)) (wpAny_seqItems n dl ?_);simp only[Int.toNat_natCast,hi];refine Bg (wpAny_rule (Bg (OO a c (by simp) ?_)));exact N7 j f dx e (λb o h q=>(DV _ _ (DP h)).trans q) ne k
end
def A6(K:Be)(a:Ba):It:=⟨λi H=>∃xs x,Dk K H a xs/\xs[i]?=some x,λi H x H'=>H'=H/\∀xs,Dk K H a xs->xs[i]?=some x,λi H=>∃xs,Dk K H a xs/\xs.length<=i,true⟩
def zE(lo:Int)(n:Nat):It:=⟨λi _=>i<n,λi H x H'=>H'=H/\x= .int (lo+i),λi _=>n<=i,false⟩
theorem qt{P:BG}{w:Cs}{K:Be}{tg:Expr}(a it:Ba):rL P w K tg (A6 K a) [it] it (λi h=>h.IsListIter it a i) where
 mem:=by simp
 obj:=λi h st b f=>by
  have e:b=it:=by simpa using f
  subst e;obtain⟨o,e,c,d⟩:=st;exact⟨o,e,λv z=>by rw[d]at z;cases z⟩
 keep:=λi h h' st k=>st.at λo e=>k it (by simp) o e
 item:=by
  intro X D hw F hc i pZ s σ H E I n st C;subst D hw F;obtain⟨xs,x,m,B⟩:=C;obtain⟨A,y,p,L⟩:=I.list m;obtain⟨u,N,J⟩:=y.get B;obtain⟨l,f1,f2,t,r,q⟩:=n it (by simp);refine wpAny_pyNext_list_item st p.isList (x:=u) (by simpa using N) λh' j sb=>?_;have S:CL X pZ σ H {s with heap:=h'}:=I.turned (t':=s.toks) (λb o f e=>(sb.2 b f).trans e) l f1 t r q;obtain⟨o,e,c,d⟩:=id j;exact⟨u,rfl,ph (s:={s with heap:=h'}) e c d Aa ⟨x,H,S,J,⟨rfl,λys M=>by rw[I.list_inj M m];exact B⟩,j,λb f=>(n b f).1⟩⟩
 done:=by
  intro X D hw F hc i pZ s σ H E I n st C;subst D hw F;obtain⟨xs,m,B⟩:=C;obtain⟨A,y,p,L⟩:=I.list m;obtain⟨l,f1,f2,t,r,q⟩:=n it (by simp);have T:=y.length;rcases hc with hc|⟨_,hc⟩
  rotate_left
  ·obtain⟨e,cls,dx,a0,tb,R,Q⟩:=I.ok.hs hc;have g:=I.base.frzs e _ _ Q;obtain⟨O,_⟩:=I.hok e _ g;exact YA R O rfl rfl st p.isList (by simp;omega) (λz=>by rw[z,l]at g;cases g) λh' G=>⟨rfl,I.turned (t':=s.toks) (λb o f e=>G b o f e) l f1 t r q⟩
  exact wpAny_pyNext_list_end (I.ok.hd hc) st p.isList (by simp;omega) λh' G=>⟨rfl,I.turned (t':=s.toks) (λb o f e=>G b o f e) l f1 t r q⟩
 self:=λ_ _ _ _ _ st h=>wpAny_pyIter_listiter st h
theorem lu{P:BG}{w:Cs}{K:Be}{tg:Expr}(it:Ba)(lo:Int)(n:Nat):rL P w K tg (zE lo n) [it] it (λi h=>IsRangeIter h it (lo+ (i:Nat) *1) ((n:Int) - (i:Nat)) 1) where
 mem:=by simp
 obj:=λi h st b a=>by
  have e:b=it:=by simpa using a
  subst e;exact⟨_,st,λv z=>by
   have r:Data.fields _=Data.cell v:=z;cases r⟩
 keep:=λi h h' st k=>k it (by simp) _ st
 item:=by
  intro X g hw j hc i pZ s σ H E I d st f;subst g hw j;obtain⟨q,f1,f2,p,m,l⟩:=d it (by simp);have hc:=hc.resolve_right λz=>Ej (show false=true from z.1);have W:=Walks.range (prog:=X.prog) (w:=X.w) (I.ok.hd hc) it lo 1 n;refine W.item i s _ _ f st λv h' tk x c u=>?_;obtain⟨t,rfl⟩:=x;have A:CL X pZ σ H {s with heap:=h',toks:=tk}:=I.turned (λb o a e=>u b o (by simpa using a) e) q f1 p m l;refine⟨_,rfl,ph (s:={s with heap:=h',toks:=tk}) (n:="range_iterator") c rfl rfl Aa ⟨.int (lo+i),H,A,⟨t,?_⟩,⟨rfl,rfl⟩,c,λb a=>(d b a).1⟩⟩;rw[Int.mul_one]
 done:=by
  intro X g hw j hc i pZ s σ H E I d st f;subst g hw j;obtain⟨q,f1,f2,p,m,l⟩:=d it (by simp);have hc:=hc.resolve_right λz=>Ej (show false=true from z.1);exact wpAny_pyNext_range_end (I.ok.hd hc) st (by have:n<=i:=f;omega) λh' y=>⟨rfl,I.turned (t':=s.toks) (λb o a e=>y b o a e) q f1 p m l⟩
 self:=λ_ _ _ _ _ st h=>wpAny_pyIter_rangeiter st h
section
variable{X:Cx}{tg:Expr}
def A0D(K:Be)(tl:TE):TI:=λσ H R=>tl σ H λx H1=>∃a,x= .ref a/\(∃xs,Dk K H1 a xs)/\R (A6 K a) H1
theorem Ez{l:Expr}{tl:TE}(k:PE X l tl):PI X tg l (A0D X.K tl):=by
 intro pZ s σ H R I h;refine ES (k pZ s σ H _ I h) λv s1 c=>?_;obtain⟨x,H1,d,f,g⟩:=c;obtain⟨a,e,⟨xs,j⟩,q⟩:=g;subst e;cases f;obtain⟨i,n,p,r⟩:=d.list j;refine QI p.isList ?_;refine⟨s1.heap.objs.size,[s1.heap.objs.size],_,_,H1,rfl,d.kept (t':=s1.toks) λb o e=>Bb _ e,qt a _,⟨_,Ca _ rfl,rfl,rfl⟩,λb m=>?_,q⟩;have e:b=s1.heap.objs.size:=by simpa using m
 subst e;exact d.fpOk (Bv _) (d.hok.fresh (Bv _))
theorem jg{pZ:List (Ba×Obj)}{σ:St}{H:Hp}{s:Bf}{R:It->Hp->Prop}{E:AY->Bf->Prop}{lo hi:Int}{t u v:Tok}{tk:Nat}(I:CL X pZ σ H s)(h1: -(2 ^ 62)<=lo)(h2:lo<2 ^ 62)(h3: -(2 ^ 62)<=hi)(d:hi<2 ^ 62)(q:R (zE lo (hi - lo).toNat) H):Cc (model X.prog X.w) X.A (pyIter (.ref s.heap.objs.size)) (zD X pZ σ tg R) E {s with heap:=s.heap.push {cls:=.type "range",data:=.fields #[.int lo t,.int hi u,.int 1 v]},toks:=tk}:=by
 refine wpAny_pyIter_range (IsRange.new ..) (small_one h1 h2 h3 d) ?_;have a:CL X pZ σ H {s with heap:=s.heap.push {cls:=.type "range",data:=.fields #[.int lo t,.int hi u,.int 1 v]},toks:=tk}:=I.kept λb o e=>Bb _ e;refine⟨(s.heap.push {cls:=.type "range",data:=.fields #[.int lo t,.int hi u,.int 1 v]}).objs.size,[(s.heap.push {cls:=.type "range",data:=.fields #[.int lo t,.int hi u,.int 1 v]}).objs.size],_,_,H,rfl,a.kept (t':=tk) λb o e=>Bb _ e,lu _ lo (hi - lo).toNat,?_,λb c=>?_,q⟩
 ·have g:lo+ ((0:Nat):Int) *1=lo:=by simp
  have f: (((hi - lo).toNat:Nat):Int) - ((0:Nat):Int)=Builtin.Range.rangeSize lo hi 1:=by rw[rangeSize_one];split <;> omega
  show IsRangeIter _ _ (lo+ ((0:Nat):Int) *1) ((((hi - lo).toNat:Nat):Int) - ((0:Nat):Int)) 1;rw[g,f];exact Ca _ rfl
 ·have e:b=(s.heap.push {cls:=.type "range",data:=.fields #[.int lo t,.int hi u,.int 1 v]}).objs.size:=by simpa using c
  subst e;exact a.fpOk (Bv _) (a.hok.fresh (Bv _))
def A0C(ta:TA):TI:=λσ H R=>ta σ H λvs H1=>∃j:Int,vs=[.int j]/\ -(2 ^ 62)<=j/\j<2 ^ 62/\R (zE 0 j.toNat) H1
def A0B(ta:TA):TI:=λσ H R=>ta σ H λvs H1=>∃i j:Int,vs=[.int i,.int j]/\(-(2 ^ 62)<=i/\i<2 ^ 62/\ -(2 ^ 62)<=j/\j<2 ^ 62)/\R (zE i (j - i).toNat) H1
theorem FP{a:Expr}{ta:TA}{p pos:Pos}(i:Gl X "range")(hm:X.mg "range"=none)(ha:PA X [a] ta)(hs:Cn [a] X.env=[(false,eval a X.env)]:=by rfl):PI X tg (.Call (.Name "range" p) [a] [] pos) (A0C ta):=by
 intro pZ s σ H R I h;refine Call_ (MP I i hm boot_range (FI (ES (ha pos pZ s σ H _ I h) λus s1 b=>?_) hs rfl));obtain⟨vs,H1,k,f,c⟩:=b;obtain⟨j,e,c,g,q⟩:=c;subst e;cases f with
 |cons r d=>
  cases d;obtain⟨t,rfl⟩:=r;exact call_range_1 (jg k (by omega) (by omega) c g (by simpa using q))
theorem qF{a b:Expr}{ta:TA}{p pos:Pos}(u:Gl X "range")(hm:X.mg "range"=none)(ha:PA X [a,b] ta)(hs:Cn [a,b] X.env=[(false,eval a X.env),(false,eval b X.env)]:=by rfl)(d:Cn [b] X.env=[(false,eval b X.env)]:=by rfl):
  PI X tg (.Call (.Name "range" p) [a,b] [] pos) (A0B ta):=by
 intro pZ s σ H R I h;refine Call_ (MP I u hm boot_range (FI (ES (ha pos pZ s σ H _ I h) λus s1 c=>?_) (by rw[hs,d]) (by rw[d];rfl)));obtain⟨vs,H1,v,k,g⟩:=c;obtain⟨i,j,e,⟨g,o,n,m⟩,q⟩:=g;subst e;cases k with
 |cons r f=>
  cases f with
  |cons l f=>
   cases f;obtain⟨t,rfl⟩:=r;obtain⟨t',rfl⟩:=l;exact call_range_2 (jg v g o n m q)
def A1C(wi:TI)(g:TG)(tb:TS):TS:=λD σ H=>wi σ H λJ H1=>∃W:Nat->Nat->St->Hp->Prop,(∃m,W 0 m σ H1)/\∀i m σ H,W i m σ H->(J.stop i H/\D.nx σ H)\/(J.go i H/\∃N:St->Hp->Prop,(∀a H',N a H'->∃c,c<m/\W (i+1) c a H')/\∀x H',J.yld i H x H'->g x σ H' λb H2=>tb {D with nx:=N,ct:=N,bk:=D.nx} b H2)
def UE(fp:List Ba)(h:CO):List (Ba×Obj):=fp.filterMap λb=>(h.get? b).map λo=>(b,o)
theorem MO{fp:List Ba}{h:CO}{b:Ba}{o:Obj}(a:b∈fp)(e:h.get? b=some o): (b,o)∈UE fp h:=List.mem_filterMap.mpr ⟨b,a,by rw[e];rfl⟩
theorem qM{fp:List Ba}{h:CO}{p:Ba×Obj}(a:p∈UE fp h):p.1∈fp/\h.get? p.1=some p.2:=by
 obtain⟨b,c,e⟩:=List.mem_filterMap.mp a;cases q:h.get? b with
 |none=>rw[q]at e;cases e
 |some o=>
  rw[q]at e;have d: (b,o)=p:=AR e;subst d;exact⟨c,q⟩
theorem CL.pinned{pZ:List (Ba×Obj)}{σ:St}{H:Hp}{s:Bf}{fp:List Ba}(I:CL X pZ σ H s)(h:∀b∈fp,Wq X pZ H b)(g:∀b∈fp,∃o,s.heap.get? b=some o/\∀v,o.data≠ .cell v):CL X (pZ++UE fp s.heap) σ H s:=I.pins_of λp f=>(Cg.mp f).elim (λz=>I.pin p (BU _ z)) λz=>by
  obtain⟨a,e⟩:=qM z;obtain⟨i,f1,f2,_⟩:=h p.1 a;obtain⟨o,c,d⟩:=g p.1 a;rw[e]at c;cases c;exact⟨e,i,f1,f2,d⟩
theorem CL.unpinned{pZ pl:List (Ba×Obj)}{σ:St}{H:Hp}{s:Bf}(I:CL X (pZ++pl) σ H s):CL X pZ σ H s:=I.pins_of λp a=>I.pin p (BU _ (CF _ a))
theorem Ri{iter:Expr}{body:List Dn}{wi:TI}{g:TG}{tb:TS}{pos:Pos}(O:PassesOwn (model X.prog X.w) X.A X.env X.xe)(hc:X.calm=true)(hi:PI X tg iter wi)(hg:PG X tg g)(l:WH X body tb)(hs:∀x,foldedSetIterable iter X.env x=pure x:=by intro _;rfl):PS X (.For tg iter body [] pos) (A1C wi g tb):=by
 intro pZ s σ H D I h;refine wpAny_For (ES (hi pZ s σ H _ I h) λv s1 h1=>ES h1 λb9 s2 h2=>?_) hs;obtain⟨it,fp,tn,J,H2,e,I2,T,V,f2,W,⟨m0,w0⟩,G⟩:=h2;subst e;have k:∀{H':Hp},(∀b∈fp,H' b=none)->∀b∈fp,Wq X pZ H' b:=λhn b l=>⟨hn b l,(f2 b l).2⟩;refine codeAny_forLoop_any (λn s'=>∃i j H',CL X pZ j H' s'/\tn i s'.heap/\(∀b∈fp,H' b=none)/\W i n j H') ?_ m0 ⟨0,σ,H2,I2,V,λb l=>(f2 b l).1,w0⟩;rintro n s3 ⟨i,c,Q,I3,K,P,w3⟩;rcases G i n c Q w3 with⟨stop,qn⟩|⟨go,N,hN,step⟩
 ·refine MU O (ES (T.done X rfl rfl rfl (.inl hc) i pZ s3 c Q X.xe I3 (k P) K stop) λr s4 F=>?_);obtain⟨Z,I4⟩:=F;subst Z;exact MV ⟨c,Q,I4,qn⟩
 ·refine MU O (ES (T.item X rfl rfl rfl (.inl hc) i pZ s3 c Q X.xe I3 (k P) K go) λr s4 E=>?_);obtain⟨u,Z,h4⟩:=E;subst Z;refine MU O (ES h4 λ_ s5 C=>?_);obtain⟨x,H5,I5,r5,y5,z,a0⟩:=C;have a1:=I5.pinned (k a0) (T.obj _ _ z);refine MU O (ES (hg _ s5 c H5 x u _ a1 r5 (step x H5 y5)) λ_ s6 B=>?_);obtain⟨R,H6,I6,q6⟩:=B;refine MU O (ES (l _ s6 R H6 _ I6 q6) λf Y t=>?_);have again:∀{a:St} {q:Hp},CL X (pZ++UE fp s5.heap) a q Y->N a q->∃m,m<n/\∃i j H',CL X pZ j H' Y/\tn i Y.heap/\(∀b∈fp,H' b=none)/\W i m j H':=λ{a q} p M=>by
   obtain⟨m',hm,w7⟩:=hN a q M;refine⟨m',hm,i+1,a,q,p.unpinned,T.keep _ _ _ z λb l o e=>(p.pin (b,o) (BU _ (BU _ (MO l e)))).1,λb l=>?_,w7⟩;obtain⟨o,e,d⟩:=T.obj _ _ z b l;exact(p.pin (b,o) (BU _ (BU _ (MO l e)))).2.1
  cases f with
  |next=>obtain⟨a,q,p,M⟩:=t;exact again p M
  |cont=>obtain⟨a,q,p,M⟩:=t;exact again p M
  |brk=>obtain⟨a,q,p,t⟩:=t;exact⟨a,q,p.unpinned,t⟩
  |ret v=>obtain⟨x7,a,q,p,r7,t⟩:=t;exact⟨x7,a,q,p.unpinned,r7,t⟩
end
theorem vu{K:Be}{a:Ba}{xs:List V}{g:TG}{tb:TS}{D:Wt}{σ:St}{H:Hp}(Pv:Nat->St->Hp->Prop)(k:Pv 0 σ H)(j:∀i σ H,i<=xs.length->Pv i σ H->Dk K H a xs)(hs:∀i x σ H,xs[i]?=some x->Pv i σ H->g x σ H λb H2=>tb {D with nx:=Pv (i+1),ct:=Pv (i+1),bk:=D.nx} b H2)(hd:∀σ H,Pv xs.length σ H->D.nx σ H):
  ∃W:Nat->Nat->St->Hp->Prop,(∃m,W 0 m σ H)/\∀i m σ H,W i m σ H->((A6 K a).stop i H/\D.nx σ H)\/((A6 K a).go i H/\∃N:St->Hp->Prop,(∀c H',N c H'->∃f,f<m/\W (i+1) f c H')/\∀x H',(A6 K a).yld i H x H'->g x σ H' λb H2=>tb {D with nx:=N,ct:=N,bk:=D.nx} b H2):=by
 refine⟨λi m σ H=>m=xs.length - i/\i<=xs.length/\Pv i σ H,⟨xs.length,by simp,CH _,k⟩,?_⟩;rintro i m σ H ⟨rfl,hi,p⟩;have q:=j i σ H hi p;by_cases d:i<xs.length
 ·refine .inr ⟨⟨xs,xs[i],q,by simp[d]⟩,Pv (i+1),λc H' h=>⟨xs.length - (i+1),by omega,rfl,d,h⟩,λx H' y=>?_⟩;obtain⟨e,y⟩:=y;subst e;exact hs i x σ _ (y xs q) p
 ·have e:i=xs.length:=by omega
  subst e;exact .inl ⟨⟨xs,q,Bv _⟩,hd σ H p⟩
theorem UL{lo:Int}{n:Nat}{g:TG}{tb:TS}{D:Wt}{σ:St}{H:Hp}(Pv:Nat->St->Hp->Prop)(h:Pv 0 σ H)(hs:∀i σ H,i<n->Pv i σ H->g (.int (lo+i)) σ H λa H2=>tb {D with nx:=Pv (i+1),ct:=Pv (i+1),bk:=D.nx} a H2)(hd:∀σ H,Pv n σ H->D.nx σ H):
  ∃W:Nat->Nat->St->Hp->Prop,(∃m,W 0 m σ H)/\∀i m σ H,W i m σ H->((zE lo n).stop i H/\D.nx σ H)\/((zE lo n).go i H/\∃N:St->Hp->Prop,(∀b H',N b H'->∃d,d<m/\W (i+1) d b H')/\∀x H',(zE lo n).yld i H x H'->g x σ H' λa H2=>tb {D with nx:=N,ct:=N,bk:=D.nx} a H2):=by
 refine⟨λi m σ H=>m=n - i/\i<=n/\Pv i σ H,⟨n,by simp,CH _,h⟩,?_⟩;rintro i m σ H ⟨rfl,hi,p⟩;by_cases c:i<n
 ·refine .inr ⟨c,Pv (i+1),λb H' f=>⟨n - (i+1),by omega,rfl,c,f⟩,λx H' y=>?_⟩;obtain⟨e,y⟩:=y;subst e y;exact hs i σ _ c p
 ·have e:i=n:=by omega
  subst e;exact .inl ⟨Bv _,hd σ H p⟩
abbrev R2:=V->V->Hp->VK->Prop
def Ny(X:Cx)(f:AY->AY->Sem AY)(r:R2):Prop:=∀(pZ:List (Ba×Obj)) (s:Bf) (σ:St) (H:Hp) (x y:V) (v u:AY) (Q:VK),CL X pZ σ H s->DA x v->DA y u->r x y H Q->Cc (model X.prog X.w) X.A (f v u) (EP X pZ σ Q) X.xe s
def UnR(X:Cx)(f:AY->Sem AY)(r:V->Hp->VK->Prop):Prop:=∀(pZ:List (Ba×Obj)) (s:Bf) (σ:St) (H:Hp) (x:V) (v:AY) (Q:VK),CL X pZ σ H s->DA x v->r x H Q->Cc (model X.prog X.w) X.A (f v) (EP X pZ σ Q) X.xe s
def IM(X:Cx)(f:AY)(r:List V->Hp->VK->Prop):Prop:=∀(pZ:List (Ba×Obj)) (s:Bf) (σ:St) (H:Hp) (xs:List V) (us:List AY) (Q:VK),CL X pZ σ H s->CQ xs us->r xs H Q->Cc (model X.prog X.w) X.A (call f us) (EP X pZ σ Q) X.xe s
def tOp(r:R2)(ta tb:TE):TE:=λσ H Q=>ta σ H λx H1=>tb σ H1 λy H2=>r x y H2 Q
def tUn(r:V->Hp->VK->Prop)(ta:TE):TE:=λσ H Q=>ta σ H λx H1=>r x H1 Q
def rI(C:Int->Int->Prop)(g:Int->Int->V):R2:=λx y H Q=>∃i j,x= .int i/\y= .int j/\C i j/\Q (g i j) H
def O2(g:Int->Int->V):R2:=λx y H Q=>∃i j,x= .int i/\y= .int j/\Q (g i j) H
def rU(g:Int->V):V->Hp->VK->Prop:=λx H Q=>∃i,x= .int i/\Q (g i) H
section
variable{X:Cx}{a b c:Expr}{ta tb tc:TE}{pos:Pos}
theorem U4(ha:PE X a ta)(n:PE X b tb){pZ:List (Ba×Obj)}{s:Bf}{σ:St}{H:Hp}{R:V->V->Hp->Prop}(I:CL X pZ σ H s)(h:ta σ H λx H1=>tb σ H1 λy H2=>R x y H2){Q:AY->Bf->Prop}{f:AY->AY->Sem AY}(m:∀v u s2 x y H2,CL X pZ σ H2 s2->DA x v->DA y u->R x y H2->Cc (model X.prog X.w) X.A (f v u) Q X.xe s2):
  Cc (model X.prog X.w) X.A (eval a X.env) (λv g=>Cc (model X.prog X.w) X.A (eval b X.env) (λu e=>Cc (model X.prog X.w) X.A (f v u) Q X.xe e) X.xe g) X.xe s:=by
 refine ES (ha pZ s σ H _ I h) λv s1 d=>?_;obtain⟨x,H1,p,j,l⟩:=d;refine ES (n pZ s1 σ H1 _ p l) λu s2 c=>?_;obtain⟨y,H2,o,i,k⟩:=c;exact m v u s2 x y H2 o j i k
theorem BO{op:Operator}{r:R2}(e:Ny X (Mi op) r)(ha:PE X a ta)(f:PE X b tb):PE X (.BinOp a op b pos) (tOp r ta tb):=by
 intro pZ s σ H Q I h;exact wpAny_BinOp (U4 ha f I h λv u s2 x y H2 g d c q=>e pZ s2 σ H2 x y v u Q g d c q)
theorem Yq{op:UnaryOp}{r:V->Hp->VK->Prop}(e:UnR X (unaryOp op) r)(ha:PE X a ta):PE X (.UnaryOp op a pos) (tUn r ta):=by
 intro pZ s σ H Q I h;exact UnaryOp_ (ES (ha pZ s σ H _ I h) λv s1 b=>(by obtain⟨x,H1,f,c,d⟩:=b;exact e pZ s1 σ H1 x v Q f c d))
theorem opI{f:AY->AY->Sem AY}{C:Int->Int->Prop}{g:Int->Int->Int}(rule:∀(i j:Int) (t u:Tok) (s:Bf) (Q:AY->Bf->Prop) (E:AY->Bf->Prop),C i j->Q (.int (g i j) s.toks) {s with toks:=s.toks+1}->Cc (model X.prog X.w) X.A (f (.int i t) (.int j u)) Q E s):
  Ny X f (rI C λi j=>.int (g i j)):=by
 intro pZ s σ H x y v u Q I b a h;obtain⟨i,j,rfl,rfl,hc,q⟩:=h;obtain⟨t,rfl⟩:=b;obtain⟨t',rfl⟩:=a;exact rule i j t t' s _ _ hc ⟨.int (g i j),H,I.tok _,⟨_,rfl⟩,q⟩
theorem A07{f:AY->AY->Sem AY}{g:Int->Int->Int}(rule:∀(i j:Int) (t u:Tok) (s:Bf) (Q:AY->Bf->Prop) (E:AY->Bf->Prop),Q (.int (g i j) s.toks) {s with toks:=s.toks+1}->Cc (model X.prog X.w) X.A (f (.int i t) (.int j u)) Q E s):
  Ny X f (O2 λi j=>.int (g i j)):=by
 intro pZ s σ H x y v u Q I b a h;obtain⟨i,j,rfl,rfl,q⟩:=h;obtain⟨t,rfl⟩:=b;obtain⟨t',rfl⟩:=a;exact rule i j t t' s _ _ ⟨.int (g i j),H,I.tok _,⟨_,rfl⟩,q⟩
theorem P2{f:AY->AY->Sem AY}{g:Int->Int->Bool}(rule:∀(i j:Int) (t u:Tok) (s:Bf) (Q:AY->Bf->Prop) (E:AY->Bf->Prop),Q (.bool (g i j)) s->Cc (model X.prog X.w) X.A (f (.int i t) (.int j u)) Q E s):
  Ny X f (O2 λi j=>.bl (g i j)):=by
 intro pZ s σ H x y v u Q I b a h;obtain⟨i,j,rfl,rfl,q⟩:=h;obtain⟨t,rfl⟩:=b;obtain⟨t',rfl⟩:=a;exact rule i j t t' s _ _ ⟨.bl (g i j),H,I,rfl,q⟩
def A2x(i j:Int):Prop:=0<j/\j<1073741824
def U8(i j:Int):Prop:=(-(2 ^ 64) <i/\i<2 ^ 64)\/(-(2 ^ 64) <j/\j<2 ^ 64)
theorem U8.ok{i j:Int}(h:U8 i j):IntMulOk i j:=by
 rcases h with⟨h1,h2⟩|⟨h1,h2⟩
 ·exact .of_left (intBits_le_64 h1 h2)
 ·exact .of_right (intBits_le_64 h1 h2)
theorem Eb:Ny X (Mi .Add) (O2 λi j=>.int (i+j)):=A07 λ_ _ _ _ _ _ _ q=>add_int q
theorem fM:Ny X (Mi .Sub) (O2 λi j=>.int (i - j)):=A07 λ_ _ _ _ _ _ _ q=>sub_int q
theorem LA:Ny X (Mi .Mult) (rI U8 λi j=>.int (i*j)):=opI λ_ _ _ _ _ _ _ hc q=>mul_int q hc.ok
theorem DT:Ny X (Mi .FloorDiv) (rI A2x λi j=>.int (i/j)):=opI λi j _ _ _ _ _ hc q=>by
 have h1: (0:Int) <j:=hc.1;have h2:j<1073741824:=hc.2;exact floordiv_int (by omega) (by rw[Int.fdiv_eq_ediv_of_nonneg i (by omega)];exact q) (.inl (PyProof.noPylong_small (by omega)))
theorem Dl:Ny X (Mi .Mod) (rI (λ_ j=>0<j) λi j=>.int (i%j)):=opI λi j _ _ _ _ _ hc q=>by
 have h1: (0:Int) <j:=hc;exact mod_int' (by omega) (by rw[Int.fmod_eq_emod_of_nonneg i (by omega)];exact q)
theorem unI{f:AY->Sem AY}{g:Int->Int}(rule:∀(i:Int) (t:Tok) (s:Bf) (Q:AY->Bf->Prop) (E:AY->Bf->Prop),Q (.int (g i) s.toks) {s with toks:=s.toks+1}->Cc (model X.prog X.w) X.A (f (.int i t)) Q E s):
  UnR X f (rU λi=>.int (g i)):=by
 intro pZ s σ H x v Q I a h;obtain⟨i,rfl,q⟩:=h;obtain⟨t,rfl⟩:=a;exact rule i t s _ _ ⟨.int (g i),H,I.tok _,⟨_,rfl⟩,q⟩
theorem Rc:UnR X (unaryOp .USub) (rU λi=>.int (-i)):=unI λ_ _ _ _ _ q=>neg_int q
end
def O0:V->V->Bool
 |.non,.non=>true|.non,.int _=>true|.int _,.non=>true|.non,.bl _=>true|.bl _,.non=>true|.non,.str _=>true|.str _,.non=>true
 |.int _,.int _=>true|.bl _,.bl _=>true|.str _,.str _=>true|.byt _,.byt _=>true
 |.int _,.str _=>true|.str _,.int _=>true|.bl _,.str _=>true|.str _,.bl _=>true
 |_,_=>false
def rEq:R2:=λx y H Q=>O0 x y=true/\Q (.bl (decide (x=y))) H
def rNe:R2:=λx y H Q=>O0 x y=true/\Q (.bl (!decide (x=y))) H
theorem pG{i j:Int}:decide (V.int i=V.int j)=(i==j):=by
 rw[Fw];simp
theorem vC{i j:Bool}:decide (V.bl i=V.bl j)=(i==j):=by
 rw[Fw];simp
theorem pF{i j:Bx}:decide (V.str i=V.str j)=(i==j):=by
 rw[Fw];simp
theorem pH{i j:Array UInt8}:decide (V.byt i=V.byt j)=(i.toList==j.toList):=by
 rw[Fw];cases i;cases j;simp
section
variable{X:Cx}{a b c:Expr}{ta tb tc:TE}{pos:Pos}
theorem Eh{pZ:List (Ba×Obj)}{σ:St}{H:Hp}{s:Bf}{Q:VK}{k a:Bool}(I:CL X pZ σ H s)(q:Q (.bl k) H)(e:k=a):EP X pZ σ Q (.bool a) s:=by
 subst e;exact⟨.bl k,H,I,rfl,q⟩
theorem Gg:Ny X (EE .Eq) rEq:=by
 intro pZ s σ H x y v u Q I b a h;obtain⟨hs,q⟩:=h;cases x with
 |non=>
  cases b;cases y with
  |non=>cases a;exact PySem.EqNone.eq_none_none (Eh I q (by simp))
  |bl j=>cases a;exact PySem.EqNone.eq_none_bool (Eh I q (by simp))
  |int j=>obtain⟨t',rfl⟩:=a;exact PySem.EqNone.eq_none_int (Eh I q (by simp))
  |str j=>obtain⟨t',rfl⟩:=a;exact PySem.EqNone.eq_none_str (Eh I q (by simp))
  |_=>exact A38 (show false=true from hs) BL
 |bl i=>
  cases b;cases y with
  |non=>cases a;exact PySem.EqNone.eq_bool_none (Eh I q (by simp))
  |bl j=>cases a;exact eq_bool (Eh I q vC)
  |str j=>obtain⟨t',rfl⟩:=a;exact PySem.EqMixed.eq_bool_str (Eh I q (by simp))
  |_=>exact A38 (show false=true from hs) BL
 |int i=>
  obtain⟨t,rfl⟩:=b;cases y with
  |non=>cases a;exact PySem.EqNone.eq_int_none (Eh I q (by simp))
  |int j=>obtain⟨t',rfl⟩:=a;exact eq_int (Eh I q pG)
  |str j=>obtain⟨t',rfl⟩:=a;exact PySem.EqMixed.eq_int_str (Eh I q (by simp))
  |_=>exact A38 (show false=true from hs) BL
 |str i=>
  obtain⟨t,rfl⟩:=b;cases y with
  |non=>cases a;exact PySem.EqNone.eq_str_none (Eh I q (by simp))
  |bl j=>cases a;exact PySem.EqMixed.eq_str_bool (Eh I q (by simp))
  |int j=>obtain⟨t',rfl⟩:=a;exact PySem.EqMixed.eq_str_int (Eh I q (by simp))
  |str j=>obtain⟨t',rfl⟩:=a;exact eq_str (Eh I q pF)
  |_=>exact A38 (show false=true from hs) BL
 |byt i=>
  obtain⟨t,rfl⟩:=b;cases y with
  |byt j=>obtain⟨t',rfl⟩:=a;exact PySem.W.eq_bytes (Eh I q pH)
  |_=>exact A38 (show false=true from hs) BL
 |_=>cases y <;> exact A38 (show false=true from hs) BL
theorem jk:Ny X (EE .NotEq) rNe:=by
 intro pZ s σ H x y v u Q I b a h;obtain⟨hs,q⟩:=h;cases x with
 |non=>
  cases b;cases y with
  |non=>cases a;exact PySem.EqNone.ne_none_none (Eh I q (by simp))
  |bl j=>cases a;exact PySem.EqNone.ne_none_bool (Eh I q (by simp))
  |int j=>obtain⟨t',rfl⟩:=a;exact PySem.EqNone.ne_none_int (Eh I q (by simp))
  |str j=>obtain⟨t',rfl⟩:=a;exact PySem.EqNone.ne_none_str (Eh I q (by simp))
  |_=>exact A38 (show false=true from hs) BL
 |bl i=>
  cases b;cases y with
  |non=>cases a;exact PySem.EqNone.ne_bool_none (Eh I q (by simp))
  |bl j=>cases a;exact ne_bool (Eh I q (A37 not vC))
  |str j=>obtain⟨t',rfl⟩:=a;exact PySem.EqMixed.ne_bool_str (Eh I q (by simp))
  |_=>exact A38 (show false=true from hs) BL
 |int i=>
  obtain⟨t,rfl⟩:=b;cases y with
  |non=>cases a;exact PySem.EqNone.ne_int_none (Eh I q (by simp))
  |int j=>obtain⟨t',rfl⟩:=a;exact ne_int (Eh I q (A37 not pG))
  |str j=>obtain⟨t',rfl⟩:=a;exact PySem.EqMixed.ne_int_str (Eh I q (by simp))
  |_=>exact A38 (show false=true from hs) BL
 |str i=>
  obtain⟨t,rfl⟩:=b;cases y with
  |non=>cases a;exact PySem.EqNone.ne_str_none (Eh I q (by simp))
  |bl j=>cases a;exact PySem.EqMixed.ne_str_bool (Eh I q (by simp))
  |int j=>obtain⟨t',rfl⟩:=a;exact PySem.EqMixed.ne_str_int (Eh I q (by simp))
  |str j=>obtain⟨t',rfl⟩:=a;exact ne_str (Eh I q (A37 not pF))
  |_=>exact A38 (show false=true from hs) BL
 |byt i=>
  obtain⟨t,rfl⟩:=b;cases y with
  |byt j=>obtain⟨t',rfl⟩:=a;exact PySem.W.ne_bytes (Eh I q (A37 not pH))
  |_=>exact A38 (show false=true from hs) BL
 |_=>cases y <;> exact A38 (show false=true from hs) BL
theorem A06:Ny X (EE .Lt) (O2 λi j=>.bl (decide (i<j))):=P2 λ_ _ _ _ _ _ _ q=>lt_int q
theorem bT:Ny X (EE .LtE) (O2 λi j=>.bl (decide (i<=j))):=P2 λ_ _ _ _ _ _ _ q=>le_int q
theorem jl:Ny X (EE .Gt) (O2 λi j=>.bl (decide (j<i))):=P2 λ_ _ _ _ _ _ _ q=>gt_int q
theorem qK:Ny X (EE .In) (λx y H Q=>∃i j,x= .str i/\y= .str j/\Q (.bl (!(Builtin.Str.occurrences j i 0 j.length 1).isEmpty)) H):=by
 intro pZ s σ H x y v u Q I b a h;obtain⟨i,j,rfl,rfl,q⟩:=h;obtain⟨t,rfl⟩:=b;obtain⟨t',rfl⟩:=a;exact in_str (Eh I q rfl)
theorem lW:Ny X (EE .Is) (λx y H Q=>y= .non/\Q (.bl (decide (x= .non))) H):=by
 intro pZ s σ H x y v u Q I a b h;obtain⟨rfl,q⟩:=h;cases b;refine is_none_gen (Eh I q ?_);cases x <;> first
  |(cases a;rfl)
  |(obtain⟨t,rfl⟩:=a;rfl)
theorem oP:Ny X (EE .IsNot) (λx y H Q=>y= .non/\Q (.bl (!decide (x= .non))) H):=by
 intro pZ s σ H x y v u Q I a b h;obtain⟨rfl,q⟩:=h;cases b;refine isnot_none_gen (Eh I q ?_);cases x <;> first
  |(cases a;rfl)
  |(obtain⟨t,rfl⟩:=a;rfl)
theorem Ny.or{f:AY->AY->Sem AY}{r c:R2}(h:Ny X f r)(h':Ny X f c):Ny X f (λx y H Q=>r x y H Q\/c x y H Q):=by
 intro pZ s σ H x y v u Q I b a q;rcases q with q|q
 ·exact h pZ s σ H x y v u Q I b a q
 ·exact h' pZ s σ H x y v u Q I b a q
theorem Dc(b:Expr){op:CmpOp}(h:op≠ .In:=by decide)(h2:op≠ .NotIn:=by decide):LL op b=false:=by
 have c: (op==CmpOp.In)=false:=by cases op <;> first|rfl|exact A38 rfl h
 have a: (op==CmpOp.NotIn)=false:=by cases op <;> first|rfl|exact A38 rfl h2
 cases b <;> simp[LL,c,a]
theorem GH{op:CmpOp}{r:R2}(e:Ny X (EE op) r)(ha:PE X a ta)(f:PE X b tb)(hm:LL op b=false):PE X (.Compare a [op] [b] pos) (tOp r ta tb):=by
 intro pZ s σ H Q I h;exact wpAny_Compare1 (U4 ha f I h λv u s2 x y H2 g d c q=>e pZ s2 σ H2 x y v u Q g d c q) hm
def Y1(t:TE):TT:=λσ H Q=>t σ H λx H'=>∃k,x= .bl k/\Q k H'
theorem CK{op:CmpOp}{r:R2}(m:Ny X (EE op) r)(ha:PE X a ta)(n:PE X b tb)(hm:LL op b=false):PT X (.Compare a [op] [b] pos) (Y1 (tOp r ta tb)):=by
 intro pZ s σ H Q I h;refine wpAny_isTrue_Compare1 (ES (ha pZ s σ H _ I h) λv s1 ⟨x,H1,q,g,l⟩=>ES (n pZ s1 σ H1 _ q l) λu s2 ⟨y,H2,p,f,j⟩=>
  ES (m pZ s2 σ H2 x y v u _ p g f j) λc w ⟨z,t,o,d,k,e,i⟩=>?_) hm
 subst e;cases d;exact GS ⟨t,o,i⟩
def N0(r c:R2)(ta tb tc:TE):TE:=λσ H Q=>ta σ H λx H1=>tb σ H1 λy H2=>r x y H2 λz a=>∃k,z= .bl k/\(if k=true then tc σ a λb d=>c y b d Q else Q (.bl false) a)
theorem jj{op f:CmpOp}{r j:R2}(E:Ny X (EE op) r)(g:Ny X (EE f) j)(ha:PE X a ta)(F:PE X b tb)(hc:PE X c tc)(hm:lastMarks [op,f] [b,c]=false:=by with_unfolding_all rfl):PE X (.Compare a [op,f] [b,c] pos) (N0 r j ta tb tc):=by
 intro pZ s σ H Q I h;refine Compare_chain (ES (ha pZ s σ H _ I h) λv s1 ⟨x,H1,K,A,D⟩=>chain_link (ES (F pZ s1 σ H1 _ K D) λu s2 ⟨y,H2,J,i,C⟩=>
  ES (E pZ s2 σ H2 x y v u _ J A i C) λd q ⟨z,n,m,w,k,e,l⟩=>?_)) hm
 subst e;cases w;refine GS ?_;cases k with
 |false=>exact ite_ff ⟨.bl false,n,m,rfl,l⟩
 |true=>exact ite_tt (chain_last (ES (hc pZ q σ n _ m l) λp s4 ⟨o,L,G,t,B⟩=>g pZ s4 σ L y o u p Q G i t B))
theorem UI: (sizeLine:Nat) <2 ^ 63:=by rw[FE];decide
theorem ML:Ny X (Mi .Add) (λx y H Q=>∃i j,x= .str i/\y= .str j/\i.length+j.length<=sizeLine/\Q (.str (i++j)) H):=by
 intro pZ s σ H x y v u Q I b a h;obtain⟨i,j,rfl,rfl,c,q⟩:=h;obtain⟨t,rfl⟩:=b;obtain⟨t',rfl⟩:=a;exact add_str (λt' tk=>⟨.str (i++j),H,I.tok _,⟨_,rfl⟩,q⟩) c
theorem Ni{x:V}{us:List AY}(r:CQ [x] us):∃u,us=[u]/\DA x u:=by
 cases r with
 |cons b a=>cases a;exact⟨_,rfl,b⟩
theorem tL{x y:V}{us:List AY}(r:CQ [x,y] us):∃u a,us=[u,a]/\DA x u/\DA y a:=by
 cases r with
 |cons e d=>
  cases d with
  |cons c b=>cases b;exact⟨_,_,rfl,e,c⟩
theorem cD(hc:X.calm=true):IM X (.builtin "max") (λxs H Q=>∃i j,xs=[.int i,.int j]/\Q (.int (if j>i then j else i)) H):=by
 intro pZ s σ H xs us Q I r h;obtain⟨i,j,rfl,q⟩:=h;obtain⟨u,b,rfl,⟨t,rfl⟩,⟨t',rfl⟩⟩:=tL r;refine max_two_ints (I.ok.hd hc) λh' tk k=>⟨_,H,I.kept k,?_,q⟩;by_cases a:j>i
 ·rw[A36 a,A36 a];exact⟨_,rfl⟩
 ·rw[A35 a,A35 a];exact⟨_,rfl⟩
theorem rD:IM X (.type "int") (λxs H Q=>(∃i,xs=[.int i]/\Q (.int i) H)\/∃k,xs=[.bl k]/\Q (.int (if k then 1 else 0)) H):=by
 intro pZ s σ H xs us Q I r h;rcases h with⟨i,rfl,q⟩|⟨k,rfl,q⟩
 ·obtain⟨u,rfl,t,rfl⟩:=Ni r;exact call_int_int ⟨.int i,H,I,⟨_,rfl⟩,q⟩
 ·obtain⟨u,rfl,a⟩:=Ni r;cases a;exact call_int_bool ⟨.int (if k then 1 else 0),H,I.tok _,⟨_,rfl⟩,q⟩
theorem vN:IM X (.builtin "ord") (λxs H Q=>∃x,xs=[.str x]/\x.length=1/\Q (.int (x.cps.getD 0 0:Nat)) H):=by
 intro pZ s σ H xs us Q I r h;obtain⟨x,rfl,a,q⟩:=h;obtain⟨u,rfl,t,rfl⟩:=Ni r;exact ord_of_one a ⟨.int _,H,I.tok _,⟨_,rfl⟩,q⟩
end
structure mT(h:CO)(x dx C:Ba)(mA:Bx->Option AY):Prop where
 obj:h.get? x=some (DE C dx)
 ns:h.Ns1 dx mA
 ne:dx≠x
theorem UH{h:CO}{dx:Ba}{mA:Bx->Option AY}(n:h.Ns1 dx mA):∃od,h.get? dx=some od/\∀name,PySem.W.lookIn name od=some (mA name):=by
 obtain⟨o,es,ep,d,hd,f,_,hm⟩:=n;refine⟨o,d,λname=>?_⟩;have e:=hm name;unfold nsFind findBy at e;rw[<-Array.find?_toList]at e;unfold PySem.W.lookIn;rw[hd]
 dsimp only
 split
 ·rename_i y q;rw[q]at e;exact A37 some e
 ·rename_i q;rw[q]at e;have a:es.toList.any (·.refKey)=false:=by
   rw[List.any_eq_false];intro y c;obtain⟨z,t,b⟩:=f y (Array.mem_toList_iff.mp c);simp[DictEntry.refKey,b]
  have g:¬es.toList.any (·.refKey)=true:=by rw[a];exact BL
  rw[A35 g];exact A37 some e
theorem mT.look{h:CO}{x dx C:Ba}{mA:Bx->Option AY}(I:mT h x dx C mA):∃od,ER h x (DE C dx) C (some od)/\∀name,PySem.W.lookIn name od=some (mA name):=let ⟨od,a,b⟩:=UH I.ns
 ⟨od,⟨I.obj,rfl,rfl,a⟩,b⟩
section
variable{prog:BG}{w:Cs}{A:Do}{E:AY->Bf->Prop}{s:Bf}{K:Be}{x dx C f:Ba}{mA:Bx->Option AY}{name:Bx}{v:AY}
theorem pk{expr:Bool}{Q:AY->Bf->Prop}(X:K.In s.heap)(I:mT s.heap x dx C mA)(e:OS K C name=true)(d:Nv K C=true)(ha:Dh K (.ref C) name=some none)(b:mA name=some v)(a:PySem.W.handedIn v=true)(h:Q v {s with toks:=s.toks+1}):
  Cc (model prog w) A (getAttr (.ref x) name expr) Q E s:=by
 obtain⟨od,J,c⟩:=I.look;exact PySem.W.get_value X J (UU e).1 (PySem.W.findObj_own d ha rfl (by rw[c,b])) a h
theorem vn{pl:Sem Bool}{Q:AY×List AY->Bf->Prop}(X:K.In s.heap)(I:mT s.heap x dx C mA)(a:OS K C name=true)(e:Dh K (.ref C) name=some (some (.ref f)))(c:PySem.W.isFn K (.ref f)=true)(b:mA name=none)(h:Q (.ref f,[.ref x]) s):
  Cc (model prog w) A (getMethod (.ref x) name pl) Q E s:=by
 obtain⟨od,J,d⟩:=I.look;exact PySem.W.method_fn X J (UU a).1 (UU a).2 e (beq_iff_eq.mp c) (by show(PySem.W.lookIn name od).map (·.isSome)=some false;rw[d,b];rfl) h
theorem yk{ns:List Bx}{Q:Unit->Bf->Prop}(X:K.In s.heap)(I:mT s.heap x dx C mA)(hs:Dh K (.ref C) "__setattr__"=some (some (.builtin "object.__setattr__")))(l:PySem.W.plainOver K C=true)(k:PySem.W.takerIn K C name=some none)(m:Nv K C=true)(hw:PySem.Within mA ns)(hsz:ns.length<=sizeLine)(h:∀h',mT h' x dx C (λy=>if y=name then some v else mA y)->NA dx s.heap h'->Q () {s with heap:=h',toks:=s.toks+2}):
  Cc (model prog w) A (setAttr (.ref x) name v) Q E s:=by
 obtain⟨od,J,q⟩:=I.look;refine PySem.W.set_plain X J hs (PySem.W.osa_open (s:={s with toks:=s.toks+1}) (r:=none) X J l k λb=>?_);obtain⟨cd,hc,g⟩:=OT m;have j:s.heap.get? x=some ⟨.ref C,some dx,.plain,#[]⟩:=I.obj;refine Bg (BQ (Bg (Bg (wpAny_loadPart j (Bg (PySem.W.Looks.here (s:={s with toks:=s.toks+1}) (Lq X hc) ?_))))));rw[g];refine BQ (a:=some dx) (Bg (BQ (Bg ?_)));refine wpAny_nsSet1 (s:={s with toks:=s.toks+1}) I.ns λh' d c=>?_;obtain⟨p,n,o,e,f,i⟩:=d.count (PySem.Within.cons name v hw);refine Bg (wpAny_lookBehind e (by rw[f];exact pastItsLine_dict (BF i (by rw[Cj];omega))) ?_);exact BQ (h _ ⟨(c.2 _ (DP I.ne)).trans I.obj,d,I.ne⟩ c)
theorem jB{R:Result->Bf->Prop}{vs:List AY}{kw:List (Bx×AY)}(X:K.In s.heap)(hm:Lb K C=true)(hi:Dh K (.ref C) "__init__"=some (some (.ref f)))(a:PySem.W.typeIn K (.ref f)=some (.type "function"))(h:IN (model prog w) (A.under (.builtin "type.__call__" ⟨.ref C::vs,kw⟩)) (.call (.ref f) ⟨.ref (s.heap.objs.size+1)::vs,kw⟩) (PySem.W.InitBack (s.heap.objs.size+1) R)
   {s with heap:=(s.heap.push Dq).push (DE C s.heap.objs.size)}):
  IN (model prog w) A (.call (.ref C) ⟨vs,kw⟩) R s:=by
 obtain⟨b,g,d,t,os⟩:=s;exact PySem.W.make_core (PySem.W.makes_of X hm) (KW X hi) (λself=>PySem.W.bind_fn X self a) (.inl rfl) h
theorem qR{R:Result->Bf->Prop}(X:K.In s.heap)(hm:Lb K C=true)(hi:Dh K (.ref C) "__init__"=some (some (.builtin "object.__init__")))(a:∀self,PySem.W.Looks (model prog w) s.heap (bindSpecial (.builtin "object.__init__") self) (.builtin "object.__init__",[self]))(h:IN (model prog w) (A.under (.builtin "type.__call__" ⟨[.ref C],[]⟩)) (.call (.builtin "object.__init__") ⟨[.ref (s.heap.objs.size+1)],[]⟩) (PySem.W.InitBack (s.heap.objs.size+1) R)
   {s with heap:=(s.heap.push Dq).push (DE C s.heap.objs.size)}):
  IN (model prog w) A (.call (.ref C) ⟨[],[]⟩) R s:=by
 obtain⟨b,g,d,t,os⟩:=s;exact PySem.W.make_core (PySem.W.makes_of X hm) (KW X hi) a (.inr ⟨rfl,rfl⟩) h
end
def Lz(f:Bx)(v:V):List (Bx×V)->List (Bx×V)
 |[]=>[(f,v)]
 |(g,x)::r=>if g=f then (g,v)::r else (g,x)::Lz f v r
theorem Oz(f g:Bx)(v:V):∀fs:List (Bx×V),(Lz f v fs).lookup g=if g=f then some v else fs.lookup g
 |[]=>by
  show EY g [(f,v)]=_;by_cases h:g=f
  ·have a: (g==f)=true:=beq_iff_eq.mpr h;simp only[EY,a,A36 h]
  ·have a: (g==f)=false:=beq_eq_false_iff_ne.mpr h;simp only[EY,a,A35 h]
 |(k,x)::r=>by
  have c:=Oz f g v r;rw[show Lz f v ((k,x)::r)=(if k=f then (k,v)::r else (k,x)::Lz f v r)from rfl]
  by_cases b:k=f
  ·rw[A36 b];by_cases h:g=k
   ·have a: (g==k)=true:=beq_iff_eq.mpr h;simp only[EY,a,A36 (h.trans b)]
   ·have a: (g==k)=false:=beq_eq_false_iff_ne.mpr h;simp only[EY,a,A35 (λe:g=f=>h (e.trans b.symm))]
  ·rw[A35 b];by_cases h:g=k
   ·have a: (g==k)=true:=beq_iff_eq.mpr h;simp only[EY,a,A35 (λe:g=f=>b (h.symm.trans e))]
   ·have a: (g==k)=false:=beq_eq_false_iff_ne.mpr h;simp only[EY,a];exact c
theorem UJ(f:Bx)(v:V):∀fs:List (Bx×V),f∈ (Lz f v fs).map (·.1)/\∀g,g∈fs.map (·.1)->g∈ (Lz f v fs).map (·.1)
 |[]=>⟨by simp[Lz],λg h=>by simp at h⟩
 |(k,x)::r=>by
  obtain⟨c,b⟩:=UJ f v r;rw[show Lz f v ((k,x)::r)=(if k=f then (k,v)::r else (k,x)::Lz f v r)from rfl]
  by_cases a:k=f
  ·rw[A36 a];subst a;exact⟨by simp,λg h=>by simpa using h⟩
  ·rw[A35 a];refine⟨?_,λg h=>?_⟩
   ·rw[BV];exact CJ _ c
   ·rw[BV]at h ⊢;rcases BK.mp h with e|e
    ·exact BK.mpr (.inl e)
    ·exact CJ _ (b g e)
theorem VB(f:Bx)(v:V):∀fs:List (Bx×V),(Lz f v fs).length<=fs.length+1
 |[]=>by simp[Lz]
 |(k,x)::r=>by
  have b:=VB f v r;rw[show Lz f v ((k,x)::r)=(if k=f then (k,v)::r else (k,x)::Lz f v r)from rfl]
  by_cases a:k=f
  ·rw[A36 a,Cj,Cj];omega
  ·rw[A35 a,Cj,Cj];omega
theorem La.some_of{v:V}{o:Option AY}(r:La (some v) o):∃u,o=some u/\DA v u:=by
 cases o with
 |none=>exact(show False from r).elim
 |some u=>exact⟨u,rfl,r⟩
theorem La.none_of{o:Option AY}(r:La none o):o=none:=by
 cases o with
 |none=>rfl
 |some u=>exact(show False from r).elim
theorem ck{v:V}{u:AY}(r:DA v u):PySem.W.handedIn u=true:=by
 cases v with
 |non=>cases (show u=CM from r);rfl
 |bl b=>cases (show u=Dm b from r);rfl
 |int i=>obtain⟨t,e⟩:=(show ∃t,u=HK i t from r);cases e;rfl
 |str x=>obtain⟨t,e⟩:=(show ∃t,u=LG x t from r);cases e;rfl
 |byt b=>obtain⟨t,e⟩:=(show ∃t,u=Value.bytes b t from r);cases e;rfl
 |flt b=>obtain⟨t,e⟩:=(show ∃t,u=Value.float b t from r);cases e;rfl
 |ref a=>cases (show u=Value.ref a from r);rfl
 |ty n=>cases (show u=EB n from r);rfl
section
variable{P:BG}{w:Cs}{H H':Hp}{h h':CO}{a C dx:Ba}{fs fs':List (Bx×V)}
theorem Pm(hok:JE P w H h)(e:H a=some (.ins C dx fs)):∃mA,mT h a dx C mA/\(∀f,La (fs.lookup f) (mA f))/\PySem.Within mA (fs.map (·.1))/\fs.length<=1000/\H dx=some (.own a):=by
 obtain⟨d,z,ne,ob,mA,n,r,q⟩:=(show DH P w H h a (.ins C dx fs)from hok a _ e);exact⟨mA,⟨ob,n,ne⟩,r,q,z,d⟩
end
structure TZ(K:Be)(C:Ba):Prop where
 pg:OS K C Db=true
 hd:Nv K C=true
 po:PySem.W.plainOver K C=true
 sa:Dh K (.ref C) "__setattr__"=some (some (.builtin "object.__setattr__"))
theorem TZ.get{K:Be}{C:Ba}(c:TZ K C)(f:Bx):OS K C f=true:=c.pg
def HJ(K:Be)(C:Ba)(f:Bx):Prop:=Dh K (.ref C) f=some none
theorem HJ.taker{K:Be}{C:Ba}{f:Bx}(n:HJ K C f):PySem.W.takerIn K C f=some none:=by
 unfold PySem.W.takerIn;rw[show Dh K (.ref C) f=some none from n];rfl
structure Con(K:Be)(C:Ba)(f:Bx)(v:V)(u:AY):Prop where
 at_:Dh K (.ref C) f=some (some u)
 rel:DA v u
 get:Nr K u "__get__"=some none
 cp:PySem.W.copiedNames.contains f=false
structure Jw(K:Be)(C:Ba)(m:Bx)(f:Ba):Prop where
 at_:Dh K (.ref C) m=some (some (.ref f))
 fn:PySem.W.isFn K (.ref f)=true
 kp:FY K (.ref f)=true
section
variable{X:Cx}{pZ:List (Ba×Obj)}{σ:St}{H:Hp}{s:Bf}{a C dx:Ba}{fs:List (Bx×V)}{f:Bx}{v:V}{A:Do}{E:AY->Bf->Prop}
theorem mE{b:Bool}{Q:AY->Bf->Prop}(I:CL X pZ σ H s)(e:H a=some (.ins C dx fs))(c:TZ X.K C)(n:HJ X.K C f)(l:fs.lookup f=some v)(h:∀u s',CL X pZ σ H s'->DA v u->Q u s'):Cc (model X.prog X.w) A (getAttr (.ref a) f b) Q E s:=by
 obtain⟨mA,O,r,_,_,_⟩:=Pm I.hok e;obtain⟨u,g,d⟩:=La.some_of (v:=v) (o:=mA f) (by rw[<-l];exact r f);exact pk I.kIn O (c.get f) c.hd n g (ck d) (h u _ (I.tok _) d)
theorem YH{m:Bx}{g:Ba}{pl:Sem Bool}{Q:AY×List AY->Bf->Prop}(I:CL X pZ σ H s)(e:H a=some (.ins C dx fs))(c:TZ X.K C)(k:Jw X.K C m g)(l:fs.lookup m=none)(h:Q (.ref g,[.ref a]) s):Cc (model X.prog X.w) A (getMethod (.ref a) m pl) Q E s:=by
 obtain⟨mA,O,r,_,_,_⟩:=Pm I.hok e;have hn:mA m=none:=La.none_of (by rw[<-l];exact r m);exact vn I.kIn O (c.get m) k.at_ k.fn hn h
theorem lF{y:V}{u:AY}{Q:Unit->Bf->Prop}(I:CL X pZ σ H s)(e:H a=some (.ins C dx fs))(c:TZ X.K C)(n:HJ X.K C f)(t:fs.length<1000)(j:DA y u)(h:∀s',CL X pZ σ (upd H a (.ins C dx (Lz f y fs))) s'->Q () s'):Cc (model X.prog X.w) A (setAttr (.ref a) f u) Q E s:=by
 obtain⟨mA,O,r,wi,_,i⟩:=Pm I.hok e;have k: (fs.map (·.1)).length<=sizeLine:=by rw[AV,FE];omega
 refine yk I.kIn O c.sa c.po n.taker c.hd wi k λh' d sb=>h _ ?_;have hd:∃o,h'.get? dx=some o:=let ⟨o,_,_,p,_⟩:=d.ns;⟨o,p⟩;refine I.write (x:=a) (e:=dx) (by rw[e];exact Ef) (.inr i) (λb q m z=>(sb.2 b m).trans z) hd ?_;refine⟨by rw[Bo O.ne];exact i,?_,O.ne,d.obj,_,d.ns,λg=>?_,λg l=>?_⟩
 ·have:=VB f y fs;omega
 ·show La ((Lz f y fs).lookup g) (if g=f then some u else mA g)
  rw[Oz];by_cases q:g=f
  ·rw[A36 q,A36 q];exact j
  ·rw[A35 q,A35 q];exact r g
 ·by_cases q:g=f
  ·rw[q];exact(UJ f y fs).1
  ·refine(UJ f y fs).2 g (wi g λz=>l ?_);show(if g=f then some u else mA g)=none
   rw[A35 q];exact z
theorem CL.made(I:CL X pZ σ H s):CL X pZ σ (upd (upd H s.heap.objs.size (.own (s.heap.objs.size+1))) (s.heap.objs.size+1) (.ins C s.heap.objs.size []))
  {s with heap:=(s.heap.push Dq).push (DE C s.heap.objs.size)}:=by
 have c: (s.heap.push Dq).get? s.heap.objs.size=some Dq:=Ca s.heap rfl;have h: ((s.heap.push Dq).push (DE C s.heap.objs.size)).get? (s.heap.objs.size+1)=some (DE C s.heap.objs.size):=by
  have:=Ca (s.heap.push Dq) (o:=DE C s.heap.objs.size) rfl
  rwa [KY]at this
 have g: (s.heap.push Dq).Ns s.heap.objs.size (λ_=>none):=⟨Dq,#[],_,c,rfl,(λe f=>A38 f (by simp)),λ_=>rfl⟩;have i:=I.laid (a:=s.heap.objs.size) (o:=.own (s.heap.objs.size+1)) (h':=s.heap.push Dq) (t':=s.toks) (λb u q=>Bb _ q) (Bv _) ⟨_,c⟩;refine i.laid (a:=s.heap.objs.size+1) (o:=.ins C s.heap.objs.size []) (t':=s.toks) (λb u q=>Bb _ q) (Nat.le_of_eq (KY _ _)) ?_;have ne:s.heap.objs.size≠s.heap.objs.size+1:=Ck (GV _);refine⟨by rw[Bo ne,AX],CH _,ne,h,λ_=>none,(Heap.Ns1.of_empty g).at λo q=>Bb _ q,λ_=>Ef,λy d=>A38 rfl d⟩
theorem gh{prog:BG}{w:Cs}{env:Env}{e:Expr}{f:Bx}{pos:Pos}{s:Bf}{Q:AY->Bf->Prop}(b:Iy e f env (eval e env)=eval e env)(h:Cc (model prog w) A (eval e env) (λo a=>Cc (model prog w) A (getAttr o f true) Q E a) E s):Cc (model prog w) A (eval (.Attribute e f pos) env) Q E s:=Attribute_any_ h (by rw[arm_eval_Attribute,b])
end
def Y9(K:Be)(ta:TE)(f:Bx):TE:=λσ H Q=>ta σ H λx H1=>∃a C dx fs v,x= .ref a/\H1 a=some (.ins C dx fs)/\TZ K C/\HJ K C f/\fs.lookup f=some v/\Q v H1
def A1G(K:Be)(ta tv:TE)(f:Bx):TS:=λD σ H=>tv σ H λy H1=>ta σ H1 λx H2=>∃a C dx fs,x= .ref a/\H2 a=some (.ins C dx fs)/\TZ K C/\HJ K C f/\fs.length<1000/\D.nx σ (upd H2 a (.ins C dx (Lz f y fs)))
section
variable{X:Cx}{o e value:Expr}{f:Bx}{pos pos' tpos:Pos}{ta tv:TE}
theorem DC(i:PE X e ta)(j:Iy e f X.env (eval e X.env)=eval e X.env):PE X (.Attribute e f pos) (Y9 X.K ta f):=by
 intro pZ s σ H Q I h;refine gh j (ES (i pZ s σ H _ I h) λu s1 b=>?_);obtain⟨x,H1,o,d,a,C,dx,fs,v,ex,k,c,n,l,q⟩:=b;subst ex;obtain rfl:u=Value.ref a:=d;exact mE o k c n l λp s2 m g=>⟨v,H1,m,g,q⟩
theorem IZ(ha:PE X o ta)(k:PE X value tv)(hs:swapsWith value (some (.Attribute o f pos')) pos.line X.env=pure false):PS X (.Assign [.Attribute o f pos'] value pos) (A1G X.K ta tv f):=by
 intro pZ s σ H D I h;refine plainObj_wpAny_Assign_Attribute (ES (k pZ s σ H _ I h) λu s1 d=>?_) hs;obtain⟨y,H1,t,e,q⟩:=d;refine ES (ha pZ s1 σ H1 _ t q) λj s2 b=>?_;obtain⟨x,H2,r,g,a,C,dx,fs,ex,m,c,n,l,i⟩:=b;subst ex;obtain rfl:j=Value.ref a:=g;exact lF r m c n l e λv p=>⟨σ,_,p,i⟩
end
section
variable{X:Cx}{pZ:List (Ba×Obj)}{σ:St}{H:Hp}{s:Bf}{A:Do}{E:AY->Bf->Prop}{Q:AY->Bf->Prop}{c:AY}{b:Bool}
inductive GK(K:Be)(H:Hp):V->AY->Prop where
 |non:GK K H .non (.type "NoneType")
 |bl (x:Bool):GK K H (.bl x) (.type "bool")
 |int (i:Int):GK K H (.int i) (.type "int")
 |str (x:Bx):GK K H (.str x) (.type "str")
 |flt (x:UInt64):GK K H (.flt x) (.type "float")
 |lst {a:Ba} {xs:List V} (e:H a=some (.lst xs)):GK K H (.ref a) (.type "list")
 |frz {a:Ba} {o:Obj} {xs:List V} (e:H a=some (.frz o (.lst xs))):GK K H (.ref a) (.type "list")
 |tup {a:Ba} {xs:List V} (e:H a=some (.tup xs)):GK K H (.ref a) (.type "tuple")
 |dK {a:Ba} {kvs:List (Gv×V)} (e:H a=some (.dK kvs)):GK K H (.ref a) (.type "dict")
 |dT {a:Ba} {kvs:List (List Gv×V)} (e:H a=some (.dT kvs)):GK K H (.ref a) (.type "dict")
 |ins {a C dx:Ba} {fs:List (Bx×V)} (e:H a=some (.ins C dx fs)) (cl:TZ K C) (ha:Dh K (.ref C) "__class__"=some (some (.builtin "object.__class__"))) (hn:Nr K (.builtin "object.__class__") "__get__"=some (some (.builtin "getset_descriptor.__get__"))) (htk:PySem.W.takesIn K (.builtin "object.__class__")=some true) (hm:Nz K C (.type "object")=some true):GK K H (.ref a) (.ref C)
theorem qW{x:V}{u t:AY}(I:CL X pZ σ H s)(d:DA x u)(ty:GK X.K H x t)(e:Co X.K t c=some b)(h:∀tk,Q (.bool b) {s with toks:=tk}):
  Cc (model X.prog X.w) A (call (.builtin "isinstance") [u,c]) Q E s:=by
 cases ty with
 |non=>cases (show u=CM from d);exact Eg PySem.W.kitx_none I.kIn Ef e (λz=>nomatch z) h
 |bl y=>cases (show u=Dm y from d);exact Eg PySem.W.kitx_bool I.kIn Ef e (λz=>nomatch z) h
 |int i=>obtain⟨t,q⟩:=(show ∃t,u=HK i t from d);cases q;exact Eg PySem.W.kitx_int I.kIn Ef e (λz=>nomatch z) h
 |str y=>obtain⟨t,q⟩:=(show ∃t,u=LG y t from d);cases q;exact Eg PySem.W.kitx_str I.kIn Ef e (λz=>nomatch z) h
 |flt y=>obtain⟨t,q⟩:=(show ∃t,u=Value.float y t from d);cases q;exact Eg PySem.W.kitx_float I.kIn Ef e (λz=>nomatch z) h
 |@lst a xs f=>
  cases (show u=Value.ref a from d);obtain⟨_,_,n,_,h1⟩:=(show DH X.prog X.w H s.heap a (.lst xs)from I.hok a _ f);exact Eg Nt I.kIn ⟨_,h1,rfl⟩ e (λz=>nomatch z) h
 |@frz a ob xs f=>
  cases (show u=Value.ref a from d);obtain⟨_,_,_,n,_,h1⟩:=(show DH X.prog X.w H s.heap a (.frz ob (.lst xs))from I.hok a _ f);exact Eg Nt I.kIn ⟨_,h1,rfl⟩ e (λz=>nomatch z) h
 |@tup a xs f=>
  cases (show u=Value.ref a from d);obtain⟨_,_,_,p⟩:=(show DH X.prog X.w H s.heap a (.tup xs)from I.hok a _ f);obtain⟨o,h1,h2,_⟩:=p;exact Eg PySem.W.kitx_tuple I.kIn ⟨o,h1,h2⟩ e (λz=>nomatch z) h
 |@dK a kvs f=>
  cases (show u=Value.ref a from d);obtain⟨_,_,vs,_,p⟩:=(show DH X.prog X.w H s.heap a (.dK kvs)from I.hok a _ f);obtain⟨o,es,ep,h1,h2,_⟩:=p;exact Eg Nu I.kIn ⟨o,h1,h2.1⟩ e (λz=>nomatch z) h
 |@dT a kvs f=>
  cases (show u=Value.ref a from d);obtain⟨_,_,xs,_,o,es,ep,h1,h2,_⟩:=(show DH X.prog X.w H s.heap a (.dT kvs)from I.hok a _ f);exact Eg Nu I.kIn ⟨o,h1,h2.1⟩ e (λz=>nomatch z) h
 |@ins a C dx fs f cl ha hn htk hm=>
  cases (show u=Value.ref a from d);obtain⟨mA,O,_⟩:=Pm I.hok f;obtain⟨od,J,_⟩:=O.look;exact Eg (PySem.W.kitx_own (cl.get _) cl.hd ha hn htk hm) I.kIn J e (λz=>nomatch z) h
end
structure Fm(k:Nat)(A:Do):Prop where
 dp:A.depth+3*k+5<recursionLimit
 un:A.units+16*k+200<cLine
theorem Fm.mono{j k:Nat}{A:Do}(r:Fm k A)(h:j<=k):Fm j A:=⟨by have:=r.dp;omega,by have:=r.un;omega⟩
theorem Fm.deeper{k:Nat}{A:Do}(r:Fm (k+1) A)(env:Env):Fm k (A.deeper env):=⟨by have:=r.dp;show A.depth+1+3*k+5<_;omega,by have:=r.un;show A.units+3+16*k+200<_;omega⟩
theorem mx{A:Do}{C:Ba}{us:List AY}{kw:List (Bx×AY)}: (A.under (.builtin "type.__call__" ⟨.ref C::us,kw⟩)).depth=A.depth+1:=by
 first|rfl|simp[Around.under,Code.weight,Code.isCreation,Code.isGuard,Code.isCaller,Code.frames,Code.isFrame,guardIds]
theorem mw{A:Do}{C:Ba}{us:List AY}{kw:List (Bx×AY)}: (A.under (.builtin "type.__call__" ⟨.ref C::us,kw⟩)).units=A.units+1:=by
 first|rfl|simp[Around.under,Code.cUnits,Code.frames,Code.isFrame]
theorem Fm.make{k:Nat}{A:Do}(r:Fm (k+1) A)(C:Ba)(us:List AY)(kw:List (Bx×AY)):Fm k (A.under (.builtin "type.__call__" ⟨.ref C::us,kw⟩)):=⟨by have:=r.dp;rw[mx];omega,by have:=r.un;rw[mw];omega⟩
theorem Fm.depth{k:Nat}{A:Do}(r:Fm k A):A.depth<recursionLimit:=by have:=r.dp;omega
theorem Fm.units{k:Nat}{A:Do}(r:Fm k A):A.units+64<cLine:=by have:=r.un;omega
def qv:TA:=λ_ H Q=>Q [] H
def nS(ta:TE)(a:TA):TA:=λσ H Q=>ta σ H λx H1=>a σ H1 λxs H2=>Q (x::xs) H2
section
variable{X:Cx}{e:Expr}{es:List Expr}{te:TE}{t:TA}{pos:Pos}
theorem AZ:PA X [] qv:=λ_ _ _ _ H Q I h=>QN ⟨[],H,I,.nil,h⟩
theorem AS(ha:PE X e te)(i:PA X es t)(hs:Cn (e::es) X.env=(false,eval e X.env)::Cn es X.env:=by rfl):PA X (e::es) (nS te t):=by
 intro pos pZ s σ H Q I h;rw[hs];show Cc _ _ (spliced ((false,eval e X.env)::FL pos (Cn es X.env))) _ _ s;refine JU (ES (ha pZ s σ H _ I h) λu s1 b=>?_);obtain⟨x,H1,k,d,g⟩:=b;exact ES (i pos pZ s1 σ H1 _ k g) λus s2 a=>(by obtain⟨xs,H2,j,c,f⟩:=a;exact⟨x::xs,H2,j,.cons d c,f⟩)
def A1w(t:TA):TE:=λσ H Q=>t σ H λxs H1=>xs.length<=sizeLine/\∀p,H1 p=none->Q (.ref p) (upd H1 p (.tup xs))
def A1A(t:TA):TE:=λσ H Q=>t σ H λxs H1=>xs.length<=sizeLine/\∀p,H1 p=none->Q (.ref p) (upd H1 p (.lst xs))
theorem Fq{d}(h:PA X es t):PE X (.Tuple es d pos) (A1w t):=by
 intro pZ s σ H Q I f;refine wpAny_Tuple_spliced (ES (h pos pZ s σ H _ I f) λus s1 a=>?_);obtain⟨xs,H1,c,r,z,q⟩:=a;refine⟨by rw[<-r.length];exact z,?_⟩;have g:H1 s1.heap.objs.size=none:=c.hok.fresh (Bv _);refine⟨.ref s1.heap.objs.size,upd H1 s1.heap.objs.size (.tup xs),c.laid (t':=s1.toks) (λb u e=>Bb _ e) (Bv _) ?_,rfl,q _ g⟩;exact⟨z,us,r,⟨_,Ca _ rfl,rfl,_,rfl⟩⟩
theorem DO(h:PA X es t):PE X (.List es pos) (A1A t):=by
 intro pZ s σ H Q I d;refine wpAny_List_spliced (ES (h pos pZ s σ H _ I d) λus s1 a=>?_);obtain⟨xs,H1,c,r,z,q⟩:=a;refine⟨by rw[<-r.length];exact z,?_⟩;have f:H1 s1.heap.objs.size=none:=c.hok.fresh (Bv _);refine⟨.ref s1.heap.objs.size,upd H1 s1.heap.objs.size (.lst xs),c.laid (t':=s1.toks) (λb u e=>Bb _ e) (Bv _) ?_,rfl,q _ f⟩;exact⟨z,us,0,r,Ca _ rfl⟩
end
abbrev Sp:=List V->Hp->VK->XK->Prop
structure gu where
 cm:Bool
 sm:Bool
 cx:List Env->Hp->Bf->XK->AY->Bf->Prop
structure mW(P:BG)(w:Cs)(K:Be)(mg:Bx->Option AY)(base:CO)(A:Do)(outer:List Env)(s:Bf)(H:Hp):Prop where
 frames:A.frames=some outer
 mod:Mod K mg base
 bs:∀b o,base.get? b=some o->s.heap.get? b=some o/\H b=none
 bsz:base.objs.size<=s.heap.objs.size
 funs:s.heap.FunFrames base outer
 frf:∀b∈ND outer,H b=none
 hok:JE P w H s.heap
 bare:AllBare s.gens
def CE(outer:List Env)(P:BG)(w:Cs)(H:Hp)(s:Bf)(Q:VK)(u:AY)(s':Bf):Prop:=∃v H',s'.os=s.os/\AllBare s'.gens/\Un (ND outer) [] H H' s.heap s'.heap/\JE P w H' s'.heap/\DA v u/\Q v H'
def CR(CX:gu)(outer:List Env)(P:BG)(w:Cs)(H:Hp)(s:Bf)(Q:VK)(E:XK)(r:Result)(s':Bf):Prop:=match r with
 |.ok (.ret u)=>CE outer P w H s Q u s'
 |.ok _=>False
 |.error e=>CX.cx outer H s E e s'
structure Cm(P:BG)(w:Cs)(K:Be)(mg:Bx->Option AY)(base:CO)(CX:gu)(k:Nat)(f:Ba)(fd:Ek)(ps:List Bx)(sp:Sp):Prop where
 len:∀vs H Q E,sp vs H Q E->vs.length=ps.length
 run:∀(A:Do) (outer:List Env) (s:Bf) (H:Hp) (args:Args) (us:List AY) (vs:List V) (Q:VK) (E:XK),Fm k A->(CX.cm=true->A.handled=none)->(CX.sm=true->Hd A H)->mW P w K mg base A outer s H->BindsTo s fd args (ps.zip us)->CQ vs us->sp vs H Q E->IN (model P w) A (.call (.ref f) args) (CR CX outer P w H s Q E) s
theorem Cm.mono{P:BG}{w:Cs}{K:Be}{mg:Bx->Option AY}{base:CO}{CX:gu}{j k:Nat}{f:Ba}{fd:Ek}{ps:List Bx}{sp:Sp}(F:Cm P w K mg base CX j f fd ps sp)(h:j<=k):
  Cm P w K mg base CX k f fd ps sp:=⟨F.len,λA outer s H args us vs Q E a=>F.run A outer s H args us vs Q E (a.mono h)⟩
theorem Cm.imp{P:BG}{w:Cs}{K:Be}{mg:Bx->Option AY}{base:CO}{CX:gu}{k:Nat}{f:Ba}{fd:Ek}{ps:List Bx}{sp a:Sp}(F:Cm P w K mg base CX k f fd ps sp)(h:∀vs H Q E,a vs H Q E->sp vs H Q E):Cm P w K mg base CX k f fd ps a:=⟨λvs H Q E q=>F.len vs H Q E (h _ _ _ _ q),λA outer s H args us vs Q E d hc b e g c hs=>F.run A outer s H args us vs Q E d hc b e g c (h _ _ _ _ hs)⟩
theorem mW.make{P:BG}{w:Cs}{K:Be}{mg:Bx->Option AY}{base:CO}{A:Do}{outer:List Env}{s:Bf}{H:Hp}(e:mW P w K mg base A outer s H)(C:Ba)(us:List AY)(kw:List (Bx×AY)):
  mW P w K mg base (A.under (.builtin "type.__call__" ⟨.ref C::us,kw⟩)) outer s H:=⟨by first|exact e.frames|(simpa [Around.under,Code.envs,Code.isFrame,pushEnvs]using e.frames),e.mod,e.bs,e.bsz,e.funs,e.frf,e.hok,e.bare⟩
section
variable{X:Cx}{pZ:List (Ba×Obj)}{σ:St}{H:Hp}{s s':Bf}
theorem CL.env0(I:CL X pZ σ H s):mW X.prog X.w X.K X.mg X.base X.A X.stack s H:=⟨I.ok.frames,I.ok.mod,I.bs,BF I.ok.bsz I.sz,I.stack,I.stkFree,I.hok,I.bare⟩
theorem CL.after{Q:VK}{u:AY}(I:CL X pZ σ H s)(h:CE X.stack X.prog X.w H s Q u s'):EP X pZ σ Q u s':=by
 obtain⟨v,H',os,bare,un,hok,r,q⟩:=h;obtain⟨a,g,d,t,os'⟩:=s';obtain rfl:os'=s.os:=os;exact⟨v,H',I.call (h':=a) (g':=g) (d':=d) (t':=t) (ch:=[]) un hok bare (λb z=>A38 z (by simp)),r,q⟩
end
def Z4(sp:Sp)(dvs:List V)(E:XK)(t:TA):TE:=λσ H Q=>t σ H λvs H1=>sp (vs++dvs) H1 Q E
def tP(C:Ba)(sp:Sp)(dvs:List V)(E:XK)(t:TA):TE:=λσ H Q=>t σ H λvs H1=>∀x dx,H1 x=none->H1 dx=none->dx≠x->sp (.ref x:: (vs++dvs)) (upd (upd H1 dx (.own x)) x (.ins C dx [])) (λv H2=>v= .non/\Q (.ref x) H2) E
def CC(K:Be)(fd:Ek)(ps:List Bx)(ds:List AY):Prop:=∀(s:Bf) (us:List AY),K.In s.heap->(us++ds).length=ps.length->BindsTo s fd ⟨us,[]⟩ (ps.zip (us++ds))
theorem CC.all{K:Be}{fd:Ek}{ps:List Bx}(h:∀us:List AY,us.length=ps.length->bindArgs fd ⟨us,[]⟩=pure (ps.zip us)):CC K fd ps []:=λs us _ a=>by
 rw[De]at a ⊢;exact .of_eq (h us a)
def JT(CX:gu)(X:Cx)(E:XK):Prop:=(CX.cm=true->X.calm=true)/\CX.sm=false/\∀(pZ:List (Ba×Obj)) (σ:St) (H:Hp) (s:Bf) (e:AY) (s':Bf),CL X pZ σ H s->CX.cx X.stack H s E e s'->X.xe e s'
section
variable{X:Cx}{CX:gu}{k:Nat}{f C:Ba}{fd:Ek}{ps:List Bx}{sp:Sp}{dvs:List V}{ds:List AY}{E:XK}{x m:Bx}{p pos apos:Pos}{e o:Expr}{es:List Expr}{ta:TE}{t:TA}
theorem lL{pZ:List (Ba×Obj)}{σ:St}{H:Hp}{s:Bf}{Q:VK}{us:List AY}{vs:List V}(F:Cm X.prog X.w X.K X.mg X.base CX k f fd ps sp)(d:Fm k X.A)(i:CC X.K fd ps ds)(hd:CQ dvs ds)(b:JT CX X E)(I:CL X pZ σ H s)(r:CQ vs us)(h:sp (vs++dvs) H Q E):Cc (model X.prog X.w) X.A (call (.ref f) us) (EP X pZ σ Q) X.xe s:=by
 have c:CQ (vs++dvs) (us++ds):=r.append hd;have g: (us++ds).length=ps.length:=by rw[<-c.length];exact F.len _ _ _ _ h
 refine Ho (GT (F.run X.A X.stack s H ⟨us,[]⟩ (us++ds) (vs++dvs) Q E d (λz=>I.ok.hd (b.1 z)) (λz=>by rw[b.2.1]at z;cases z) I.env0 (i s us I.kIn g) c h) λr s' a=>?_);cases r with
 |error e=>exact b.2.2 pZ σ H s e s' I a
 |ok fl=>
  cases fl with
  |ret u=>exact I.after a
  |next=>exact CG a
  |brk=>exact CG a
  |cont=>exact CG a
theorem BX(F:Cm X.prog X.w X.K X.mg X.base CX k f fd ps sp)(i:Fm k X.A)(l:Gl X x)(hm:X.mg x=some (.ref f))(j:FY X.K (.ref f)=true)(n:CC X.K fd ps ds)(hd:CQ dvs ds)(g:JT CX X E)(ha:PA X (e::es) t)(c: (x==("__debug__" :Bx))=false:=by decide)(m:Cn (e::es) X.env=(false,eval e X.env)::Cn es X.env:=by rfl)(b: (FL pos (Cn es X.env)).any (·.1)=false:=by rfl):
  PE X (.Call (.Name x p) (e::es) [] pos) (Z4 sp dvs E t):=by
 intro pZ s σ H Q I h;refine DD (JA I l hm ?_ c);refine Jq (h₀:=X.base) I.ok.mod.kin j (ES (ha pos pZ s σ H _ I h) λus s1 a=>?_) m b;obtain⟨vs,H1,d,r,q⟩:=a;refine⟨d.kIn,?_⟩;exact lL F i n hd g d r q
structure Mk(K:Be)(C f:Ba):Prop where
 makes:Lb K C=true
 init:Dh K (.ref C) "__init__"=some (some (.ref f))
 fn:PySem.W.isFn K (.ref f)=true
 kp:FY K (.ref C)=true
theorem jb{pZ:List (Ba×Obj)}{σ:St}{H:Hp}{s:Bf}{Q:VK}{us:List AY}{vs:List V}(M:Mk X.K C f)(F:Cm X.prog X.w X.K X.mg X.base CX k f fd ps sp)(l:Fm (k+1) X.A)(n:CC X.K fd ps ds)(hd:CQ dvs ds)(c:JT CX X E)(I:CL X pZ σ H s)(r:CQ vs us)(h:∀x dx,H x=none->H dx=none->dx≠x->sp (.ref x:: (vs++dvs)) (upd (upd H dx (.own x)) x (.ins C dx [])) (λv H2=>v= .non/\Q (.ref x) H2) E):
  Cc (model X.prog X.w) X.A (call (.ref C) us) (EP X pZ σ Q) X.xe s:=by
 have g:=h (s.heap.objs.size+1) s.heap.objs.size (I.hok.fresh (EV _)) (I.hok.fresh (Bv _)) (Ck (GV _));have b:=CL.made (C:=C) I;have d:CQ (V.ref (s.heap.objs.size+1):: (vs++dvs)) (Value.ref (s.heap.objs.size+1):: (us++ds)):=.cons rfl (r.append hd);have m: (Value.ref (s.heap.objs.size+1)::us++ds).length=ps.length:=by
  have e:=d.length;rw[F.len _ _ _ _ g]at e;exact e.symm
 refine Ho (jB (f:=f) I.kIn M.makes M.init (beq_iff_eq.mp M.fn) (GT (F.run _ X.stack _ _ ⟨Value.ref (s.heap.objs.size+1)::us,[]⟩ (Value.ref (s.heap.objs.size+1):: (us++ds)) _ _ E (l.make C us []) (λz=>I.ok.hd (c.1 z)) (λz=>by rw[c.2.1]at z;cases z) (b.env0.make C us []) (n _ (Value.ref (s.heap.objs.size+1)::us) b.kIn m) d g) λr s' a=>?_));cases r with
 |error e=>exact c.2.2 pZ σ _ _ e s' b a
 |ok fl=>
  cases fl with
  |ret u=>
   obtain⟨v,H',p,i,o,j⟩:=b.after a;subst o;exact⟨i,⟨V.ref (s.heap.objs.size+1),H',p,rfl,j⟩⟩
  |next=>exact CG a
  |brk=>exact CG a
  |cont=>exact CG a
theorem Dy(M:Mk X.K C f)(F:Cm X.prog X.w X.K X.mg X.base CX k f fd ps sp)(i:Fm (k+1) X.A)(j:Gl X x)(hm:X.mg x=some (.ref C))(m:CC X.K fd ps ds)(hd:CQ dvs ds)(g:JT CX X E)(ha:PA X (e::es) t)(c: (x==("__debug__" :Bx))=false:=by decide)(l:Cn (e::es) X.env=(false,eval e X.env)::Cn es X.env:=by rfl)(b: (FL pos (Cn es X.env)).any (·.1)=false:=by rfl):
  PE X (.Call (.Name x p) (e::es) [] pos) (tP C sp dvs E t):=by
 intro pZ s σ H Q I h;refine DD (JA I j hm ?_ c);refine Jq (h₀:=X.base) I.ok.mod.kin M.kp (ES (ha pos pZ s σ H _ I h) λus s1 a=>?_) l b;obtain⟨vs,H1,d,r,q⟩:=a;refine⟨d.kIn,?_⟩;exact jb M F i m hd g d r q
theorem jh(M:Mk X.K C f)(F:Cm X.prog X.w X.K X.mg X.base CX k f fd ps sp)(c:Fm (k+1) X.A)(d:Gl X x)(hm:X.mg x=some (.ref C))(e:CC X.K fd ps ds)(hd:CQ dvs ds)(b:JT CX X E)(a: (x==("__debug__" :Bx))=false:=by decide):PE X (.Call (.Name x p) [] [] pos) (tP C sp dvs E qv):=by
 intro pZ s σ H Q I h;refine DD (JA I d hm ?_ a);exact UV I.kIn M.kp (jb (us:=[]) M F c e hd b I .nil h)
end
def PK(X:Cx)(kws:List Keyword)(t:TA):Prop:=∀(pos:Pos) (pZ:List (Ba×Obj)) (s:Bf) (σ:St) (H:Hp) (Q:List V->Hp->Prop),CL X pZ σ H s->t σ H Q->Cc (model X.prog X.w) X.A (evalAll ((backToKw pos (JY kws X.env)).map (·.2))) (AP X pZ σ Q) X.xe s
section
variable{X:Cx}{CX:gu}{k:Nat}{f C:Ba}{fd:Ek}{ps ks:List Bx}{sp:Sp}{E:XK}{x m:Bx}{p pos apos kpos:Pos}{e o:Expr}{es:List Expr}{kws:List Keyword}{te ta:TE}{t tk:TA}{nm:Option Bx}
theorem O6:PK X [] qv:=λ_ _ _ _ H Q I h=>wpAny_evalAll_nil ⟨[],H,I,.nil,h⟩
theorem yw(ha:PE X e te)(i:PK X kws t):PK X (⟨nm,e,kpos⟩::kws) (nS te t):=by
 intro pos pZ s σ H Q I h;show Cc _ _ (evalAll ((do let v <-eval e X.env;standAt pos;pure v):: (backToKw pos (JY kws X.env)).map (·.2))) _ _ s;refine wpAny_evalAll_cons (Bg (ES (ha pZ s σ H _ I h) λu s1 b=>?_));obtain⟨x,H1,k,d,g⟩:=b;refine Bg (JJ (BQ ?_));exact ES (i pos pZ s1 σ H1 _ k g) λus s2 a=>(by obtain⟨xs,H2,j,c,f⟩:=a;exact⟨x::xs,H2,j,.cons d c,f⟩)
structure A2v(K:Be)(fd:Ek)(ps ks:List Bx)(g:List AY->List AY->List AY)(gV:List V->List V->List V):Prop where
 to:∀(s:Bf) (us ws:List AY),K.In s.heap->(g us ws).length=ps.length->BindsTo s fd ⟨us,ks.zip ws⟩ (ps.zip (g us ws))
 rel:∀{vs:List V} {us:List AY} {zs:List V} {ws:List AY},CQ vs us->CQ zs ws->CQ (gV vs zs) (g us ws)
variable{g:List AY->List AY->List AY}{gV:List V->List V->List V}
end
structure Cd(N P:List Bx)(sc:Scope):Prop where
 kind:sc.kind= .function
 co:sc.isCoroutine=false
 gen:sc.isGenerator=false
 nd:N.Nodup
 pre:N.take P.length=P
 par:∀x∈P,sc.names.lookup x=some .local\/sc.names.lookup x=some .cell
 nofree:∀y∈sc.names,y.2≠ .free
theorem cE{kindOf:Bx->Option NameKind}{x:Bx}:∀{binds:List (Bx×AY)} {m:Bx->Option AY},(∀v,(x,v) ∉binds)->bindL kindOf binds m x=m x
 |[],_,_=>rfl
 |(n,v)::r,m,h=>by
  unfold bindL;rw[cE λw hw=>h w (CJ _ hw)];split
  ·have:x≠n:=by rintro rfl;exact h v Ds
   simp[this]
  ·rfl
theorem cG{kindOf:Bx->Option NameKind}{x:Bx}:∀{binds:List (Bx×AY)} {m:Bx->Option AY},(∀v,(x,v) ∉binds)->bindC kindOf binds m x=m x
 |[],_,_=>rfl
 |(n,v)::r,m,h=>by
  unfold bindC;rw[cG λw hw=>h w (CJ _ hw)];split
  ·rfl
  ·have:x≠n:=by rintro rfl;exact h v Ds
   simp[this]
theorem cF{kindOf:Bx->Option NameKind}{x:Bx}{v:AY}:∀{P:List Bx} {vs:List AY} {i:Nat} {m:Bx->Option AY},P.Nodup->P[i]?=some x->vs[i]?=some v->kindOf x=some .local->bindL kindOf (P.zip vs) m x=some v
 |[],_,_,_,_,h,_,_=>by simp at h
 |_::_,[],_,_,_,_,h,_=>by simp at h
 |p::P,w::vs,0,m,nd,h1,h2,a=>by
  simp at h1 h2;subst h1;subst h2;show bindL kindOf ((p,w)::P.zip vs) m p=_;unfold bindL;rw[cE λv b=>(Jn.mp nd).1 (List.of_mem_zip b).1,A36 a];simp
 |p::P,w::vs,i+1,m,nd,h1,h2,a=>by
  show bindL kindOf ((p,w)::P.zip vs) m x=_;unfold bindL;exact cF (i:=i) (Jn.mp nd).2 (by simpa using h1) (by simpa using h2) a
theorem cH{kindOf:Bx->Option NameKind}{x:Bx}{v:AY}:∀{P:List Bx} {vs:List AY} {i:Nat} {m:Bx->Option AY},P.Nodup->P[i]?=some x->vs[i]?=some v->kindOf x≠some .local->bindC kindOf (P.zip vs) m x=some v
 |[],_,_,_,_,h,_,_=>by simp at h
 |_::_,[],_,_,_,_,h,_=>by simp at h
 |p::P,w::vs,0,m,nd,h1,h2,a=>by
  simp at h1 h2;subst h1;subst h2;show bindC kindOf ((p,w)::P.zip vs) m p=_;unfold bindC;rw[cG λv b=>(Jn.mp nd).1 (List.of_mem_zip b).1,A35 a];simp
 |p::P,w::vs,i+1,m,nd,h1,h2,a=>by
  show bindC kindOf ((p,w)::P.zip vs) m x=_;unfold bindC;exact cH (i:=i) (Jn.mp nd).2 (by simpa using h1) (by simpa using h2) a
def SI(N:List Bx)(vs:List V):St:=vs.map some++CI (N.length - vs.length) none
noncomputable def bi(CX:gu)(P:BG)(w:Cs)(K:Be)(mg:Bx->Option AY)(base:CO)(N:List Bx)(qual:Bx)(scope:Scope)(f:Ba)(cd:AY)(A:Do)(outer:List Env)(s:Bf)(H:Hp)(E:XK):Cx where
 prog:=P
 w:=w
 K:=K
 mg:=mg
 base:=base
 A:=A.deeper (GD qual scope s.heap.objs.size f cd)
 N:=N
 s_:=s
 H_:=H
 env:=GD qual scope s.heap.objs.size f cd
 outer:=outer
 stack:=GD qual scope s.heap.objs.size f cd::outer
 ex:=[]
 calm:=CX.cm
 suit:=CX.sm
 fn:=λ_=>true
 pn:=[]
 xe:=λe s'=>Cc (model P w) (A.deeper (GD qual scope s.heap.objs.size f cd)) (leaving (GD qual scope s.heap.objs.size f cd) e) (λ_ a=>CX.cx outer H s E e a) (λb a=>CX.cx outer H s E b a) s'
theorem jZ{sc:Scope}{n:Nat}{x:Bx}(h:sc.names.lookup x=some .cell):∃c,(cellsFrom n sc.names []).lookup x=some c:=by
 have q:=PySem.W.cellsFrom_some sc.names n [] (.inl h);exact Option.isSome_iff_exists.mp q
theorem qX{CX:gu}{P:BG}{w:Cs}{K:Be}{mg:Bx->Option AY}{base:CO}{N ps:List Bx}{qual:Bx}{scope:Scope}{f:Ba}{cd:AY}{A:Do}{outer:List Env}{s s1:Bf}{H:Hp}{E:XK}{us:List AY}{vs:List V}(S:Cd N ps scope)(hd:CX.cm=true->A.handled=none)(o:CX.sm=true->Hd A H)(d:mW P w K mg base A outer s H)(F:vs.length=ps.length)(r:CQ vs us)(x:InCallC s s.heap.objs.size (bindL (GD qual scope s.heap.objs.size f cd).kindOf (ps.zip us) λ_=>none) (cellsFrom (s.heap.objs.size+1) scope.names []) (bindC (GD qual scope s.heap.objs.size f cd).kindOf (ps.zip us) λ_=>none) s1):
  CL (bi CX P w K mg base N qual scope f cd A outer s H E) [] (SI N vs) H s1:=by
 have D:ps.length<=N.length:=by have:=A37 List.length S.pre;rw[Bt]at this;omega
 obtain⟨h1,tk,rfl,B⟩:=x.done;have g:∀b:Ba,b∉ (bi CX P w K mg base N qual scope f cd A outer s H E).ex:=λb z=>A38 (show b∈ ([]:List Ba)from z) (by simp);refine⟨⟨d.mod,S.kind,rfl,rfl,Bv _,λy z c h1 h2=>?_,λy j=>?_,λy c _ h=>?_,hd,Around.frames_deeper d.frames,.inr ⟨rfl,rfl⟩,λb z=>A38 z (g b),d.bs,d.bsz,λb _ _=>g b,λb z=>A38 z (g b),d.funs,d.frf,o⟩,rfl,d.bare,Un.kept B,⟨_,x.toInCall.ns,λi y v h1 h2 h3=>?_⟩,λy c h=>⟨_,x.cell y c h⟩,d.hok.fresh (Bv _),λy c h=>?_,λp m=>A38 (show p∈ ([]:List (Ba×Obj))from m) (by simp),d.hok.kept B,?_⟩
 ·exact name_of_addr x.apart (FF h1) (FF h2)
 ·have j:scope.names.lookup y=some .cell\/scope.names.lookup y=some .free:=j;rcases j with j|j
  ·exact jZ j
  ·exact A38 rfl (S.nofree _ (FF j))
 ·exact Gp (x.above y c (FF h))
 ·have hi:i<vs.length:=by
   unfold SI at h2;by_cases hi:i<vs.length
   ·exact hi
   ·rw[CB (by simpa using hi)]at h2;rw[OV]at h2;split at h2 <;> cases h2
  have ha:vs[i]?=some v:=by
   unfold SI at h2;rw[CU (by simpa using hi),Bj]at h2;cases e:vs[i]? with
   |none=>rw[e]at h2;cases h2
   |some a=>rw[e]at h2;cases h2;rfl
  obtain⟨u,t,C⟩:=r.get ha;have m:ps[i]?=some y:=by
   rw[<-S.pre,Da (by omega)];exact h1
  have l:ps.Nodup:=by rw[<-S.pre];exact S.nd.sublist (Gq _ _)
  refine⟨u,C,?_⟩;rcases S.par y (Bp m)with k|k
  ·exact .inl ⟨k,cF l m t k⟩
  ·obtain⟨c,e⟩:=jZ (n:=s.heap.objs.size+1) k;refine .inr ⟨.inl k,c,e,?_⟩;have q:=x.cell y c e;rw[cH l m t (by show scope.names.lookup y≠_;rw[k];decide)]at q;exact q
 ·exact d.hok.fresh (Gp (x.above y c (FF h)))
 ·unfold SI;show _=N.length;rw[Bh,AV,JZ];omega
theorem jJ{CX:gu}{P:BG}{w:Cs}{K:Be}{mg:Bx->Option AY}{base:CO}{k:Nat}{f:Ba}{name qual:Bx}{params:NE}{body:List Dn}{scope:Scope}{C kV doc pm cdv ct oc:AY}{an od:Option Ba}
  {osl:Array (Option AY)}{N ps:List Bx}{sp:Sp}(lk:K.lookup f=some ⟨oc,od,.func (LH name qual params body scope C kV doc pm an cdv ct),osl⟩)(z:PySem.W.codeIn K cdv qual=true)(S:Cd N ps scope)
  (len:∀vs H Q E,sp vs H Q E->vs.length=ps.length)
  (g:∀(A:Do) (outer:List Env) (s:Bf) (H:Hp) (vs:List V) (Q:VK) (E:XK),Fm k (A.deeper (GD qual scope s.heap.objs.size f cdv))->sp vs H Q E->∃t,WH (bi CX P w K mg base N qual scope f cdv A outer s H E) body t/\t {nx:=λ_ H'=>Q .non H',rt:=Q} (SI N vs) H):
  Cm P w K mg base CX (k+1) f (LH name qual params body scope C kV doc pm an cdv ct) ps sp:=by
 refine⟨len,λA outer s H args us vs Q E B p m i R r h=>?_⟩;have M:=len _ _ _ _ h;have D:K.In s.heap:=i.mod.kin.keeps λb o e=>(i.bs b o e).1;have l:s.heap.NoLimit:=i.mod.nolimit.keeps λb o e=>(i.bs b o e).1;have c:∀y∈ps.zip us,scope.names.lookup y.1=some .local\/(scope.names.lookup y.1=some .cell/\((cellsFrom (s.heap.objs.size+1) scope.names []).lookup y.1).isSome=true):=λd F=>by
  obtain⟨n,v⟩:=d;rcases S.par n (List.of_mem_zip F).1 with q|q
  ·exact .inl q
  ·exact .inr ⟨q,PySem.W.cellsFrom_some _ _ _ (.inl q)⟩
 refine codeAny_call_function B.depth (D _ _ lk) rfl S.co S.gen rfl (PySem.W.codeRec_of D z) (R _ _ _ _ ?_);refine wpAny_newFunctionEnv_cells S.kind c λenv O s1 x=>?_;subst O;refine⟨l.keeps x.toInCall.keep,codeAny_func ?_⟩;obtain⟨t,G,L⟩:=g A outer s H vs Q E (B.deeper _) h;have I:CL (bi CX P w K mg base N qual scope f cdv A outer s H E) [] (SI N vs) H s1:=qX S p m i M r x;refine FK (G [] s1 (SI N vs) H _ I L) (λfl s' hs=>?_) λe s' hs=>hs;have fin:∀{a:St} {H':Hp} {v:V} {u:AY},CL (bi CX P w K mg base N qual scope f cdv A outer s H E) [] a H' s'->DA v u->Q v H'->CE outer P w H s Q u s':=λ{a H' v u} J j q=>⟨v,H',J.os,J.bare,J.base,J.hok,j,q⟩;cases fl with
 |ret u=>
  obtain⟨v,a,H',J,j,q⟩:=hs;exact fin J j q
 |next=>
  obtain⟨a,H',J,q⟩:=hs;exact fin (v:=V.non) (u:=CM) J rfl q
 |brk=>
  obtain⟨_,_,_,q⟩:=hs;exact CG q
 |cont=>
  obtain⟨_,_,_,q⟩:=hs;exact CG q
section
variable{X:Cx}{x:Bx}{p pos:Pos}{e:Expr}{es:List Expr}{t:TA}{id T:String}{r:List V->Hp->VK->Prop}
def tCB(r:List V->Hp->VK->Prop)(t:TA):TE:=λσ H Q=>t σ H λvs H1=>r vs H1 Q
theorem BJ(hc:IM X (.builtin id) r)(i:Gl X x)(hm:X.mg x=none)(g:CP x=some (.builtin id))(ha:PA X (e::es) t)(hn:x≠ "__name__":=by decide)(c: (x==("__debug__" :Bx))=false:=by decide)(j:Cn (e::es) X.env=(false,eval e X.env)::Cn es X.env:=by rfl)(b: (FL pos (Cn es X.env)).any (·.1)=false:=by rfl):PE X (.Call (.Name x p) (e::es) [] pos) (tCB r t):=by
 intro pZ s σ H Q I h;refine DD (MP I i hm g ?_ hn c);exact Kk (ES (ha pos pZ s σ H _ I h) λus s1 a=>(by obtain⟨vs,H1,k,d,f⟩:=a;exact hc pZ s1 σ H1 vs us Q k d f)) j b
theorem Gj(hc:IM X (.type T) r)(i:Gl X x)(hm:X.mg x=none)(g:CP x=some (.type T))(ha:PA X (e::es) t)(hn:x≠ "__name__":=by decide)(c: (x==("__debug__" :Bx))=false:=by decide)(j:Cn (e::es) X.env=(false,eval e X.env)::Cn es X.env:=by rfl)(b: (FL pos (Cn es X.env)).any (·.1)=false:=by rfl):PE X (.Call (.Name x p) (e::es) [] pos) (tCB r t):=by
 intro pZ s σ H Q I h;refine DD (MP I i hm g ?_ hn c);exact FI (ES (ha pos pZ s σ H _ I h) λus s1 a=>(by obtain⟨vs,H1,k,d,f⟩:=a;exact hc pZ s1 σ H1 vs us Q k d f)) j b
end
end L2
namespace HT
open PySem PyProof.Rows
def A0q:List Int->List Int->Bool
 |[],[]=>false
 |[],_::_=>true
 |_::_,[]=>false
 |x::xs,y::ys=>if x=y then A0q xs ys else decide (x<y)
section
open PySem.SeqAt
open PySem.AutoSeq1 (wpAny_loadPart')
open PySem.MeetsSeq PySem.MeetsSeq2 PySem.MeetsSeq3
end
section
variable{prog:BG}{w:Cs}{A:Do}{E:AY->Bf->Prop}{s:Bf}
def sIx(n d:Nat):Option Int->Nat
 |none=>d
 |some v=>if v<0 then (v+ (n:Int)).toNat else min v.toNat n
theorem sIx_nat(n d k:Nat):sIx n d (some (k:Int))=min k n:=by
 show(if (k:Int) <0 then ((k:Int) + (n:Int)).toNat else min (k:Int).toNat n)=min k n
 rw[A35 (by omega),Int.toNat_natCast]
end
end HT
namespace L2
open PySem PySem.Spec PyProof.Rows
abbrev TO:=St->Hp->(Option Int->Hp->Prop)->Prop
def PO(X:Cx)(e:Option Expr)(t:TO):Prop:=∀(pZ:List (Ba×Obj)) (s:Bf) (σ:St) (H:Hp) (Q:Option Int->Hp->Prop),CL X pZ σ H s->t σ H Q->Cc (model X.prog X.w) X.A (evalPart e X.env) (λu s'=>∃o H',CL X pZ σ H' s'/\IsPart u o/\Q o H') X.xe s
def xZ:TO:=λ_ H Q=>Q none H
def Y4(t:TE):TO:=λσ H Q=>t σ H λx H1=>∃i,x= .int i/\Q (some i) H1
theorem YG{ns:List Int}:∀{us:List AY},CQ (ns.map V.int) us->IntsAre us ns:=by
 induction ns with
 |nil=>intro us r;rw[Gs]at r;cases r;exact .nil
 |cons n ns c=>
  intro us r;rw[BV]at r;cases r with
  |cons b a=>
   obtain⟨t,e⟩:=b;subst e;exact .cons n t (c a)
section
variable{X:Cx}{e:Expr}{te:TE}{lo hi:Option Expr}{tl th:TO}{pos p2:Pos}
theorem Jb:PO X none xZ:=by
 intro pZ s σ H Q I h;rw[evalPart_none];exact BQ ⟨none,H,I,.none,h⟩
theorem Ja(h:PE X e te):PO X (some e) (Y4 te):=by
 intro pZ s σ H Q I hw;rw[evalPart_some];refine ES (h pZ s σ H _ I hw) λu s1 a=>?_;obtain⟨x,H1,d,b,c⟩:=a;obtain⟨i,rfl,q⟩:=c;obtain⟨t,rfl⟩:=b;exact⟨some i,H1,d,.int i t,q⟩
def SlR(X:Cx)(r:V->Option Int->Option Int->Hp->VK->Prop):Prop:=∀(pZ:List (Ba×Obj)) (s:Bf) (σ:St) (H:Hp) (x:V) (v b a:AY) (lo hi:Option Int) (sl:Ba) (Q:VK),CL X pZ σ H s->DA x v->s.heap.IsSliceOf sl b a .none->IsPart b lo->IsPart a hi->r x lo hi H Q->∃T id,typeLookup (.type T) "__getitem__"=pure (some (.builtin id))/\s.TypeIs v T/\Cc (model X.prog X.w) X.A (getItem v (.ref sl)) (EP X pZ σ Q) X.xe s
def tSl(r:V->Option Int->Option Int->Hp->VK->Prop)(te:TE)(tl th:TO):TE:=λσ H Q=>te σ H λx H1=>tl σ H1 λl H2=>th σ H2 λu a=>r x l u a Q
theorem HG{r:V->Option Int->Option Int->Hp->VK->Prop}(z:SlR X r)(D:PE X e te)(B:PO X lo tl)(t:PO X hi th):PE X (.Subscript e (.Slice lo hi none p2) pos) (tSl r te tl th):=by
 intro pZ s σ H Q I h;refine Subscript_ (ES (D pZ s σ H _ I h) λv s1 f=>?_);obtain⟨x,H1,K,k,o⟩:=f;refine wpAny_Slice (ES (B pZ s1 σ H1 _ K o) λi s2 d=>?_);obtain⟨l,H2,J,pl,n⟩:=d;refine ES (t pZ s2 σ H2 _ J n) λg a c=>?_;obtain⟨u,j,G,p,m⟩:=c;rw[evalPart_none];refine BQ ?_;have F:CL X pZ σ j {a with heap:=a.heap.push {cls:=.type "slice",data:=.fields #[i,g,.none]}}:=G.kept (t':=a.toks) λb ob q=>Bb _ q;obtain⟨T,id,E,y,C⟩:=z pZ {a with heap:=a.heap.push {cls:=.type "slice",data:=.fields #[i,g,.none]}} σ j x v i g l u a.heap.objs.size Q F k (Heap.IsSliceOf.new ..) pl p m;show Cc (model X.prog X.w) X.A (subscriptTail e (.Slice lo hi none p2) v (.ref a.heap.objs.size)) (EP X pZ σ Q) X.xe {a with heap:=a.heap.push {cls:=.type "slice",data:=.fields #[i,g,.none]}};exact tail_any (ops:=[.ref a.heap.objs.size,v]) y E C (by with_unfolding_all rfl)
def MR(xs:List V)(lo hi:Option Int):List V:=(xs.drop (HT.sIx xs.length 0 lo)).take (HT.sIx xs.length xs.length hi - HT.sIx xs.length 0 lo)
theorem jU(xs:List V)(lo hi:Option Int): (MR xs lo hi).length<=xs.length:=by
 unfold MR;rw[Bt,GX];omega
end
def vi(n:Nat)(i:Int):Option Nat:=if 0<=i then (if i<n then some i.toNat else none)else if -(n:Int)<=i then some (i+n).toNat else none
def bo{a:Type}(xs:List a)(i:Int):Option a:=(vi xs.length i).bind λj=>xs[j]?
theorem oX{n:Nat}{i:Int}{j:Nat}(h:vi n i=some j):seqIndex? i n=some j/\j<n/\ -(n:Int)<=i/\i<n:=by
 unfold vi at h;by_cases a:0<=i
 ·rw[A36 a]at h;by_cases h1:i<n
  ·rw[A36 h1]at h;have e:i.toNat=j:=AR h;exact⟨by rw[seqIndex_of a h1,e],by omega,by omega,h1⟩
  ·rw[A35 h1]at h;cases h
 ·rw[A35 a]at h;by_cases h1: -(n:Int)<=i
  ·rw[A36 h1]at h;have e: (i+n).toNat=j:=AR h;exact⟨by rw[seqIndex_neg (by omega) h1,e],by omega,h1,by omega⟩
  ·rw[A35 h1]at h;cases h
theorem gi{a:Type}{xs:List a}{i:Int}{v:a}(h:bo xs i=some v):∃j,seqIndex? i xs.length=some j/\xs[j]?=some v/\j<xs.length/\ -(xs.length:Int)<=i/\i<xs.length:=by
 unfold bo at h;cases e:vi xs.length i with
 |none=>rw[e]at h;cases h
 |some j=>
  rw[e]at h;obtain⟨h1,h2,h3,b⟩:=oX e;exact⟨j,h1,h,h2,h3,b⟩
theorem EK{a:Type}{xs:List a}{j:Nat}{v:a}(h:xs[j]?=some v):bo xs (j:Int)=some v:=by
 have b:j<xs.length:=(Bi.mp h).1;have e:vi xs.length (j:Int)=some j:=by
  unfold vi;rw[A36 (by omega),A36 (by omega)];simp
 unfold bo;rw[e];exact h
def zC(b:Expr):Prop:=∀o i,subscripted b false o i=operate [o,i] (getItem o i)
def IxR(X:Cx)(r:R2):Prop:=∀(value slice:Expr) (pZ:List (Ba×Obj)) (s:Bf) (σ:St) (H:Hp) (x y:V) (v u:AY) (Q:VK),CL X pZ σ H s->DA x v->DA y u->r x y H Q->subscripted slice false v u=operate [v,u] (getItem v u)->Cc (model X.prog X.w) X.A (subscriptTail value slice v u) (EP X pZ σ Q) X.xe s
def MtR(X:Cx)(id:String)(r:V->List V->Hp->VK->Prop):Prop:=∀(pZ:List (Ba×Obj)) (s:Bf) (σ:St) (H:Hp) (x:V) (xs:List V) (v:AY) (us:List AY) (Q:VK),CL X pZ σ H s->DA x v->CQ xs us->r x xs H Q->Cc (model X.prog X.w) X.A (call (.builtin id) (v::us)) (EP X pZ σ Q) X.xe s
section
variable{X:Cx}{a b:Expr}{ta tb:TE}{pos:Pos}
theorem Dp{r:R2}(e:IxR X r)(ha:PE X a ta)(f:PE X b tb)(hs:zC b):PE X (.Subscript a b pos) (tOp r ta tb):=by
 intro pZ s σ H Q I h;exact Subscript_ (U4 ha f I h λv u s2 x y H2 g d c q=>e a b pZ s2 σ H2 x y v u Q g d c q (hs _ _))
def A00(K:Be):R2:=λx y H Q=>∃p xs i v,x= .ref p/\y= .int i/\Dk K H p xs/\bo xs i=some v/\Q v H
def A1L(K:Be):R2:=λx y H Q=>∃p xs i v,x= .ref p/\y= .int i/\Hm K H p xs/\bo xs i=some v/\Q v H
def A1M:R2:=λx y H Q=>∃z i c,x= .str z/\y= .int i/\z.length<=sizeLine/\bo z.cps.toList i=some c/\Q (.str ⟨#[c]⟩) H
theorem Dz:IxR X (A00 X.K):=by
 intro value slice pZ s σ H x y v u Q I g f h hs;obtain⟨p,xs,i,z,rfl,rfl,k,m,q⟩:=h;cases g;obtain⟨t,rfl⟩:=f;obtain⟨b,r,pl,A⟩:=I.list k;obtain⟨j,h1,h2,h3,o,n⟩:=gi m;obtain⟨w,e,a⟩:=r.get h2;have l:=r.length;have hn:=UI;have fin:EP X pZ σ Q w s:=⟨z,H,I,a,q⟩;by_cases d:0<=i
 ·have c:i.toNat=j:=by
   rw[seqIndex_of d n]at h1;exact AR h1
  exact item_listR pl.isList d (by omega) (by rw[c];simpa using e) fin hs
 ·have c: (i+ (b.toArray.size:Int)).toNat=j:=by
   rw[seqIndex_neg (by omega) o]at h1;rw[BY,<-l];exact AR h1
  exact subscriptTail_builtinR (x:=w) pl.isList.typeIs slot_list_getitem.lookup (wpAny_getItem_list_neg (Q:=λr s'=>r=w/\EP X pZ σ Q r s') pl.isList (by omega) (by rw[BY] <;> omega) (by omega) (by rw[c];simpa using e) ⟨rfl,fin⟩) hs
theorem Ft:IxR X (A1L X.K):=by
 intro value slice pZ s σ H x y v u Q I c b h hs;obtain⟨p,xs,i,z,rfl,rfl,e,g,q⟩:=h;cases c;obtain⟨t,rfl⟩:=b;obtain⟨d,r,pl,l⟩:=I.tuple e;obtain⟨j,h1,h2,h3,n,m⟩:=gi g;obtain⟨w,k,a⟩:=r.get h2;have f:=r.length;have hn:=UI;have fin:EP X pZ σ Q w s:=⟨z,H,I,a,q⟩;exact subscriptTail_builtinR (x:=w) pl.typeIs slot_tuple_getitem.lookup (getItem_tuple (j:=j) (Q:=λr s'=>r=w/\EP X pZ σ Q r s') pl (by omega) (by omega) (by rw[BY,<-f];exact h1) (by simpa using k) ⟨rfl,fin⟩) hs
theorem fS:IxR X A1M:=by
 intro value slice pZ s σ H x y v u Q I b a h hs;obtain⟨z,i,c,rfl,rfl,m,e,q⟩:=h;obtain⟨t,rfl⟩:=b;obtain⟨t',rfl⟩:=a;obtain⟨j,h1,h2,h3,g,f⟩:=gi e;have d:z.cps.toList.length=z.length:=by simp[Str.length]
 rw[d]at h1 g f;have hn:=UI;exact tail_any (typeIs_str s z t) slot_str_getitem.lookup (getItem_str (c:=c) (by
  have l:decide (i< -(2 ^ 63:Int))=false:=A33 (by omega);have k:decide (i>=2 ^ 63)=false:=A33 (by omega);rw[l,k,Bool.or_false]) (by rw[h1];simpa using h2) ⟨.str ⟨#[c]⟩,H,I.tok _,⟨_,rfl⟩,q⟩) hs
theorem mv(a:List AY)(n j:Nat)(u:AY):FM (·.setIfInBounds j u) {cls:=.type "list",data:=.seq a.toArray n}={cls:=.type "list",data:=.seq (a.set j u).toArray n}:=by
 simp[FM]
theorem CL.lst{pZ:List (Ba×Obj)}{σ:St}{H:Hp}{s:Bf}{p:Ba}{xs:List V}(I:CL X pZ σ H s)(h:H p=some (.lst xs)):
  ∃(a:List AY) (n:Nat),CQ xs a/\s.heap.get? p=some {cls:=.type "list",data:=.seq a.toArray n}/\xs.length<=sizeLine:=by
 obtain⟨z,a,n,r,e⟩:=I.hok p _ h;exact⟨a,n,r,e,z⟩
theorem CL.lstUpd{pZ:List (Ba×Obj)}{σ:St}{H:Hp}{s:Bf}{p:Ba}{xs ys:List V}{a its':List AY}{n c:Nat}{f:Obj->Obj}(I:CL X pZ σ H s)(h:H p=some (.lst xs))(i:s.heap.get? p=some {cls:=.type "list",data:=.seq a.toArray n})(d:f {cls:=.type "list",data:=.seq a.toArray n}={cls:=.type "list",data:=.seq its'.toArray c})(r:CQ ys its')(g:ys.length<=sizeLine)(t:Nat):
  CL X pZ σ (upd H p (.lst ys)) {s with heap:=s.heap.update p f,toks:=t}:=by
 have e: (s.heap.update p f).get? p=some {cls:=.type "list",data:=.seq its'.toArray c}:=by
  rw[Gw f i (by rw[d] <;> rfl),d]
 refine I.write (x:=p) (e:=p) (by rw[h];trivial) (.inl rfl) (λb u j q=>(DV _ _ (DP j)).trans q) ⟨_,e⟩ ?_;exact⟨g,its',c,r,e⟩
def y3:V->V->V->Hp->(Hp->Prop)->Prop:=λo i v H Q=>∃p xs k j,o= .ref p/\i= .int k/\H p=some (.lst xs)/\vi xs.length k=some j/\Q (upd H p (.lst (xs.set j v)))
theorem iT:A11 X y3:=by
 intro pZ s σ H o i v A iv u Q I w x m h;obtain⟨p,xs,k,j,rfl,rfl,e,z,q⟩:=h;cases w;obtain⟨t,rfl⟩:=x;obtain⟨a,n,r,b,y⟩:=I.lst e;obtain⟨h1,h2,h3,f⟩:=oX z;have c:=r.length;have hn:=UI;have l:CL X pZ σ (upd H p (.lst (xs.set j v))) {s with heap:=s.heap.update p (FM (·.setIfInBounds j u))}:=I.lstUpd e b (mv a n j u) (r.set m j) (by rw[List.length_set];exact y) s.toks;by_cases g:0<=k
 ·have d:k.toNat=j:=by
   rw[seqIndex_of g f]at h1;exact AR h1
  exact PySem.W.ki_setAt b g (by omega) (by rw[BY,<-c];exact f) (by rw[d];exact⟨_,l,q⟩)
 ·have d: (k+ (a.toArray.size:Int)).toNat=j:=by
   rw[seqIndex_neg (by omega) h3]at h1;rw[BY,<-c];exact AR h1
  exact PySem.W.ki_setBack b (by omega) (by rw[BY,<-c];exact h3) (by omega) (by rw[d];exact⟨_,l,q⟩)
theorem ft(lo hi:Option Int)(n:Nat): (Mh lo hi none n).1=((HT.sIx n 0 lo:Nat):Int)/\(Mh lo hi none n).2.1=((HT.sIx n n hi:Nat):Int)/\(Mh lo hi none n).2.2=1:=by
 refine⟨?_,?_,rfl⟩
 ·cases lo with
  |none=>simp[Mh,HT.sIx]
  |some i=>
   simp only[Mh,HT.sIx,Option.getD_none,show(1:Int) >0 by decide,if_true];by_cases h:i<0
   ·simp only[h,if_true] <;> omega
   ·simp only[h,if_false] <;> omega
 ·cases hi with
  |none=>simp[Mh,HT.sIx]
  |some i=>
   simp only[Mh,HT.sIx,Option.getD_none,show(1:Int) >0 by decide,if_true];by_cases h:i<0
   ·simp only[h,if_true] <;> omega
   ·simp only[h,if_false] <;> omega
theorem aH(a:List AY)(lo hi:Option Int):slicePick a.toArray lo hi none=((a.drop (HT.sIx a.length 0 lo)).take (HT.sIx a.length a.length hi - HT.sIx a.length 0 lo)).toArray:=by
 obtain⟨h1,h2,h3⟩:=ft lo hi a.toArray.size;unfold slicePick;rw[h1,h2,h3];simp only[sliceRange_one,pick_run,BY] <;> rfl
def A1I(K:Be):V->Option Int->Option Int->Hp->VK->Prop:=λx lo hi H Q=>∃a xs,x= .ref a/\Dk K H a xs/\∀p,H p=none->Q (.ref p) (upd H p (.lst (MR xs lo hi)))
theorem Pg:SlR X (A1I X.K):=by
 intro pZ s σ H x v l k lo hi sl Q I e hs pl f h;obtain⟨a,xs,rfl,j,q⟩:=h;cases e;obtain⟨g,r,d,i⟩:=I.list j;have c:=r.length;refine⟨"list",_,slot_list_getitem.lookup,d.isList.typeIs,?_⟩;refine wpAny_getItem_list_slice d.isList hs pl f .none (by simp) ?_ (by rw[BY] <;> omega);rw[aH,<-c];refine⟨.ref s.heap.objs.size,_,I.laid (t':=s.toks) (o:=.lst (MR xs lo hi)) (λb ob q=>Bb _ q) (Bv _) ?_,rfl,q _ (I.hok.fresh (Bv _))⟩;exact⟨BF (jU xs lo hi) i,_,0,(r.drop (HT.sIx xs.length 0 lo)).take (HT.sIx xs.length xs.length hi - HT.sIx xs.length 0 lo),Ca _ rfl⟩
def OD:V->Bool
 |.non=>true
 |.bl _=>true
 |.int _=>true
 |.str _=>true
 |_=>false
def zp:V->V->Bool
 |.non,.non=>true
 |.bl a,.bl b=>a==b
 |.bl a,.int b=>(if a then 1 else 0)==b
 |.int a,.bl b=>a==(if b then 1 else 0)
 |.int a,.int b=>a==b
 |.str a,.str b=>a==b
 |_,_=>false
theorem T7{A:Do}{s:Bf}{y x:V}{u v:AY}(d:DA y u)(c:DA x v)(e:OD y=true)(fx:OD x=true):SeqAt.EqAt A s u v (zp y x):=by
 cases y with
 |non=>
  cases d;cases x with
  |non=>cases c;exact SeqAt.EqAt.same _
  |bl b=>cases c;exact SeqAt.EqAt.none_bool b
  |int b=>obtain⟨t,rfl⟩:=c;exact SeqAt.EqAt.none_int b t
  |str b=>obtain⟨t,rfl⟩:=c;exact SeqAt.EqAt.none_str b t
  |_=>exact A38 (show false=true from fx) BL
 |bl a=>
  cases d;cases x with
  |non=>cases c;exact SeqAt.EqAt.bool_none a
  |bl b=>cases c;exact SeqAt.EqAt.bool_bool a b
  |int b=>obtain⟨t,rfl⟩:=c;exact SeqAt.EqAt.bool_int a b t
  |str b=>obtain⟨t,rfl⟩:=c;exact SeqAt.EqAt.bool_str a b t
  |_=>exact A38 (show false=true from fx) BL
 |int a=>
  obtain⟨t',rfl⟩:=d;cases x with
  |non=>cases c;exact SeqAt.EqAt.int_none a t'
  |bl b=>cases c;exact SeqAt.EqAt.int_bool a t' b
  |int b=>obtain⟨t,rfl⟩:=c;exact SeqAt.EqAt.int_int a t' b t
  |str b=>obtain⟨t,rfl⟩:=c;exact SeqAt.EqAt.int_str a t' b t
  |_=>exact A38 (show false=true from fx) BL
 |str a=>
  obtain⟨t',rfl⟩:=d;cases x with
  |non=>cases c;exact SeqAt.EqAt.str_none a t'
  |bl b=>cases c;exact SeqAt.EqAt.str_bool a t' b
  |int b=>obtain⟨t,rfl⟩:=c;exact SeqAt.EqAt.str_int a t' b t
  |str b=>obtain⟨t,rfl⟩:=c;exact SeqAt.EqAt.str_str a t' b t
  |_=>exact A38 (show false=true from fx) BL
 |_=>exact A38 (show false=true from e) BL
def mI(x:V)(u:AY):Bool:=match u with
 |.none=>zp .non x
 |.bool b=>zp (.bl b) x
 |.int i _=>zp (.int i) x
 |.str z _=>zp (.str z) x
 |_=>false
theorem vx{x y:V}{u:AY}(r:DA y u)(f:OD y=true):mI x u=zp y x:=by
 cases y with
 |non=>cases r;rfl
 |bl b=>cases r;rfl
 |int i=>obtain⟨t,rfl⟩:=r;rfl
 |str z=>obtain⟨t,rfl⟩:=r;rfl
 |_=>exact A38 (show false=true from f) BL
theorem TM{x:V}:∀{xs:List V} {us:List AY},CQ xs us->xs.all OD=true->us.any (mI x)=xs.any λy=>zp y x
 |_,_,.nil,_=>rfl
 |y::xs,u::us,.cons r t,f=>by
  rw[HN,BZ]at f;rw[Jk,Jk,vx r f.1,TM t f.2]
theorem Oy{A:Do}{s:Bf}{x:V}{v:AY}(b:DA x v)(fx:OD x=true):∀{xs:List V} {us:List AY},CQ xs us->xs.all OD=true->∀u∈us,SeqAt.EqAt A s u v (mI x u)
 |_,_,.nil,_=>λu a=>by cases a
 |y::xs,u::us,.cons r t,f=>λc a=>by
  rw[HN,BZ]at f;rcases BK.mp a with rfl|a
  ·rw[vx r f.1];exact T7 r b f.1 fx
  ·exact Oy b fx t f.2 c a
def kr(x:V)(xs:List V):Bool:=xs.any λy=>zp y x
def rIn(K:Be)(neg:Bool):R2:=λx y H Q=>∃p xs,y= .ref p/\(Dk K H p xs\/Hm K H p xs)/\OD x=true/\xs.all OD=true/\Q (.bl (if neg then !kr x xs else kr x xs)) H
theorem Hj:Ny X (EE .In) (rIn X.K false):=by
 intro pZ s σ H x y v u Q I c d h;obtain⟨p,xs,rfl,b,fx,fs,q⟩:=h;cases d;rcases b with b|b
 ·obtain⟨a,r,pl,e⟩:=I.list b;refine SeqAt.in_listAt (mI x) pl.isList (λw hw=>Oy c fx r fs w (by simpa using hw)) ⟨.bl _,H,I,rfl,?_⟩;rw[show a.toArray.any (mI x)=a.any (mI x)by simp,TM r fs];exact q
 ·obtain⟨a,r,pl,e⟩:=I.tuple b;refine SeqAt.in_tupleAt (mI x) pl (λw hw=>Oy c fx r fs w (by simpa using hw)) ⟨.bl _,H,I,rfl,?_⟩;rw[show a.toArray.any (mI x)=a.any (mI x)by simp,TM r fs];exact q
theorem Tj:Ny X (EE .NotIn) (rIn X.K true):=by
 intro pZ s σ H x y v u Q I c d h;obtain⟨p,xs,rfl,b,fx,fs,q⟩:=h;cases d;rcases b with b|b
 ·obtain⟨a,r,pl,e⟩:=I.list b;refine SeqAt.notIn_listAt (mI x) pl.isList (λw hw=>Oy c fx r fs w (by simpa using hw)) ⟨.bl _,H,I,rfl,?_⟩;rw[show a.toArray.any (mI x)=a.any (mI x)by simp,TM r fs];exact q
 ·obtain⟨a,r,pl,e⟩:=I.tuple b;refine SeqAt.notIn_tupleAt (mI x) pl (λw hw=>Oy c fx r fs w (by simpa using hw)) ⟨.bl _,H,I,rfl,?_⟩;rw[show a.toArray.any (mI x)=a.any (mI x)by simp,TM r fs];exact q
theorem Dg:IM X (.builtin "len") (λxs H Q=>∃p ys,xs=[.ref p]/\(Dk X.K H p ys\/Hm X.K H p ys)/\Q (.int ys.length) H):=by
 intro pZ s σ H xs us Q I r h;obtain⟨p,ys,rfl,b,q⟩:=h;obtain⟨u,rfl,e⟩:=Ni r;cases e;have hn:=UI;rcases b with b|b
 ·obtain⟨d,c,pl,f⟩:=I.list b;have a:=c.length;exact Calls.call_len_list pl.isList (by simp only[BY] <;> omega) ⟨.int ys.length,H,I.tok _,⟨s.toks+1,by rw[BY,a]⟩,q⟩
 ·obtain⟨d,c,pl,f⟩:=I.tuple b;have a:=c.length;exact len_tuple pl (by simp only[BY] <;> omega) ⟨.int ys.length,H,I.tok _,⟨s.toks+1,by rw[BY,a]⟩,q⟩
theorem MS:IM X (.builtin "len") (λxs H Q=>∃z,xs=[.str z]/\z.length<=sizeLine/\Q (.int z.length) H):=by
 intro pZ s σ H xs us Q I r h;obtain⟨z,rfl,a,q⟩:=h;obtain⟨u,rfl,t,rfl⟩:=Ni r;have hn:=UI;exact len_str (by omega) ⟨.int z.length,H,I.tok _,⟨_,rfl⟩,q⟩
theorem FW:IM X (.type "list") (λxs H Q=>∃p ys,xs=[.ref p]/\(Dk X.K H p ys\/Hm X.K H p ys)/\∀l,H l=none->Q (.ref l) (upd H l (.lst ys))):=by
 intro pZ s σ H xs us Q I r h;obtain⟨p,ys,rfl,g,q⟩:=h;obtain⟨u,rfl,k⟩:=Ni r;cases k;have fin:∀(a:List AY),CQ ys a->ys.length<=sizeLine->∀(h':CO) (d:Nat),(∀b o',s.heap.get? b=some o'->h'.get? b=some o')->h'.get? s.heap.objs.size=some {cls:=.type "list",dict:=none,data:=.seq a.toArray d,slots:=#[]}->EP X pZ σ Q (.ref s.heap.objs.size) {s with heap:=h'}:=λa c f h' d kp e=>
  ⟨.ref s.heap.objs.size,_,I.laid (t':=s.toks) kp (Bv _) (show DH X.prog X.w _ h' _ (.lst ys)from⟨f,a,d,c,e⟩),rfl,q _ (I.hok.fresh (Bv _))⟩
 rcases g with g|g
 ·obtain⟨a,c,pl,f⟩:=I.list g;have i:=c.length;obtain⟨o,j,hc,n,hd⟩:=pl.isList;exact call_list_seq p (.inl rfl) j hc hd (λh' d kp e=>fin a c f h' d kp e) (by simp only[BY] <;> omega)
 ·obtain⟨a,c,pl,f⟩:=I.tuple g;have i:=c.length;obtain⟨o,j,hc,n,hd⟩:=pl;exact call_list_seq p (.inr rfl) j hc hd (λh' d kp e=>fin a c f h' d kp e) (by simp only[BY] <;> omega)
theorem bj:IM X (.type "tuple") (λxs H Q=>∃p ys,xs=[.ref p]/\((Dk X.K H p ys/\∀l,H l=none->Q (.ref l) (upd H l (.tup ys)))\/(Hm X.K H p ys/\Q (.ref p) H))):=by
 intro pZ s σ H xs us Q I r h;obtain⟨p,ys,rfl,h⟩:=h;obtain⟨u,rfl,j⟩:=Ni r;cases j;rcases h with⟨d,q⟩|⟨d,q⟩
 ·obtain⟨a,c,pl,f⟩:=I.list d;have g:=c.length;refine call_tuple_list pl.isList (λh' kp=>?_) (by simp only[BY] <;> omega);have i:CL X pZ σ H {s with heap:=h'}:=I.kept (t':=s.toks) kp;have k:CL X pZ σ (upd H h'.objs.size (.tup ys)) {s with heap:=h'.push {cls:=.type "tuple",data:=.seq a.toArray}}:=i.laid (t':=s.toks) (λb o e=>Bb _ e) (Bv _) (show DH X.prog X.w _ _ _ (.tup ys)from⟨f,a,c,IsTup.new _ _⟩);exact⟨.ref h'.objs.size,_,k,rfl,q _ (i.hok.fresh (Bv _))⟩
 ·obtain⟨a,c,pl,f⟩:=I.tuple d;exact call_tuple_same pl ⟨.ref p,H,I,rfl,q⟩
def tyV(K:Be)(T:String)(x:V)(H:Hp):Prop:=match x with
 |.str _=>T="str"
 |.int _=>T="int"
 |.ref p=>(T="list" /\∃xs,Dk K H p xs)\/(T="tuple" /\∃o,K.lookup p=some o/\o.cls= .type "tuple" /\o.dict=none)\/(T="dict" /\((∃kvs,H p=some (.dK kvs))\/∃kvs,H p=some (.dT kvs)))\/(T="set" /\∃S n,H p=some (.set S n))
 |_=>False
theorem L9{pZ:List (Ba×Obj)}{σ:St}{H:Hp}{s:Bf}{T:String}{x:V}{v:AY}(I:CL X pZ σ H s)(r:DA x v)(ty:tyV X.K T x H):
  s.TypeIs v T/\∀a,v= .ref a->∃ob,s.heap.get? a=some ob/\ob.dict=none:=by
 cases x with
 |str z=>
  obtain⟨t,rfl⟩:=r;cases (show T="str" from ty);exact⟨typeIs_str s z t,λ_ e=>nomatch e⟩
 |int i=>
  obtain⟨t,rfl⟩:=r;cases (show T="int" from ty);exact⟨typeIs_int s i t,λ_ e=>nomatch e⟩
 |ref p=>
  cases r;rcases ty with⟨rfl,xs,g⟩|⟨rfl,o,b,hc,hd⟩|⟨rfl,b⟩|⟨rfl,S,n,b⟩
  ·obtain⟨f,_,pl,_⟩:=I.list g;refine⟨pl.isList.typeIs,λa e=>?_⟩;cases e;obtain⟨o,n,e,c,hd,_⟩:=pl;exact⟨o,e,hd⟩
  ·refine⟨⟨o,I.kIn p o b,hc⟩,λa e=>?_⟩;cases e;exact⟨o,I.kIn _ o b,hd⟩
  ·have z:∃o,s.heap.get? p=some o/\o.ExactDict:=by
    rcases b with⟨kvs,b⟩|⟨kvs,b⟩
    ·obtain⟨_,_,_,_,o,_,_,e,ex,_⟩:=I.hok p _ b;exact⟨o,e,ex⟩
    ·obtain⟨_,_,_,_,o,_,_,e,ex,_⟩:=I.hok p _ b;exact⟨o,e,ex⟩
   obtain⟨o,e,ex⟩:=z;refine⟨⟨o,e,ex.1⟩,λa d=>?_⟩;cases d;exact⟨o,e,ex.2.1⟩
  ·obtain⟨o,_,_,_,e,ex,_⟩:=I.hok p _ b;refine⟨⟨o,e,ex.1⟩,λa d=>?_⟩;cases d;exact⟨o,e,ex.2.1⟩
 |_=>exact CG ty
def tBM(K:Be)(T:String)(r:V->List V->Hp->VK->Prop)(to:TE)(t:TA):TE:=λσ H Q=>to σ H λx H1=>tyV K T x H1/\t σ H1 λxs H2=>r x xs H2 Q
variable{o e:Expr}{es:List Expr}{to:TE}{t:TA}{name:Bx}{apos cpos:Pos}{T id:String}{r:V->List V->Hp->VK->Prop}
theorem QA(q:PlainAttrs T)(slot:Slot T name id)(i:typeOf (.builtin id)=pure (.type "method_descriptor"))(hm:MtR X id r)(u:PE X o to)(ha:PA X (e::es) t)(f:Iy o name X.env (eval o X.env)=eval o X.env:=by rfl)(g: ((FL cpos (Cn (e::es) X.env)).all (λx=>!x.1) && (backToKw cpos (JY [] X.env)).all (λx=>x.1.isSome)
   &&decide ((e::es).length+ ([]:List Keyword).length+ (if ([]:List Keyword).isEmpty then 0 else 1) <30))=true:=by rfl)
  (b: (apos.endLine==cpos.line)=true:=by rfl)(hs:Cn (e::es) X.env=(false,eval e X.env)::Cn es X.env:=by rfl)(a: (FL cpos (Cn es X.env)).any (·.1)=false:=by rfl):
  PE X (.Call (.Attribute o name apos) (e::es) [] cpos) (tBM X.K T r to t):=by
 intro pZ s σ H Q I h;refine wpAny_Call_method_late f g b rfl (ES (u pZ s σ H _ I h) λv s1 d=>?_);obtain⟨x,H1,l,j,ty,p⟩:=d;obtain⟨h1,h2⟩:=L9 l j ty;refine⟨T,id,q,slot,i,h1,h2,?_⟩;have k:=ha cpos pZ s1 σ H1 _ l p;rw[hs]at k ⊢;refine Calls.callWith_builtin (by show(false|| (FL cpos (Cn es X.env)).any (·.1))=false;rw[a] <;> rfl) (YZ ?_);exact ES k λus s2 c=>(by obtain⟨vs,H2,w,m,n⟩:=c;exact hm pZ s2 σ H2 x vs v us Q w j m n)
end
def MtM(X:Cx)(id:String)(r:V->List V->Hp->VK->Prop):Prop:=∀(pZ:List (Ba×Obj)) (s:Bf) (σ:St) (H:Hp) (x:V) (xs:List V) (v:AY) (us:List AY) (Q:VK),CL X pZ σ H s->DA x v->CQ xs us->r x xs H Q->Cc (model X.prog X.w) X.A (call (.builtin id) (v::us)) (EP X pZ σ Q) X.xe s
theorem CQ.one:∀{x:V} {us:List AY},CQ [x] us->∃u,us=[u]/\DA x u:=λh=>by
 cases h with
 |cons r t=>cases t;exact⟨_,rfl,r⟩
theorem CQ.two:∀{x y:V} {us:List AY},CQ [x,y] us->∃u v,us=[u,v]/\DA x u/\DA y v:=λh=>by
 cases h with
 |cons r t=>
  cases t with
  |cons q t=>cases t;exact⟨_,_,rfl,r,q⟩
theorem CQ.rep{xs:List V}{us:List AY}(h:CQ xs us):∀k:Nat,CQ (CI k xs).flatten (CI k us).flatten
 |0=>.nil
 |k+1=>by
  rw[IR,IR,Ik,Ik];exact CQ.append h (CQ.rep h k)
theorem cq(a:List AY):∀(k:Nat) (b:List AY),List.foldl (λd c=>d++c) b.toArray (CI k a.toArray)=(b++ (CI k a).flatten).toArray
 |0,b=>by simp
 |k+1,b=>by
  have e:b.toArray++a.toArray=(b++a).toArray:=by simp
  have f: (b++a) ++ (CI k a).flatten=b++ (CI (k+1) a).flatten:=by
   rw[IR,Ik,Gu]
  rw[<-f,<-cq a k (b++a),<-e,IR,List.foldl_cons]
section
variable{X:Cx}{pZ:List (Ba×Obj)}{σ:St}{H:Hp}{s:Bf}{l b:Ba}{xs ys zs:List V}
theorem CL.lset{a its':List AY}{n:Nat}{f:Array AY->Array AY}{t':Nat}(I:CL X pZ σ H s)(i:H l=some (.lst xs))(e:s.heap.get? l=some {cls:=.type "list",data:=.seq a.toArray n})(g:f a.toArray=its'.toArray)(c:CQ ys its')(b:ys.length<=sizeLine):
  CL X pZ σ (upd H l (.lst ys)) {s with heap:=s.heap.update l (FM f),toks:=t'}:=by
 have q:=PySem.IsL.update e f;rw[g]at q;refine I.write (x:=l) (e:=l) (by rw[i];exact trivial) (.inl rfl) (λj u h d=>(DV s.heap (FM f) (DP h)).trans d) ⟨_,q⟩ ?_;exact⟨b,its',_,c,q⟩
theorem CL.lnew{a:List AY}{t':Nat}(I:CL X pZ σ H s)(c:CQ ys a)(b:ys.length<=sizeLine):
  CL X pZ σ (upd H s.heap.objs.size (.lst ys)) {s with heap:=s.heap.push {cls:=.type "list",data:=.seq a.toArray},toks:=t'}:=I.laid (λ_ _ q=>Bb _ q) (Bv _) ⟨b,a,0,c,Ca _ rfl⟩
theorem CL.fresh(I:CL X pZ σ H s):H s.heap.objs.size=none:=I.hok.fresh (Bv _)
theorem CL.lstM(I:CL X pZ σ H s)(b:H l=some (.lst xs)):xs.length<=sizeLine/\∃(a:List AY) (n:Nat),CQ xs a/\xs.length=a.length/\s.heap.get? l=some {cls:=.type "list",data:=.seq a.toArray n}:=by
 obtain⟨z,a,n,r,e⟩:=I.hok l _ b;exact⟨z,a,n,r,r.length,e⟩
theorem uX{n:Nat}(h:n<=sizeLine):Rw n=false:=by
 unfold Rw;exact A33 (by omega)
end
section
variable{X:Cx}
def yu:V->List V->Hp->VK->Prop:=λx vs H Q=>∃l xs y,x= .ref l/\vs=[y]/\H l=some (.lst xs)/\xs.length<sizeLine/\Q .non (upd H l (.lst (xs++[y])))
theorem IJ:MtM X "list.append" yu:=by
 intro pZ s σ H x vs v us Q I c d h;obtain⟨l,xs,y,rfl,rfl,b,g,q⟩:=h;cases c;obtain⟨u,rfl,f⟩:=d.one;obtain⟨z,a,n,r,i,e⟩:=I.lstM b;refine call_meets F.slot_list_append ⟨_,e,rfl⟩ F.entry_list_append (F.args_list_append_2 _ _) (PySem.list_append l a.toArray n u (by rw[BY];omega)) ⟨e,?_⟩;refine⟨.non,_,I.lset (its':=a++[u]) b e (by simp) (r.append (.cons f .nil)) ?_,rfl,q⟩;rw[Bh,List.length_singleton];omega
def A01:R2:=λx y H Q=>∃l b xs zs,x= .ref l/\y= .ref b/\H l=some (.lst xs)/\H b=some (.lst zs)/\xs.length+zs.length<=sizeLine/\∀p,H p=none->Q (.ref p) (upd H p (.lst (xs++zs)))
theorem Hl:Ny X (Mi .Add) A01:=by
 intro pZ s σ H x y v u Q I f d h;obtain⟨l,b,xs,zs,rfl,rfl,j,k,t,q⟩:=h;cases f;cases d;obtain⟨z,c,n,r,w,e⟩:=I.lstM j;obtain⟨p,a,n2,g,i,o⟩:=I.lstM k;refine PySem.P.add_list e o ?_ (by rw[BY,BY];omega);have m:c.toArray++a.toArray=(c++a).toArray:=by simp
 rw[m];exact⟨.ref _,_,I.lnew (t':=s.toks) (r.append g) (by rw[Bh];omega),rfl,q _ I.fresh⟩
def A1J:R2:=λx y H Q=>∃l k xs,x= .ref l/\y= .int k/\H l=some (.lst xs)/\ -(2 ^ 63)<=k/\k<2 ^ 63/\xs.length*k.toNat<=sizeLine/\∀p,H p=none->Q (.ref p) (upd H p (.lst (CI k.toNat xs).flatten))
theorem oU{a:Type}(xs:List a)(k:Nat): (CI k xs).flatten.length=k*xs.length:=by
 induction k with
 |zero=>simp
 |succ k b=>rw[IR,Ik,Bh,b,Nat.succ_mul,Nat.add_comm]
theorem P1:Ny X (Mi .Mult) A1J:=by
 intro pZ s σ H x y v u Q I A w h;obtain⟨l,k,xs,rfl,rfl,C,h1,h2,p,q⟩:=h;cases A;obtain⟨t,rfl⟩:=w;obtain⟨z,b,n,r,B,e⟩:=I.lstM C;have f:b.toArray.size*k.toNat<=sizeLine:=by rw[BY,<-B];exact p
 have i:¬b.toArray.size*k.toNat> (2 ^ 63 - 1) /8:=by
  have: (sizeLine:Nat)<= (2 ^ 63 - 1) /8:=by decide
  omega
 have g:¬ (!Builtin.List.listFitsIndex k)=true:=by
  rw[fitsIndex_both h1 h2];exact BL
 have c:¬Rw (b.toArray.size*k.toNat)=true:=by
  rw[uX f];exact BL
 have d:List.foldl (λo j=>o++j) #[] (CI (if b.toArray.isEmpty=true then 0 else k.toNat) b.toArray)=(CI k.toNat b).flatten.toArray:=by
  have D:∀m:Nat,List.foldl (λo j=>o++j) #[] (CI m b.toArray)=(CI m b).flatten.toArray:=λm=>by
   have:=cq b m [];rw[EW]at this;exact this
  rw[D];cases b with
  |nil=>simp
  |cons a E=>rw[A35 (by simp)]
 refine wpAny_binaryOp_repeat_ref (T:="list") (U:="int") Aa ⟨_,e,rfl⟩ (λs'=>typeIs_int s' k t) noFill_list_mul F.fills_int_mul F.slot_int_rmul repeat_list F.slot_int_index.lookup (call_meets F.slot_int_rmul (typeIs_int s k t) F.entry_int_rmul (F.args_int_rmul_2 _ _) (int___rmul___int_list k t l b.toArray n) ⟨e,rfl,⟨_,e,rfl⟩,call_meets F.slot_list_mul ⟨_,e,rfl⟩ F.entry_list_mul (F.args_list_mul_2 _ _) (AutoListH.list___mul___list_int_3 l b.toArray n k t g i c) ⟨e,?_⟩⟩);rw[d];exact⟨.ref _,_,I.lnew (t':=s.toks) (r.rep k.toNat) (by rw[oU,Nat.mul_comm];exact p),rfl,q _ I.fresh⟩
end
section
variable{prog:BG}{w:Cs}{A:Do}{E:AY->Bf->Prop}{s:Bf}
end
section
variable{X:Cx}
end
end L2
namespace Att
open PySem PySem.W PySem.Calls PyProof.Rows
theorem Wo{P:UX}{h:CO}:∀(ns:List Int) (vs:List AY),WellAll P h vs (ns.map WData.int)->IntsAre vs ns:=by
 intro ns;induction ns with
 |nil=>
  intro vs w;rw[Gs]at w;cases w;exact .nil
 |cons n ns c=>
  intro vs w;rw[BV]at w;cases w with
  |cons a b=>
   cases a;exact .cons _ _ (c _ b)
theorem qB{l:OpenLaw}{n:Nat}(hn:l.most=some n){P:UX}{h:CO}{args:List WData}{b:List AY}(Tv:l.row.toRowW.claim.pre args=true)(hwl:WellAll P h b args):
  ∃a vs ns,b=[Value.ref a]/\args=[WData.list (ns.map WData.int)]/\h.get? a=some {cls:=.type "list",data:=.seq vs.toArray}/\IntsAre vs ns/\ns.length<=n:=by
 have i:WShape.hasAll [] args [.list .int]=true:=(pre_splitW Tv).1;have hc:l.pre.holds [] {args:=args}=true:=(pre_splitW Tv).2;obtain⟨d,r,rfl,h1,h2⟩:=hasAllW_cons i;obtain rfl:=hasAllW_nil h2;obtain⟨xs,rfl,h3⟩:=hasW_list h1;obtain⟨ns,rfl⟩:=items_int h3;have c:ns.length<=n:=by
  unfold OpenLaw.pre at hc;have g: (WTm.not (.lt (.lit (.int (n:Int))) (.len (.arg 0)))).holds [] {args:=[.list (ns.map .int)]}=true:=by
   have g:=(holds_andW hc).1;rw[hn]at g;exact g
  have f:=condW_of g (w_not (w_lt w_lit (w_len_list (w_arg rfl))));rw[AV]at f;refine Nat.le_of_not_lt λq=>?_;have j: (n:Int) < ((ns.length:Nat):Int):=by omega
  first
   |(rw[A32 j]at f;exact A38 f Aa)
   |(simp at f;omega)
 cases hwl with
 |cons w1 w2=>
  cases w2;cases w1 with
  |list k e=>exact⟨_,_,ns,rfl,rfl,k,Wo ns _ e,c⟩
theorem qD(l:OpenLaw)(args:List WData):l.row.toRowW.claim.post args (.bool true) args=true:=postW_of (r:=l.row.toRowW) (X:=(true==true)) (show WShape.has [] (.bool true) .bool=true by first|rfl|decide|simp[WShape.has,WShape.arms,WShape.armsAll])
  (show(WTm.eq .res (.lit (.bool true))).value [] {args:=args,res:=some (.bool true),after:=args}=some (.bool (true==true))from w_eq_bool (w_res rfl) w_lit) rfl
theorem iz{ns:List Int}{i:Int}(hi:i∈ns):WData.weight (.int i)<=WData.weightAll (ns.map WData.int):=by
 induction ns with
 |nil=>cases hi
 |cons a r b=>
  rw[BV,WData.weightAll];rcases BK.mp hi with rfl|h
  ·omega
  ·have:=b h;omega
theorem kf{ns:List Int}(h:WData.layableAll [WData.list (ns.map WData.int)]=true):∀i∈ns,Ff i<=1048576:=by
 intro i hi;have h1: (WData.list (ns.map WData.int)).layable=true:=BI.mp h _ Ds;have h2:WData.weight (.list (ns.map WData.int))<=2 ^ 20:=by
  have h3:=(TY.mp h1).2;exact A34 h3
 rw[WData.weight]at h2;have b:=iz hi;have a:WData.weight (.int i)=Ff i:=by rw[WData.weight];rfl
 rw[a]at b;have e: (2:Nat) ^ 20=1048576:=by decide
 omega
theorem attach_call{l:OpenLaw}{n:Nat}{q:BG}{loose:List Bx}{XP: (Bx->Option AY)->CO->Prop}{YP:Cs->CO->Prop}{d:DefRec}(hn:l.most=some n)(m:d.params.defaults=[])(call:∀(w:Cs) (s_ b:Bf) (mg mb:Bx->Option AY) (j:Ba) (o:Obj) (pm cd doc:AY) (a:Ba) (vs:List AY) (ns:List Int),Ground q loose [] XP w s_ mg mb b.heap->YP w b.heap->b.heap.get? j=some o->o.data= .func (docDef d.name d.params d.body d.scope pm cd doc)->b.heap.CodeRec cd d.name->mg d.name=some (.ref j)->b.heap.get? a=some {cls:=.type "list",data:=.seq vs.toArray}->IntsAre vs ns->ns.length<=n->b.gens=#[]->(∀i∈ns,Ff i<=1048576)->IN (model l.prog w) callerA (.call (.ref j) ⟨[.ref a],[]⟩) (λr s'=>r= .ok (.ret (.bool true))/\OldK b.heap s'.heap/\s'.os=b.os/\AllBare s'.gens) b):
  WalkO q loose XP YP l.row.toRowW d [] (λf vs=>PySem.call f vs):=by
 intro w s_ b mg mb G Y j o pm cd doc B kV x hd p t k z args s as Tv h u hwl y;obtain rfl:B= .none:=Dflts.none t m;obtain rfl:kV= .none:=Dflts.noKw t;obtain⟨a,vs,ns,rfl,rfl,e,c,g⟩:=qB hn Tv hwl;refine enter_call (GT (call w s_ b mg mb j o pm cd doc a vs ns G Y x (fd_plain hd) p k e c g z (kf h)) λr s' v=>?_);obtain⟨rfl,h2,h3,A⟩:=v;exact⟨.inl ⟨.bool true,.bool true,[],rfl,λ_=>rfl,.bool true,qD l _,λ_=>⟨List.Pairwise.nil,λ_ hm=>(nomatch hm)⟩⟩,h2,h3,A⟩
section
variable{prog:BG}{w:Cs}{A:Do}{E:AY->Bf->Prop}{s:Bf}{K:Frag}
def noObjs(h:CO):CO:={h with objs:=#[]}
theorem noObjs_get(h:CO)(b:Ba): (noObjs h).get? b=none:=by
 cases e: (noObjs h).get? b with
 |none=>rfl
 |some o=>exact A38 (BN e) (Nat.not_lt_zero _)
def ledger(h:CO)(L d:Ba):List (Ba×Obj):=(Bz h.objs.size).filterMap λa=>if a=L\/a=d then none else (h.get? a).map λo=>(a,o)
theorem mem_ledger{h:CO}{L d a:Ba}{o:Obj}: (a,o)∈ledger h L d ↔ a≠L/\a≠d/\h.get? a=some o:=by
 unfold ledger;rw[List.mem_filterMap];constructor
 ·rintro⟨b,_,e⟩;split at e
  ·cases e
  ·rename_i f;obtain⟨o',c,g⟩:=BS.mp e;cases g;exact⟨λq=>f (.inl q),λq=>f (.inr q),c⟩
 ·rintro⟨n1,n2,c⟩;refine⟨a,DJ.mpr (BN c),?_⟩;rw[A35 (show ¬ (a=L\/a=d)from λq=>q.elim n1 n2),c] <;> rfl
theorem fr_all{h:CO}{L:Ba}{m:Bx->Option AY}(n:h.Ns L m):Fr (noObjs h) L h m:=⟨n,λb o e=>(by rw[noObjs_get]at e;cases e),CH _⟩
end
end Att
namespace L2
open PySem PySem.Spec PyProof.Rows
theorem bG:∀{vs:List AY} {ns:List Int},IntsAre vs ns->CQ (ns.map V.int) vs
 |_,_,.nil=>.nil
 |_,_,.cons n t h=>.cons ⟨t,rfl⟩ (bG h)
def Cv(s:Dn)(j:Nat):Dn:=match s with
 |.ClassDef _ _ _ body _ _ _ _ _ _ _=>body.getD j (.Pass ⟨0,0,0,0⟩)
 |_=>.Pass ⟨0,0,0,0⟩
def Kh(s:Dn):NE:=match s with
 |.FunctionDef _ a _ _ _ _ _ _ _ _=>a
 |_=>{posonlyargs:=[],args:=[],vararg:=none,kwonlyargs:=[],kw_defaults:=[],kwarg:=none,defaults:=[]}
def Jh(s:Dn):List Dn:=match s with
 |.FunctionDef _ _ b _ _ _ _ _ _ _=>b
 |_=>[]
def BA(s:Dn):Scope:=match s with
 |.FunctionDef _ _ _ _ _ _ sc _ _ _=>sc
 |_=>{kind:=.function,names:=[],isGenerator:=false,isCoroutine:=false}
abbrev DS:gu:=⟨true,false,λ_ _ _ _ _ _=>False⟩
abbrev CXS:gu:=⟨false,true,λ_ _ _ _ _ _=>False⟩
abbrev E0:XK:=λ_ _ _=>False
theorem BR{X:Cx}(hc:X.calm=true:=by rfl):JT DS X E0:=⟨λ_=>hc,rfl,λ_ _ _ _ _ _ _ h=>h.elim⟩
structure GL(K:Be)(x qual:Bx)(st:Dn)(f:Ba)(fd:Ek):Prop where
 ex:∃(oc:AY) (od:Option Ba) (kV doc pm:AY) (an:Option Ba) (cdv ct:AY) (osl:Array (Option AY)),fd=LH x qual (Kh st) (Jh st) (BA st) .none kV doc pm an cdv ct/\K.lookup f=some ⟨oc,od,.func fd,osl⟩/\PySem.W.codeIn K cdv qual=true
 kp:FY K (.ref f)=true
section
variable{P:BG}{w:Cs}{K:Be}{mg:Bx->Option AY}{base:CO}
theorem GL.okX{x qual:Bx}{st:Dn}{f:Ba}{fd:Ek}{N ps:List Bx}{k:Nat}{sp:Sp}{CX:gu}(F:GL K x qual st f fd)(S:Cd N ps (BA st))(len:∀vs H Q E,sp vs H Q E->vs.length=ps.length)(a:∀(cdv:AY) (A:Do) (outer:List Env) (s:Bf) (H:Hp) (vs:List V) (Q:VK) (E:XK),Fm k (A.deeper (GD qual (BA st) s.heap.objs.size f cdv))->sp vs H Q E->∃t,WH (bi CX P w K mg base N qual (BA st) f cdv A outer s H E) (Jh st) t/\t {nx:=λ_ H'=>Q .non H',rt:=Q} (SI N vs) H):Cm P w K mg base CX (k+1) f fd ps sp:=by
 obtain⟨oc,od,kV,doc,pm,an,cdv,ct,osl,rfl,lk,c⟩:=F.ex;exact jJ lk c S len λA outer s H vs Q E d b=>a cdv A outer s H vs Q E d b
theorem GL.ok{x qual:Bx}{st:Dn}{f:Ba}{fd:Ek}{N ps:List Bx}{k:Nat}{sp:Sp}{CX:gu}(F:GL K x qual st f fd)(S:Cd N ps (BA st))(len:∀vs H Q E,sp vs H Q E->vs.length=ps.length)(a:∀(cdv:AY) (A:Do) (outer:List Env) (s:Bf) (H:Hp) (vs:List V) (Q:VK) (E:XK),Fm k (A.deeper (GD qual (BA st) s.heap.objs.size f cdv))->sp vs H Q E->∃t,WH (bi CX P w K mg base N qual (BA st) f cdv A outer s H E).nox (Jh st) t/\t {nx:=λ_ H'=>Q .non H',rt:=Q} (SI N vs) H):Cm P w K mg base CX (k+1) f fd ps sp:=by
 refine F.okX S len λcdv A outer s H vs Q E c b=>?_;obtain⟨t,h,q⟩:=a cdv A outer s H vs Q E c b;exact⟨t,h.nox,q⟩
theorem GL.binds{x qual:Bx}{st:Dn}{f:Ba}{fd:Ek}{ps:List Bx}(F:GL K x qual st f fd)(h:∀(kV doc pm:AY) (an:Option Ba) (cdv ct:AY) (us:List AY),us.length=ps.length->bindArgs (LH x qual (Kh st) (Jh st) (BA st) .none kV doc pm an cdv ct) ⟨us,[]⟩=pure (ps.zip us)):CC K fd ps []:=by
 obtain⟨oc,od,kV,doc,pm,an,cdv,ct,osl,rfl,lk,a⟩:=F.ex;exact .all (h kV doc pm an cdv ct)
theorem S7{x qual:Bx}{st:Dn}{f:Ba}{oc:AY}{od an:Option Ba}{osl:Array (Option AY)}{kV doc pm cdv ct:AY}(l:K.lookup f=some ⟨oc,od,.func (LH x qual (Kh st) (Jh st) (BA st) .none kV doc pm an cdv ct),osl⟩)(c:PySem.W.codeIn K cdv qual=true)(k:FY K (.ref f)=true):GL K x qual st f (LH x qual (Kh st) (Jh st) (BA st) .none kV doc pm an cdv ct):=⟨⟨oc,od,kV,doc,pm,an,cdv,ct,osl,rfl,l,c⟩,k⟩
end
theorem Ea{n:Nat}(h:n<=1000):n<sizeLine:=Cp h Aa
section
variable{X:Cx}
theorem pv(i:Nat){x:Bx}{pos:Pos}(c:X.N[i]?=some x:=by rfl)(b:Vis X.env.scope x:=by first|exact BP rfl|exact Di (BP rfl)|exact Di (Di rfl))(hd: (x==("__debug__" :Bx))=false:=by decide)(a: (x==("__classdict__" :Bx))=false:=by decide):PE X (.Name x pos) (Y0 i):=O8 c b hd a
end
theorem Dr{A B:Prop}(h:B):if false=true then A else B:=by
 rw[A35 BL];exact h
theorem Er{A B:Prop}(h:A):if true=true then A else B:=by
 rw[A36 rfl];exact h
theorem Kg{c A B:Prop} [Decidable c](h1:c->A)(h2:¬c->B):if c then A else B:=by
 by_cases h:c
 ·rw[A36 h];exact h1 h
 ·rw[A35 h];exact h2 h
def BC(H H':Hp):Prop:=∀b o,H b=some o->H' b=some o
theorem BC.refl(H:Hp):BC H H:=λ_ _ h=>h
theorem BC.trans{H H1 H2:Hp}(a:BC H H1)(b:BC H1 H2):BC H H2:=λc o h=>b c o (a c o h)
theorem BC.free{H H':Hp}(e:BC H H'){l:Ba}(h:H' l=Option.none):H l=Option.none:=by
 cases q:H l with
 |none=>rfl
 |some o=>
  rw[e l o q]at h;cases h
theorem BC.seq{K:Be}{H H':Hp}{a:Ba}{xs:List V}(e:BC H H')(h:Dk K H a xs):Dk K H' a xs:=by
 rcases h with(h|⟨o,h⟩)|h
 ·exact .inl (.inl (e _ _ h))
 ·exact .inl (.inr ⟨o,e _ _ h⟩)
 ·exact .inr h
section
variable{X:Cx}
def wp(i j:Int):Prop:=0<=j/\(Ff i:Int) *j<=2 ^ 27
theorem WC:Ny X (Mi .Pow) (rI wp λi j=>.int (i ^ j.toNat)):=opI λ_ _ _ _ _ _ _ hc q=>pow_int hc.1 hc.2 q
end
mutual
inductive TV(K:Be)(H:Hp):V->PyData->Prop where
 |non:TV K H .non .none
 |bl (b:Bool):TV K H (.bl b) (.bool b)
 |int (i:Int):TV K H (.int i) (.int i)
 |str (x:Bx):TV K H (.str x) (.str x)
 |lst {a:Ba} {xs:List V} {ds:List PyData} (h:Dk K H a xs) (r:QG K H xs ds):TV K H (.ref a) (.list ds)
 |tup {a:Ba} {xs:List V} {ds:List PyData} (h:Hm K H a xs) (r:QG K H xs ds):TV K H (.ref a) (.tuple ds)
inductive QG(K:Be)(H:Hp):List V->List PyData->Prop where
 |nil:QG K H [] []
 |cons {x:V} {d:PyData} {xs:List V} {ds:List PyData} (h:TV K H x d) (r:QG K H xs ds):QG K H (x::xs) (d::ds)
end
section
variable{X:Cx}{pZ:List (Ba×Obj)}{σ:St}{H:Hp}{s:Bf}
mutual
theorem TV.reads(I:CL X pZ σ H s):∀{x:V} {d:PyData},TV X.K H x d->∀{u:AY},DA x u->∃as,Reads s.heap u d as
 |_,_,.non,u,r=>by cases (show u=CM from r);exact⟨_,.none⟩
 |_,_,.bl b,u,r=>by cases (show u=Dm b from r);exact⟨_,.bool b⟩
 |_,_,.int i,u,r=>by obtain⟨t,rfl⟩:=(show ∃t,u=HK i t from r);exact⟨_,.int i t⟩
 |_,_,.str x,u,r=>by obtain⟨t,rfl⟩:=(show ∃t,u=LG x t from r);exact⟨_,.str x t⟩
 |_,_,.lst (a:=a) h f,u,r=>by
  cases (show u=Value.ref a from r);obtain⟨g,c,⟨o,n,e,hc,_,hd⟩,_⟩:=I.list h;obtain⟨as,ra⟩:=QG.reads I f c;exact⟨_,.list e hc hd (by simpa using ra)⟩
 |_,_,.tup (a:=a) h f,u,r=>by
  cases (show u=Value.ref a from r);obtain⟨g,c,⟨o,e,hc,n,hd⟩,_⟩:=I.tuple h;obtain⟨as,ra⟩:=QG.reads I f c;exact⟨_,.tuple e hc hd (by simpa using ra)⟩
theorem QG.reads(I:CL X pZ σ H s):∀{xs:List V} {ds:List PyData},QG X.K H xs ds->∀{us:List AY},CQ xs us->∃as,ReadsAll s.heap us ds as
 |_,_,.nil,us,r=>by cases r;exact⟨_,.nil⟩
 |_,_,.cons h a,us,r=>by
  cases r with
  |cons c b=>
   obtain⟨as,e⟩:=TV.reads I h c;obtain⟨bs,d⟩:=QG.reads I a b;exact⟨_,.cons e d⟩
end
end
def A1O(K:Be):R2:=λx y H Q=>∃d d',TV K H x d/\TV K H y d'/\UT d=true/\UT d'=true/\Q (.bl (PyData.eqv d d')) H
def A1K(K:Be):R2:=λx y H Q=>∃d d',TV K H x d/\TV K H y d'/\UT d=true/\UT d'=true/\Q (.bl (!PyData.eqv d d')) H
section
variable{X:Cx}
theorem lX(c:X.A.units+64<cLine):Ny X (EE .Eq) (A1O X.K):=by
 intro pZ s σ H x y v u Q I b a h;obtain⟨d,d',h1,h2,h3,e,q⟩:=h;obtain⟨as,ra⟩:=h1.reads I b;obtain⟨bs,rb⟩:=h2.reads I a;exact eq_dataH ra rb h3 e c ⟨.bl _,H,I,rfl,q⟩
theorem uG(c:X.A.units+64<cLine):Ny X (EE .NotEq) (A1K X.K):=by
 intro pZ s σ H x y v u Q I b a h;obtain⟨d,d',h1,h2,h3,e,q⟩:=h;obtain⟨as,ra⟩:=h1.reads I b;obtain⟨bs,rb⟩:=h2.reads I a;exact ne_dataH ra rb h3 e c ⟨.bl _,H,I,rfl,q⟩
end
section
variable{X:Cx}
theorem ka:IM X (.builtin "isinstance") (λxs H Q=>∃x c t cv b,xs=[x,c]/\GK X.K H x t/\DA c cv/\Co X.K t cv=some b/\Q (.bl b) H):=by
 intro pZ s σ H xs us Q I r h;obtain⟨x,c,t,cv,b,rfl,ty,rc,e,q⟩:=h;obtain⟨u,f,rfl,g,d⟩:=tL r;have j:f=cv:=by
  cases c with
  |non=>exact(show f=_ from d).trans (show cv=_ from rc).symm
  |bl _=>exact(show f=_ from d).trans (show cv=_ from rc).symm
  |ref _=>exact(show f=_ from d).trans (show cv=_ from rc).symm
  |ty _=>exact(show f=_ from d).trans (show cv=_ from rc).symm
  |int i=>
   obtain⟨a,rfl⟩:=(show ∃a,cv=HK i a from rc);exact A38 e (by unfold Co PySem.W.kitCls;cases ty <;> simp)
  |str i=>
   obtain⟨a,rfl⟩:=(show ∃a,cv=LG i a from rc);exact A38 e (by unfold Co PySem.W.kitCls;cases ty <;> simp)
  |byt i=>
   obtain⟨a,rfl⟩:=(show ∃a,cv=Value.bytes i a from rc);exact A38 e (by unfold Co PySem.W.kitCls;cases ty <;> simp)
  |flt i=>
   obtain⟨a,rfl⟩:=(show ∃a,cv=Value.float i a from rc);exact A38 e (by unfold Co PySem.W.kitCls;cases ty <;> simp)
 subst j;exact qW I g ty e λtk=>⟨.bl b,H,I.tok tk,rfl,q⟩
end
def Wp(names:List (Bx×NameKind))(env:Env):List (Bx×Ba):=(names.filter λp=>p.2== .free).reverse.map λp=>(p.1,(env.cells.lookup p.1).getD 0)
def Ee(X:Cx)(N:List Bx)(scope:Scope)(C:Ba)(a:Bf)(b:Hp)(fp:List Ba):Cx where
 prog:=X.prog
 w:=X.w
 K:=X.K
 mg:=X.mg
 base:=X.base
 A:=X.A
 N:=N
 s_:=a
 H_:=b
 env:=compEnvC scope (Wp scope.names X.env) C X.env
 outer:=X.stack
 stack:=X.stack
 ex:=fp
 fn:=λ_=>false
 calm:=X.calm
 suit:=X.suit
 pn:=[]
 xe:=λ_ _=>False
theorem YD{names:List (Bx×NameKind)}{f:Bx->NameKind->NameKind}{x:Bx}{k:NameKind}: (names.map λp=>(p.1,f p.1 p.2)).lookup x=some k->∃k0,names.lookup x=some k0/\k=f x k0:=by
 induction names with
 |nil=>intro h;simp at h
 |cons p r b=>
  obtain⟨n,k1⟩:=p;intro h;rw[BV,FN]at h;rw[FN];cases a:x==n with
  |true=>
   rw[a]at h;have e:x=n:=beq_iff_eq.mp a;subst e;exact⟨k1,rfl,(AR h).symm⟩
  |false=>
   rw[a]at h;exact b h
theorem aU{scope:Scope}{env:Env}: (relabel scope env).names=scope.names.map λp=>(p.1,if (p.2== .free&&env.scope.kind== .function&&env.kindOf p.1==some .cell)=true then NameKind.cell else p.2):=by
 unfold relabel;refine Lu λp _=>?_;obtain⟨n,k⟩:=p;show(if (k== .free&&env.scope.kind== .function&&env.kindOf n==some .cell)=true then (n,NameKind.cell)else (n,k))=_
 split <;> rfl
theorem jC{g d:Type}{l:List (Bx×g)}{f:Bx->d}{x:Bx}{c:d}: (l.map λp=>(p.1,f p.1)).lookup x=some c->c=f x/\∃a,(x,a)∈l:=by
 induction l with
 |nil=>intro h;simp at h
 |cons p r i=>
  intro h;rw[BV,FN]at h;cases b:x==p.1 with
  |true=>
   rw[b]at h;have e:x=p.1:=beq_iff_eq.mp b;refine⟨?_,p.2,?_⟩
   ·rw[e];exact(AR h).symm
   ·rw[e];exact Ds
  |false=>
   rw[b]at h;obtain⟨e,a,m⟩:=i h;exact⟨e,a,CJ _ m⟩
theorem UG{c d:Type}{l:List (Bx×c)}{f:Bx->d}{x:Bx}{a:c}(h: (x,a)∈l): (l.map λp=>(p.1,f p.1)).lookup x=some (f x):=by
 induction l with
 |nil=>cases h
 |cons p r g=>
  rw[BV,FN];cases b:x==p.1 with
  |true=>
   have e:x=p.1:=beq_iff_eq.mp b;rw[e]
  |false=>
   rcases BK.mp h with e|m
   ·rw[<-e]at b;simp at b
   ·exact g m
structure YX(X:Cx)(scope:Scope):Prop where
 kind:scope.kind= .function
 clos:closureFor scope X.env=pure (Wp scope.names X.env)
 cell:∀y∈scope.names,y.2≠ .cell
 names:∀y∈scope.names,y.2= .local->scope.names.lookup y.1=some .local
 free:∀y∈scope.names,y.2= .free->(X.env.cells.lookup y.1).isSome=true
theorem IL{X:Cx}{scope:Scope}(ok:YX X scope){x:Bx}{c:Ba}(h: (Wp scope.names X.env).lookup x=some c):X.env.cells.lookup x=some c:=by
 unfold Wp at h;obtain⟨e,a,m⟩:=jC (f:=λn=>(X.env.cells.lookup n).getD 0) h;have b:=EX.mp (List.mem_reverse.mp m);have fr:=ok.free _ b.1 (by simpa using b.2);cases q:X.env.cells.lookup x with
 |none=>rw[q]at fr;cases fr
 |some d=>rw[e,q];rfl
theorem jY{X:Cx}{scope:Scope}{x:Bx}(h: (x,NameKind.free)∈scope.names): (Wp scope.names X.env).lookup x=some ((X.env.cells.lookup x).getD 0):=by
 unfold Wp;exact UG (f:=λn=>(X.env.cells.lookup n).getD 0) (List.mem_reverse.mpr (EX.mpr ⟨h,by simp⟩))
inductive US(X:Cx)(scope:Scope):List Nat->List Bx->Prop where
 |nil:US X scope [] []
 |cons {j:Nat} {x:Bx} {js:List Nat} {xs:List Bx} (h1:X.N[j]?=some x) (h2:X.env.kindOf x=some .cell\/X.env.kindOf x=some .free) (h3:scope.names.lookup x=some .free) (r:US X scope js xs):US X scope (j::js) (x::xs)
def ww(k:Nat)(js:List Nat)(σ:St):St:=CI k none++js.map λj=>(σ[j]?).getD none
theorem KO{b:Type}{l:List (Bx×b)}{x:Bx}{a:b}(h:l.lookup x=some a): (x,a)∈l:=FF h
theorem US.len{X:Cx}{scope:Scope}:∀{js:List Nat} {xs:List Bx},US X scope js xs->js.length=xs.length
 |_,_,.nil=>rfl
 |_,_,.cons _ _ _ r=>by simp[US.len r]
theorem US.at{X:Cx}{scope:Scope}:∀{js:List Nat} {xs:List Bx},US X scope js xs->∀{i:Nat} {x:Bx},xs[i]?=some x->∃j,js[i]?=some j/\X.N[j]?=some x/\(X.env.kindOf x=some .cell\/X.env.kindOf x=some .free)/\scope.names.lookup x=some .free
 |_,_,.nil,i,x,h=>by simp at h
 |_,_,.cons h1 h2 h3 r,0,x,h=>by simp at h;subst h;exact⟨_,rfl,h1,h2,h3⟩
 |_,_,.cons h1 h2 h3 r,i+1,x,h=>by
  obtain⟨j,e,q⟩:=US.at r (i:=i) (x:=x) (by simpa using h);exact⟨j,by simpa using e,q⟩
theorem mK{X:Cx}{pZ:List (Ba×Obj)}{σ:St}{H2:Hp}{d:Bf}{scope:Scope}{fp:List Ba}{ts xs:List Bx}{js:List Nat}{g:CO}{C:Ba}{tk:Nat}(I:CL X pZ σ H2 d)(ok:YX X scope)(fr:US X scope js xs)(P:∀x∈ts,scope.names.lookup x=some .local)(A:∀b∈fp,Wq X pZ H2 b)(K:∀b∈fp,b<d.heap.objs.size)(L:C=d.heap.objs.size+1)(J:g.Ns C (λ_=>none))(old:∀b o,d.heap.get? b=some o->g.get? b=some o)(V:g.get? d.heap.objs.size=some {cls:=.type "list",data:=.seq ([]:List AY).toArray 0}):
  CL (Ee X (ts++xs) scope C d H2 fp) [] (ww ts.length js σ) (upd H2 d.heap.objs.size (.lst [])) {d with heap:=g,toks:=tk}:=by
 have S:=I.hok.fresh (a:=d.heap.objs.size) (Bv _);have D:∀{x:Bx} {k:NameKind},(compEnvC scope (Wp scope.names X.env) C X.env).kindOf x=some k->∃k0,scope.names.lookup x=some k0/\k=if (k0== .free&&X.env.scope.kind== .function&&X.env.kindOf x==some .cell)=true then NameKind.cell else k0:=λ{x k} h=>by
  have h': (relabel scope X.env).names.lookup x=some k:=h;rw[aU]at h';exact YD (f:=λn k=>if (k== .free&&X.env.scope.kind== .function&&X.env.kindOf n==some .cell)=true then NameKind.cell else k) h'
 have freeOf:∀{x:Bx},((compEnvC scope (Wp scope.names X.env) C X.env).kindOf x=some .cell\/(compEnvC scope (Wp scope.names X.env) C X.env).kindOf x=some .free)->scope.names.lookup x=some .free:=λ{x} h=>by
  rcases h with h|h
  ·obtain⟨k0,e,q⟩:=D h;by_cases c: (k0== .free&&X.env.scope.kind== .function&&X.env.kindOf x==some .cell)=true
   ·rw[BZ,BZ]at c;rw[e,beq_iff_eq.mp c.1.1]
   ·rw[A35 c]at q;exact A38 q.symm (ok.cell _ (KO e))
  ·obtain⟨k0,e,q⟩:=D h;by_cases c: (k0== .free&&X.env.scope.kind== .function&&X.env.kindOf x==some .cell)=true
   ·rw[A36 c]at q;cases q
   ·rw[A35 c]at q;rw[e,q]
 refine⟨⟨I.ok.mod,ok.kind,I.ok.glob,I.ok.blt,?_,λx y c h1 h2=>I.ok.inj x y c (IL ok h1) (IL ok h2),λx O=>⟨_,jY (KO (freeOf O))⟩,λx c h _=>Ej (show false=true from h),I.ok.hd,I.ok.frames,.inl rfl,λb E=>⟨?_,λx c h=>(A b E).2.2.2.2.1 x c (IL ok h)⟩,I.bs,BF I.ok.bsz I.sz,λb o e E=>?_,λb E hs=>?_,I.stack,I.stkFree,λz=>?_⟩,rfl,I.bare,Un.laid old (Bv _) S,⟨_,J,λi x v h1 h2 h3=>?_⟩,λx c h=>?_,?_,λx c h=>?_,λp Q=>A38 (show p∈ ([]:List (Ba×Obj))from Q) (by simp),?_,?_⟩
 ·show d.heap.objs.size<=C;rw[L];exact EV _
 ·show b≠C;rw[L];exact Ck (JL (K b E))
 ·have h1:=(A b E).2.2.2.1;rcases h1 with z|z
  ·exact I.ok.noex b o e z
  ·exact A38 (Cz (BN e) (BF I.ok.bsz z)) (Ev _)
 ·rcases BK.mp (I.stkSub b hs)with z|z
  ·exact(A b E).2.1 z
  ·exact(A b E).2.2.1 z
 ·obtain⟨ex,cls,dx,a0,tb,W,U⟩:=I.ok.hs z;exact⟨ex,cls,dx,a0,tb,W,I.base.frzs ex _ _ U⟩
 ·
  have hi:ts.length<=i:=by
   refine Nat.le_of_not_lt λhi=>?_;unfold ww at h2;rw[CU (by simpa using hi),OV,A36 hi]at h2;cases h2
  have M:xs[i - ts.length]?=some x:=by
   have B: (ts++xs)[i]?=some x:=h1;rw[CB hi]at B;exact B
  obtain⟨j,Y,T,t,s⟩:=fr.at M;have H:σ[j]?=some (some v):=by
   unfold ww at h2;rw[CB (by simpa using hi),JZ,Bj,Y]at h2;simp only[Option.map_some,Nw]at h2;cases q:σ[j]? with
   |none=>rw[q]at h2;cases h2
   |some z=>rw[q]at h2;exact A37 some h2
  obtain⟨m,hn,R⟩:=I.loc;have G:Vis X.env.scope x:=by
   rcases t with t|t
   ·exact .inr (.inl t)
   ·exact .inr (.inr t)
  obtain⟨u,r,l⟩:=R j x v T H G;refine⟨u,r,.inr ?_⟩;rcases l with⟨k,_⟩|⟨_,c,hc,z⟩
  ·rcases t with t|t <;> (rw[k]at t;cases t)
  ·refine⟨?_,c,?_,z.keeps old⟩
   ·rcases h3 with q|q|q
    ·obtain⟨k0,e,w⟩:=D (x:=x) (k:=.local) q;rw[s]at e;cases e;split at w <;> cases w
    ·exact .inl q
    ·exact .inr q
   ·have e:=jY (X:=X) (KO s);rw[hc]at e;exact e
 ·obtain⟨v,z⟩:=I.cell x c (IL ok h);exact⟨v,z.keeps old⟩
 ·show(upd H2 d.heap.objs.size (.lst [])) C=none;rw[L,Bo (LI (GV _))];exact I.hok.fresh (EV _)
 ·obtain⟨v,z⟩:=I.cell x c (IL ok h);rw[Bo (Ck z.lt)];exact I.freeC x c (IL ok h)
 ·exact I.hok.laid old (Bv _) ⟨CH _,[],0,.nil,V⟩
 ·unfold ww;show _=(ts++xs).length;rw[Bh,Bh,JZ,AV,fr.len]
def PIf(X:Cx)(ifs:List Expr)(t:TT):Prop:=∀(pZ:List (Ba×Obj)) (s:Bf) (σ:St) (H:Hp) (Q:Bool->Hp->Prop),CL X pZ σ H s->t σ H Q->Cc (model X.prog X.w) X.A (forIn ifs true λc r=>if r=true then do let ok <-isTrue c X.env (eval c X.env);pure (QM ok)else pure (QM r)) (TP X pZ σ Q) X.xe s
def XE:TT:=λ_ H Q=>Q true H
theorem DB{X:Cx}:PIf X [] XE:=λ_ _ _ H _ I h=>wpAny_tests_nil ⟨H,I,h⟩
theorem fH{X:Cx}{c:Expr}{t:TT}(hc:PT X c t):PIf X [c] t:=λpZ s σ H Q I h=>wpAny_tests_one (hc pZ s σ H Q I h)
theorem gb{prog:BG}{w:Cs}{A:Do}{R:Result->Bf->Prop}{s:Bf}{elt target iter:Expr}{ifs:List Expr}{scope:Scope}{pos:Pos}{it k:AY}{env:Env}(J:Nat->Bf->Prop)(l:∀n s,J n s->Cc (model prog w) A (pyNext it) (λr b=>match r with
   |none=>R (.ok .next) b
   |some v=>Cc (model prog w) A (MY target it v) (λ_ g=>Cc (model prog w) A (assign target env v) (λ_ f=>
     Cc (model prog w) A (forIn ifs true λc r=>if r=true then do let ok <-isTrue c env (eval c env);pure (QM ok)else pure (QM r)) (λok a=>
      if ok=true then Cc (model prog w) A (eval elt env) (λx e=>
       Cc (model prog w) A (call (.builtin "list.append") [k,x]) (λ_ d=>∃m,m<n/\J m d) (λ_ _=>False) e) (λ_ _=>False) a
      else ∃m,m<n/\J m a) (λ_ _=>False) f) (λ_ _=>False) g) (λ_ _=>False) b) (λ_ _=>False) s)
  (n:Nat)(h:J n s):IN (model prog w) A (.compLoop (.ListComp elt [⟨target,iter,ifs,0⟩] scope pos) 0 it k env) R s:=by
 refine codeAny_loop rfl J (λn s u=>?_) n h;show Cc _ A ((compTurn (.ListComp elt [⟨target,iter,ifs,0⟩] scope pos) 0 it k env).onRaise (λx=>do noteFrame x env;theTreesLotGoes x)) _ _ s;refine wpAny_noted (wpAny_noRaise ?_);rw[compTurn_list];refine Bg (JJ (Bg (ES (l n s u) λr b j=>?_)));cases r with
 |none=>exact BQ j
 |some v=>
  refine Bg (ES j λ_ g t=>Bg (ES t λ_ f q=>Bg (ES q λok a i=>?_)));cases ok with
  |false=>exact BQ ⟨rfl,i⟩
  |true=>exact Bg (Bg (ES i λx e p=>Bg (ES p λ_ d o=>BQ (BQ ⟨rfl,o⟩))))
def Sub(σ a:St):Prop:=∀(i:Nat) v,σ[i]?=some (some v)->a[i]?=some (some v)
theorem Sub.set{σ:St}{i:Nat}{x:Option V}(h:σ[i]?=some none):Sub σ (σ.set i x):=λj v e=>by
 by_cases a:i=j
 ·subst a;rw[h]at e;cases e
 ·rw[Fn a];exact e
theorem Sub.trans{σ d c:St}(a:Sub σ d)(b:Sub d c):Sub σ c:=λi v e=>b i v (a i v e)
def QH(J:It)(H1:Hp)(c:St)(g:TG)(tif:TT)(te:TE)(Q:VK):Prop:=∀D,H1 D=none->∃W:Nat->Nat->List V->Hp->Prop,(∃m,W 0 m [] (upd H1 D (.lst [])))/\∀i m ys H,W i m ys H->H D=some (.lst ys)/\((J.stop i H/\Q (.ref D) H)\/(J.go i H/\∀x H',J.yld i H x H'->g x c H' λa H2=>Sub c a/\tif a H2 λb f=>
  if b=true then te a f λy e=>e D=some (.lst ys)/\ys.length<sizeLine/\∃d,d<m/\W (i+1) d (ys++[y]) (upd e D (.lst (ys++[y])))else ∃d,d<m/\W (i+1) d ys f))
def zM(mk:St->St)(wi:TI)(g:TG)(tif:TT)(te:TE):TE:=λσ H Q=>wi σ H λJ H1=>QH J H1 (mk σ) g tif te Q
section
variable{X:Cx}{scope:Scope}{ts xs:List Bx}{js:List Nat}{target iter elt:Expr}{ifs:List Expr}{wi:TI}{g:TG}{tif:TT}{te:TE}{pos:Pos}
theorem zD.mono{pZ:List (Ba×Obj)}{σ:St}{tg:Expr}{R R':It->Hp->Prop}{v:AY}{s:Bf}(h:zD X pZ σ tg R v s)(k:∀J H1,R J H1->R' J H1):zD X pZ σ tg R' v s:=by
 obtain⟨it,fp,tn,J,H',e,I,T,st,f,r⟩:=h;exact⟨it,fp,tn,J,H',e,I,T,st,f,k _ _ r⟩
theorem jW{pZ:List (Ba×Obj)}{σ:St}{f:Bf}{Q:VK}{a1:AY}{E:AY->Bf->Prop}{RR:AY->Ba->Result->Bf->Prop}(ok:YX X scope)(fr:US X scope js xs)(b0:∀x∈ts,scope.names.lookup x=some .local)(hg:∀C s_ H_ fp,PG (Ee X (ts++xs) scope C s_ H_ fp) target g)(b3:∀C s_ H_ fp,PIf (Ee X (ts++xs) scope C s_ H_ fp) ifs tif)(he:∀C s_ H_ fp,PE (Ee X (ts++xs) scope C s_ H_ fp) elt te)(h:zD X pZ σ target (λJ H1=>(X.calm=true\/J.sok=true/\X.suit=true)/\QH J H1 (ww ts.length js σ) g tif te Q) a1 f)(c2:∀D C s' H' v,CL X pZ σ H' s'->s'.heap.Ns C v->Wq X pZ H' C->Q (.ref D) H'->RR (.ref D) C (.ok .next) s'):
  Cc (model X.prog X.w) X.A (newList []) (λa5 V=>Cc (model X.prog X.w) X.A (newFunctionEnv scope X.env.globals (Wp scope.names X.env) [] X.env.qual none .none (some X.env)) (λK U=>
   IN (model X.prog X.w) X.A (.compStart (.ListComp elt [⟨target,iter,ifs,0⟩] scope pos) 0 a1 a5 {K with scope:=relabel scope X.env}) (RR a5 K.locals) U) E V) E f:=by
 obtain⟨it,fp,tn,J,H2,e,I2,T,Z,f2,hc,hw⟩:=h;subst e;have a2:∀b∈fp,b<f.heap.objs.size:=λb j=>by
  obtain⟨o,e,_⟩:=T.obj _ _ Z b j;exact BN e
 refine QJ (wpAny_newFunctionEnv ok.cell (by intro y hy;simp at hy) (λm l k=>?_) ok.kind)
 dsimp only at l k ⊢
 have hsz: (f.heap.push {cls:=.type "list",dict:=none,data:=.seq ([]:List AY).toArray}).objs.size=f.heap.objs.size+1:=KY _ _;generalize hC: (f.heap.push {cls:=.type "list",dict:=none,data:=.seq ([]:List AY).toArray}).objs.size=C at l k hsz ⊢;have z:∀b o,(f.heap.push {cls:=.type "list",dict:=none,data:=.seq ([]:List AY).toArray}).get? b=some o->m.get? b=some o:=λb o e=>by
  have j:b≠C:=by
   rw[<-hC];exact Ck (BN e)
  exact(k.2 b j).trans (Bb _ e)
 have old:∀b o,f.heap.get? b=some o->m.get? b=some o:=λb o e=>z b o (Bb _ e);have N:m.get? f.heap.objs.size=some {cls:=.type "list",data:=.seq ([]:List AY).toArray 0}:=z _ _ (Ca _ rfl);have c1:=I2.hok.fresh (a:=f.heap.objs.size) (Bv _);obtain⟨W,⟨m0,w0⟩,S⟩:=hw f.heap.objs.size c1;have IC:=mK (tk:=f.toks+ ([]:List (Bx×AY)).length) I2 ok fr b0 f2 a2 hsz l old N;have q:tn 0 m:=T.keep _ _ _ Z λb j o e=>old b o e;have t:∀{H':Hp},(∀b∈fp,H' b=none)->∀b∈fp,Wq (Ee X (ts++xs) scope C f H2 fp) [] H' b:=λ{H'} hn b j=>
  ⟨hn b j,(IC.ok.exf b j).1,IC.ok.exfs b j,.inl j,λx c e=>(IC.ok.exf b j).2 x c e,λp hp=>A38 (show p∈ ([]:List (Ba×Obj))from hp) (by simp)⟩
 have c6:∀b∈fp,(upd H2 f.heap.objs.size (.lst [])) b=none:=λb j=>by
  rw[Bo (Ck (a2 b j))];exact(f2 b j).1
 have I:IN (model X.prog X.w) X.A (.compLoop (.ListComp elt [⟨target,iter,ifs,0⟩] scope pos) 0 (.ref it) (.ref f.heap.objs.size) (compEnvC scope (Wp scope.names X.env) C X.env))
   (RR (.ref f.heap.objs.size) C) {f with heap:=m,toks:=f.toks+ ([]:List (Bx×AY)).length}:=by
  refine gb (λn s'=>∃i H' ys,CL (Ee X (ts++xs) scope C f H2 fp) [] (ww ts.length js σ) H' s'/\tn i s'.heap/\(∀b∈fp,H' b=none)/\W i n ys H') ?_ m0 ⟨0,_,[],IC,q,c6,w0⟩;rintro n s3 ⟨i,R,ys,I3,Y,a4,w3⟩;obtain⟨g1,alt⟩:=S i n ys R w3;rcases alt with⟨stop,qn⟩|⟨go,step⟩
  ·refine ES (T.done (Ee X (ts++xs) scope C f H2 fp) rfl rfl rfl hc i [] s3 _ R _ I3 (t a4) Y stop) λr s4 c0=>?_;obtain⟨hr,P⟩:=c0;subst hr;have c4:R C=none:=P.free;have I5:CL X pZ σ R s4:=I2.call' (ch:=fp) (s':=s4) P.os P.base P.hok P.bare λb j=>⟨(f2 b j).2.2.2.1,(f2 b j).2.1,(f2 b j).2.2.2.2.1,(f2 b j).2.2.2.2.2⟩;obtain⟨v,b2,_⟩:=P.loc;exact c2 _ _ s4 R v I5 b2 (I2.fpOk (by rw[hsz];exact EV _) c4) qn
  ·refine ES (T.item (Ee X (ts++xs) scope C f H2 fp) rfl rfl rfl hc i [] s3 _ R _ I3 (t a4) Y go) λr s4 b9=>?_;obtain⟨u,hr,h4⟩:=b9;subst hr;refine ES h4 λ_ s5 b8=>?_;obtain⟨x,H5,I5,r5,y5,M,c5⟩:=b8;have c9:=I5.pinned (t c5) (T.obj _ _ M);have H:∀{s:St} {B:Hp} {F:Bf},CL (Ee X (ts++xs) scope C f H2 fp) ([] ++UE fp s5.heap) s B F->tn (i+1) F.heap/\∀b∈fp,B b=none:=λ{s B F} G=>by
    refine⟨T.keep _ _ _ M λb j o e=>(G.pin (b,o) (BU _ (BU _ (MO j e)))).1,λb j=>?_⟩;obtain⟨o,e,d⟩:=T.obj _ _ M b j;exact(G.pin (b,o) (BU _ (BU _ (MO j e)))).2.1
   have back:∀{s:St} {B:Hp} {F:Bf},CL (Ee X (ts++xs) scope C f H2 fp) ([] ++UE fp s5.heap) s B F->Sub (ww ts.length js σ) s->CL (Ee X (ts++xs) scope C f H2 fp) [] (ww ts.length js σ) B F:=λ{s B F} G sb=>
    G.unpinned.weak (IC.len.trans G.len.symm) sb
   refine ES (hg _ _ _ _ _ s5 _ H5 x u _ c9 r5 (step x H5 y5)) λ_ s6 b7=>?_;obtain⟨L,H6,I6,a0,q6⟩:=b7;refine ES (b3 _ _ _ _ _ s6 L H6 _ I6 q6) λa9 F b6=>?_;obtain⟨B,G,q7⟩:=b6;cases a9 with
   |false=>
    obtain⟨v,hm,w7⟩:=(show ∃v,v<n/\W (i+1) v ys B from q7);obtain⟨t7,n7⟩:=H G;exact⟨v,hm,i+1,B,ys,back G a0,t7,n7,w7⟩
   |true=>
    refine ES (he _ _ _ _ _ F L B _ G q7) λu8 s8 b5=>?_;obtain⟨y,H8,I8,r8,c3,a3,v,hm,w8⟩:=b5;refine ES (IJ (X:=Ee X (ts++xs) scope C f H2 fp) _ s8 L H8 (.ref f.heap.objs.size) [y] (.ref f.heap.objs.size) [u8] (λ_ H9=>W (i+1) v (ys++[y]) H9) I8 rfl (.cons r8 .nil) ⟨_,ys,y,rfl,rfl,c3,a3,w8⟩) λu9 s9 b4=>?_;obtain⟨_,H9,I9,_,w9⟩:=b4;obtain⟨t9,n9⟩:=H I9;exact⟨v,hm,i+1,H9,ys++[y],back I9 a0,t9,n9,w9⟩
 exact codeAny_compStart_list I (T.self _ 0 _ _ _ q I)
theorem DY(hc:X.calm=true)(ok:YX X scope)(fr:US X scope js xs)(a:∀x∈ts,scope.names.lookup x=some .local)(hi:PI X target iter wi)(k:∀C s_ H_ fp,PG (Ee X (ts++xs) scope C s_ H_ fp) target g)(d:∀C s_ H_ fp,PIf (Ee X (ts++xs) scope C s_ H_ fp) ifs tif)(l:∀C s_ H_ fp,PE (Ee X (ts++xs) scope C s_ H_ fp) elt te)(hs:∀x,foldedSetIterable iter X.env x=pure x:=by intro _;rfl):PE X (.ListComp elt [⟨target,iter,ifs,0⟩] scope pos) (zM (ww ts.length js) wi g tif te):=by
 intro pZ s σ H Q I h;rw[eval_ListComp];refine wpAny_comprehension_free (use:=none) rfl hs ok.clos ok.kind ok.names (ES (hi pZ s σ H _ I h) λv s1 h1=>ES h1 λj s2 h2=>?_);refine jW (Q:=Q) ok fr a k d l (zD.mono h2 λJ H1 z=>⟨.inl hc,z⟩) λD C s' H' i u hn f q=>?_;refine⟨i,hn,λh' c=>?_⟩;obtain⟨t,f1,f2,r,p,n⟩:=f;exact⟨.ref D,H',u.turned (t':=s'.toks) (λb o m e=>(c.2 b m).trans e) t f1 r p n,rfl,q⟩
theorem Iz{y:Bx}{py c:Pos}{i:Nat}(hc:X.calm=true)(ok:YX X scope)(fr:US X scope js xs)(f:∀x∈ts,scope.names.lookup x=some .local)(hi:PI X target iter wi)(F:∀C s_ H_ fp,PG (Ee X (ts++xs) scope C s_ H_ fp) target g)(l:∀C s_ H_ fp,PIf (Ee X (ts++xs) scope C s_ H_ fp) ifs tif)(K:∀C s_ H_ fp,PE (Ee X (ts++xs) scope C s_ H_ fp) elt te)(M:X.N.Nodup)(w:X.N[i]?=some y)(B:Loc X.env.scope y)(j:swapsWith (.ListComp elt [⟨target,iter,ifs,0⟩] scope pos) (some (.Name y py)) c.line X.env=pure true)(hs:∀x,foldedSetIterable iter X.env x=pure x:=by intro _;rfl)(G:X.fn y=true\/X.env.scope.names.lookup y=some .local:=by first|exact .inl rfl|exact .inr rfl|assumption):
  PS X (.Assign [.Name y py] (.ListComp elt [⟨target,iter,ifs,0⟩] scope pos) c) (N4 (zM (ww ts.length js) wi g tif te) (pr i)):=by
 intro pZ s σ H D I h;rw[exec_Assign_Name_used _ _ _ _ j];refine Bg (JJ (Bg ?_));show Cc _ X.A (do let _ <-comprehension (.ListComp elt [⟨target,iter,ifs,0⟩] scope pos) scope X.env _ (newList []) false (eval iter X.env) (some (assign (.Name y py) X.env))) _ _ s;refine Bg (ES (wpAny_comprehension_free (use:=some (assign (.Name y py) X.env)) (Q:=λ_ s'=>SP X pZ D .next s') rfl hs ok.clos ok.kind ok.names (ES (hi pZ s σ H _ I h) λv s1 h1=>ES h1 λu s2 h2=>?_)) λ_ s' E=>BQ (BQ E));refine jW (Q:=λx H1=>pr i x σ H1 D.nx) ok fr f F l K (zD.mono h2 λJ H1 z=>⟨.inl hc,z⟩) λr C s' H' t T hn n q=>?_;show Cc _ X.A (assign (.Name y py) X.env (.ref r)) _ _ _;obtain⟨R,f1,f2,P,p,O⟩:=n;refine wpAny_assign_Name (bH (v:=.ref r) T M w B rfl (λs2 S m=>?_) G);obtain⟨a,sb,ha⟩:=m;have d:C≠a:=by
  rcases ha with z|z
  ·rw[z];exact f1
  ·exact λe=>p y a z e.symm
 refine⟨t,hn.sameBut sb d,λh' k=>?_⟩;exact⟨_,H',S.turned (t':=s2.toks) (λb o L e=>(k.2 b L).trans e) R f1 P p O,q⟩
end
structure rN(B:CO)(l:List Env)(e:Ba)(cls:AY)(dx:Option Ba)(fl:AY)(h:CO):Prop where
 st:B.StaysIn h
 ne:B.get? e=none
 fr:h.FunFrames B l
 ob:∃a0 T oT ts,h.get? e=some (JP cls dx a0 (.ref T))/\B.get? T=none/\T≠e/\h.get? T=some oT/\oT.data= .fields ts/\ts[3]?=some fl
theorem rN.drop{B:CO}{env:Env}{l:List Env}{e:Ba}{cls fl:AY}{dx:Option Ba}{h:CO}(F:rN B (env::l) e cls dx fl h):rN B l e cls dx fl h:=⟨F.st,F.ne,F.fr.2.2,F.ob⟩
section
variable{M:Model}{A:Do}{E:AY->Bf->Prop}{s:Bf}{B:CO}{env:Env}{outer:List Env}{L e:Ba}{cls fl a0 head:AY}{dx:Option Ba}{Q:Unit->Bf->Prop}
theorem cr{f:Bool}(p:A.frames=some (env::outer))(m:s.heap.FunFrames B (env::outer))(w:env.frame=some L)(r:s.heap.get? e=some (JP cls dx a0 head))(st:B.StaysIn s.heap)(ne:B.get? e=none)(k:∀h',rN B (env::outer) e cls dx (MX L) h'->s.heap.UpToSlots h'->Q () {s with heap:=h'}):
  Cc M A (do let a <-frameOf env;let pl <-entryPlaceOf L f;let b <-EntryCells.newEntry head a .none (MX L) .none pl;setField (.ref e) 1 b) Q E s:=by
 have nofr:e∉ (env::outer).filterMap (·.frame):=λhm=>by
  obtain⟨_,o,t,g⟩:=m.mem hm;rw[r]at t;cases t;exact g _ rfl
 refine Bg (wpAny_frameOf_fun p m w λh1 l=>?_);refine Bg (wpAny_entryPlaceOf λpl j=>?_);unfold EntryCells.newEntry newFields;refine Bg (QJ ?_ (j.sizeOk5 _ _ _ _ _));generalize y: ([head,.ref L,.none,MX L,.none] ++ (if pl.isEmpty then CI 6 CM else pl)).toArray=c
 have C:c[3]?=some (MX L):=by
  rw[<-y]
  first|(simp;done)|(rcases j with rfl|⟨_,_,_,_,_,_,_,rfl⟩ <;> simp)
 have v:h1.get? e=some (JP cls dx a0 head):=(l.2.1 e nofr).trans r;have i:B.StaysIn h1:=λb o q=>(l.2.1 b λhm=>by rw[(m.mem hm).1]at q;cases q).trans (st b o q);have u:=Bb (h:=h1) {cls:=.type "traceback",dict:=none,data:=.fields c} v;have neT:h1.objs.size≠e:=LI (BN v);have keep:∀b o,b≠e->h1.get? b=some o->((h1.push {cls:=.type "traceback",dict:=none,data:=.fields c}).update e (JK (·.setIfInBounds 1 (Value.ref h1.objs.size)))).get? b=some o:=λb o x q=>by
  rw[DV _ _ (DP x)];exact Bb _ q
 have d:∀b o,s.heap.get? b=some o->(∀vs,o.data≠ .fields vs)->b≠e:=λb o q g z=>by
  rw[z,r]at q;cases q;exact g _ rfl
 refine OO u rfl (by show 1<6;decide) (k _ ?_ ?_)
 ·refine⟨λb o q=>keep b o (λz=>by rw[z,ne]at q;cases q) (i b o q),ne,m.of_keeps λb o q g=>?_,a0,h1.objs.size,{cls:=.type "traceback",dict:=none,data:=.fields c},c,?_,i.fresh,neT,?_,rfl,C⟩
  ·obtain⟨sl,n⟩:=l.2.2 b o q;exact⟨_,keep b _ (d b o q g) n,rfl⟩
  ·rw[Gw _ u rfl];rfl
  ·rw[DV _ _ (DP neT)];exact Ca h1 rfl
 ·intro b o q g;obtain⟨sl,n⟩:=l.2.2 b o q;exact⟨sl,keep b _ (d b o q g) n⟩
theorem zh(a:A.frames=some (env::outer))(d:s.heap.FunFrames B (env::outer))(b:env.frame=some L)(c:s.heap.get? e=some (JP cls dx a0 .none))(st:B.StaysIn s.heap)(ne:B.get? e=none)(k:∀h',rN B (env::outer) e cls dx (MX L) h'->s.heap.UpToSlots h'->Q () {s with heap:=h'}):Cc M A (noteFrame (.ref e) env) Q E s:=by
 unfold noteFrame;simp only[b];refine Bg (Mg c rfl (x:=.none) rfl ?_);rw[A35 Aa];exact cr a d b c st ne k
theorem vv(d:A.frames=some (env::outer))(i:env.frame=some L)(F:rN B (env::outer) e cls dx .none s.heap)(k:∀h',rN B (env::outer) e cls dx (MX L) h'->s.heap.UpToSlots h'->Q () {s with heap:=h'}):Cc M A (noteFrame (.ref e) env) Q E s:=by
 obtain⟨st,ne,fr,a0,T,oT,ts,j,l,f,g,dT,h⟩:=F;unfold noteFrame;simp only[i];refine Bg (Mg j rfl (x:=.ref T) rfl ?_);rw[A36 (show(Value.ref T != CM)=true from by simp)];refine Bg (Mg g dT h ?_);rw[A35 (show ¬ ((CM==MX L)=true)from by simp[MX])];refine Bg (OO g dT (Array.getElem?_eq_some_iff.mp h).1 ?_);have other:∀b,b≠T->(s.heap.update T (JK (·.setIfInBounds 3 CM))).get? b=s.heap.get? b:=λb m=>DV _ _ (DP m);have a:∀b o,s.heap.get? b=some o->(∀vs,o.data≠ .fields vs)->b≠T:=λb o q c z=>by
  rw[z,g]at q;cases q;exact c ts dT
 refine cr d (fr.of_keeps λb o q c=>⟨o,(other b (a b o q c)).trans q,rfl⟩) i ((other e (DP f)).trans j) (λb o q=>(other b λz=>by rw[z,l]at q;cases q).trans (st b o q)) ne λh' n up=>k h' n λb o q c=>?_;exact up b o ((other b (a b o q c)).trans q) c
theorem Tz{l:List Env}(F:rN B l e cls dx fl s.heap)(k:∀h',rN B l e cls dx .none h'->s.heap.UpToSlots h'->Q () {s with heap:=h'}):Cc M A (setFlight (.ref e) none) Q E s:=by
 obtain⟨st,ne,fr,a0,T,oT,ts,i,h,d,g,dT,j⟩:=F;have h3:3<ts.size:=(Array.getElem?_eq_some_iff.mp j).1;have other:∀b,b≠T->(s.heap.update T (JK (·.setIfInBounds 3 CM))).get? b=s.heap.get? b:=λb m=>DV _ _ (DP m);have a:∀b o,s.heap.get? b=some o->(∀vs,o.data≠ .fields vs)->b≠T:=λb o q c z=>by
  rw[z,g]at q;cases q;exact c ts dT
 have f:=Obj.data_mapFields dT (·.setIfInBounds 3 CM);unfold setFlight;refine Bg (Mg i rfl (x:=.ref T) rfl ?_);rw[A36 (show(Value.ref T != CM)=true from by simp)];refine OO g dT h3 (k _ ⟨λb o q=>(other b λz=>by rw[z,h]at q;cases q).trans (st b o q),ne,fr.of_keeps λb o q c=>⟨o,(other b (a b o q c)).trans q,rfl⟩,a0,T,_,_,(other e (DP d)).trans i,h,d,Gw _ g (Obj.isFreed_of_fields f),f,by simp[h3]⟩ λb o q c=>⟨o.slots,(other b (a b o q c)).trans q⟩)
end
structure U6(fs:List Ba)(H H':Hp)(h B:CO):Prop where
 k1:∀b o,h.get? b=some o->H b=none->b∉fs->B.get? b=some o
 k2:∀b o,h.get? b=some o->b∉fs->∃o',B.get? b=some o'
 tk:∀b,H' b≠none->∃u,B.get? b=some u
section
variable{P:BG}{w:Cs}{H H':Hp}{h h' h2 B:CO}{l l2:List Env}{e:Ba}{cls fl fl2:AY}{dx:Option Ba}
theorem DH.some_of{a:Ba}{o:HO}(x:DH P w H h a o):∃u,h.get? a=some u:=by
 cases o with
 |lst xs=>obtain⟨_,_,_,_,e⟩:=x;exact⟨_,e⟩
 |tup xs=>obtain⟨_,_,_,o,e,_⟩:=x;exact⟨_,e⟩
 |dK kvs=>obtain⟨_,_,_,_,o,_,_,e,_⟩:=x;exact⟨_,e⟩
 |dT kvs=>obtain⟨_,_,_,_,o,_,_,e,_⟩:=x;exact⟨_,e⟩
 |set S n=>obtain⟨o,_,_,_,e,_⟩:=x;exact⟨_,e⟩
 |ins C dx fs=>obtain⟨_,_,_,e,_⟩:=x;exact⟨_,e⟩
 |own y=>exact x
 |xd fs=>obtain⟨_,⟨o,_,_,e,_⟩,_⟩:=x;exact⟨_,e⟩
 |rng lo hi=>obtain⟨_,_,_,e⟩:=x;exact⟨_,e⟩
 |frz ob u=>obtain⟨e,_⟩:=x;exact⟨_,e⟩
 |tbl ps=>exact⟨_,(show h.get? a=some _ from x)⟩
 |met f y=>exact⟨_,(show h.get? a=some _ from x)⟩
 |ext φ=>obtain⟨_,e,_⟩:=x;exact e
theorem JE.flown(ok:JE P w H' h')(tk:∀b,H' b≠none->∃u,B.get? b=some u)(s1:B.StaysIn h')(s2:B.StaysIn h2):JE P w H' h2:=λa o q=>by
 have same:∀b u,H' b≠none->h'.get? b=some u->h2.get? b=some u:=λb u n z=>by
  obtain⟨e,d⟩:=tk b n;have:=s1 b e d;rw[z]at this;cases this;exact s2 b _ d
 refine(ok a o q).stay (λb u c z=>same b u ?_ z) (λ_ z=>z) λ_ _ z=>z;rcases c with rfl|c
 ·rw[q];simp
 ·rw[c];simp
theorem Un.flown(u:Un (ND l) [] H H' h h')(k:U6 (ND l) H H' h B)(m:∀b∈ND l,H b=none)(F:rN B l e cls dx fl h')(up:h'.UpToSlots h2)(s2:B.StaysIn h2):Un (ND l) [] H H' h h2 where
 keep:=λb o q n a _=>s2 b o (k.k1 b o q n a)
 slot:=λb o q n a j=>by
  obtain⟨sl,f⟩:=u.slot b o q n a j;obtain⟨_,o',d,i⟩:=F.fr.mem a;rw[f]at d;cases d;obtain⟨c,g⟩:=up b _ f i;exact⟨c,g⟩
 free:=u.free
 there:=λb o q j=>by
  by_cases a:b∈ND l
  ·obtain⟨sl,f⟩:=u.slot b o q (m b a) a j;obtain⟨_,o',d,i⟩:=F.fr.mem a;rw[f]at d;cases d;obtain⟨c,g⟩:=up b _ f i;exact⟨_,g⟩
  ·obtain⟨o',p⟩:=k.k2 b o q a;exact⟨o',s2 b o' p⟩
 tups:=u.tups
 frzs:=u.frzs
 tbls:=u.tbls
end
theorem VE{base h:CO}{as:List Ba}:∀{l:List Env},h.FunFrames base l->(∀env∈l,∀a,env.frame=some a->a∈as)->h.FunFrames (HM h as) l
 |[],_,_=>trivial
 |env::r,x,k=>by
  obtain⟨c,⟨L,o,b,_,x3,x4⟩,x5⟩:=x;exact⟨c,⟨L,o,b,TX _ (k env Ds L b),x3,x4⟩,VE x5 λe d=>k e (CJ _ d)⟩
def XCx(P:BG)(w:Cs)(outer:List Env)(H:Hp)(s:Bf)(E:XK)(e:AY)(s':Bf):Prop:=∃(a:Ba) (cls:AY) (dx:Option Ba) (H':Hp) (B:CO),e= .ref a/\s'.os=s.os/\AllBare s'.gens/\Un (ND outer) [] H H' s.heap s'.heap/\JE P w H' s'.heap/\rN B outer a cls dx .none s'.heap/\H' a=none/\s.heap.get? a=none/\U6 (ND outer) H H' s.heap B/\E cls dx H'
abbrev XC(P:BG)(w:Cs)(cm:Bool):gu:=⟨cm,false,XCx P w⟩
section
variable{cm:Bool}{P:BG}{w:Cs}{K:Be}{mg:Bx->Option AY}{base:CO}{N:List Bx}{qual:Bx}{scope:Scope}{f:Ba}{cd:AY}{A:Do}{outer:List Env}{s:Bf}{H:Hp}{E:XK}
theorem yz{i:Bool}(r:i=true->cm=true):JT (XC P w i) (bi (XC P w cm) P w K mg base N qual scope f cd A outer s H E) E:=by
 refine⟨r,rfl,λpZ σ H1 s1 e s' I x=>?_⟩;obtain⟨h,cls,dx,H',B,rfl,os,bare,un,hok,F,hn,p,kp,q⟩:=(show XCx P w (GD qual scope s.heap.objs.size f cd::outer) H1 s1 E e s' from x);show Cc (model P w) (A.deeper (GD qual scope s.heap.objs.size f cd)) (leaving (GD qual scope s.heap.objs.size f cd) (.ref h)) _ _ _;unfold leaving;refine Bg (vv I.ok.frames rfl F λh1 y up1=>?_);refine Tz y λh2 t k=>?_;have m:∀b∈ND (GD qual scope s.heap.objs.size f cd::outer),H1 b=none:=I.stkFree;have l:Un (ND (GD qual scope s.heap.objs.size f cd::outer)) [] H1 H' s1.heap h2:=un.flown kp m F (up1.trans k) t.st;have c:JE P w H' h2:=hok.flown kp.tk F.st t.st;have u:CL (bi (XC P w cm) P w K mg base N qual scope f cd A outer s H E) pZ σ H' {s' with heap:=h2}:=I.call' (ch:=[]) (s':={s' with heap:=h2}) os l c bare (λb z=>A38 z (by simp));have g:∀b o,s.heap.get? b=some o->b∉ND outer->b∉ND (GD qual scope s.heap.objs.size f cd::outer):=λb o q d z=>by
  have v:b∈s.heap.objs.size::ND outer:=z;rcases BK.mp v with e|e
  ·exact A38 (BN q) (by rw[e];exact Ev _)
  ·exact d e
 have a:∀b,b∉ ([]:List Ba):=λb z=>A38 z (by simp);refine⟨h,cls,dx,H',B,rfl,u.os,bare,u.base,c,t.drop,hn,?_,⟨λb o z n d=>?_,λb o z d=>?_,kp.tk⟩,q⟩
 ·cases z:s.heap.get? h with
  |none=>rfl
  |some o=>
   obtain⟨o',j⟩:=I.base.there h o z (a h);rw[p]at j;cases j
 ·exact kp.k1 b o (I.base.keep b o z n d (a b)) (I.base.free b o z n (a b)) (g b o z d)
 ·obtain⟨o',j⟩:=I.base.there b o z (a b);exact kp.k2 b o' j (g b o z d)
end
theorem ro{K:Be}{h:CO}{C:Ba}{rP:List AY}{newId:String}(kin:K.In h)(t:PySem.W.excIn K C rP newId=true):
  ∃bm N nm b bs hd sn sub ab col dd k0 k1 k2 k3 k5 e,h.get? C=some (QK nm b C N bs bm hd sn sub ab col dd k0 k1 k2 k3 k5 newId)/\h.Ns N e/\e "__init__"=none/\OwnTail h rP bm:=by
 unfold PySem.W.excIn at t;split at t
 ·rename_i dd cd sl lk;split at t
  ·rename_i j bm k0 k1 k2 k3 n k5 em es;simp only[BZ,beq_iff_eq,Bool.not_eq_true']at t;obtain⟨⟨⟨⟨⟨i,g⟩,d⟩,f⟩,a⟩,c⟩:=t;subst i g;obtain⟨nm,bs,mro,ns,b,hd,sn,sub,ab,col,del⟩:=cd
   dsimp only at em d a c
   subst em d;obtain⟨sl⟩:=sl;simp only at es;subst es;exact⟨bm,ns,nm,b,bs,hd,sn,sub,ab,col,dd,k0,k1,k2,k3,k5,_,kin _ _ lk,.of_isNs (PySem.W.isNs_of_in kin a),PySem.W.nsMap_none_of_in kin a c,PySem.W.tail_of_in kin f⟩
  ·cases t
 ·cases t
def PEX(X:Cx)(E:XK)(a:Expr)(t:TE):Prop:=∀(pZ:List (Ba×Obj)) (s:Bf) (σ:St) (H:Hp) (Q:VK),CL X pZ σ H s->t σ H Q->Cc (model X.prog X.w) X.A (eval a X.env) (EP X pZ σ Q) (λe s'=>∃H1 s1,CL X pZ σ H1 s1/\XCx X.prog X.w X.stack H1 s1 E e s') s
abbrev cxS(X:Cx)(e:Ba):Cx:={X with A:=X.A.mark (some (.ref e)),calm:=false,suit:=false,xe:=λ_ _=>False}
theorem CL.suite{X:Cx}{pZ:List (Ba×Obj)}{σ:St}{H:Hp}{s:Bf}(I:CL X pZ σ H s)(e:Ba):CL (cxS X e) pZ σ H s:=⟨⟨I.ok.mod,I.ok.kind,I.ok.glob,I.ok.blt,I.ok.above,I.ok.inj,I.ok.has,I.ok.cab,λz=>Ej z,I.ok.frames,I.ok.stk,I.ok.exf,I.ok.bs,I.ok.bsz,I.ok.noex,I.ok.exfs,I.ok.funs,I.ok.frf,λz=>Ej z⟩,I.os,I.bare,I.base,I.loc,I.cell,I.free,I.freeC,I.pin,I.hok,I.len⟩
theorem CL.forget{X:Cx}{pZ:List (Ba×Obj)}{σ:St}{H:Hp}{s:Bf}{h':CO}{j:Bx->Option AY}{t':Nat}(I:CL X pZ σ H s)(hn:h'.Ns X.env.locals j)(sb:NA X.env.locals s.heap h'):
  CL X pZ (CI X.N.length none) H {s with heap:=h',toks:=t'}:=by
 have a:∀b o,X.s_.heap.get? b=some o->b≠X.env.locals:=λb o e=>Ck (Cz (BN e) I.ok.above);have kp:∀b o,b≠X.env.locals->s.heap.get? b=some o->h'.get? b=some o:=λb o g e=>(sb.2 b g).trans e;refine⟨I.ok,I.os,I.bare,⟨λb o e n g f=>kp b o (a b o e) (I.base.keep b o e n g f),λb o e n g f=>?_,I.base.free,λb o e f=>?_,I.base.tups,I.base.frzs,I.base.tbls⟩,⟨j,hn,λi x v m h _=>?_⟩,λx c e=>?_,I.free,I.freeC,λp l=>?_,λb o e=>?_,by simp⟩
 ·obtain⟨sl,q⟩:=I.base.slot b o e n g f;exact⟨sl,kp b _ (a b o e) q⟩
 ·obtain⟨o',q⟩:=I.base.there b o e f;exact⟨o',kp b o' (a b o e) q⟩
 ·rw[OV]at h;split at h <;> cases h
 ·obtain⟨v,z⟩:=I.cell x c e;exact⟨v,z.sameBut sb (I.cne x c e)⟩
 ·obtain⟨e,n,ne,k,d⟩:=I.pin p l;exact⟨kp p.1 p.2 ne e,n,ne,k,d⟩
 ·refine(I.hok b o e).stay (λc u hc q=>kp c u ?_ q) (λ_ q=>q) λ_ _ q=>q;rintro rfl;rcases hc with z|z
  ·rw[<-z,I.free]at e;cases e
  ·rw[I.free]at z;cases z
theorem JE.track{P:BG}{w:Cs}{H:Hp}{h:CO}{a:Ba}{o:HO}(x:JE P w H h)(hn:H a=none)(new:DH P w (upd H a o) h a o):JE P w (upd H a o) h:=λb u e=>by
 by_cases d:b=a
 ·subst d;rw[AX]at e;cases e;exact new
 ·rw[Bo d]at e;exact(x b u e).stay (λ_ _ _ q=>q) (λc q=>by rw[Bo (Ce q hn)];exact q) λc xs q=>by rw[Bo (Ce q hn)];exact q
theorem Un.track{fs:List Ba}{H H':Hp}{h h':CO}{a:Ba}{o:HO}(u:Un fs [] H H' h h')(ha:h.get? a=none)(hn:H' a=none):Un fs [] H (upd H' a o) h h' where
 keep:=u.keep
 slot:=u.slot
 free:=λb ob e n c=>by
  rw[Bo (by rintro rfl;rw[ha]at e;cases e)];exact u.free b ob e n c
 there:=u.there
 tups:=λb xs e=>by
  have:=u.tups b xs e;rw[Bo (Ce this hn)];exact this
 frzs:=λb ob z e=>by
  have:=u.frzs b ob z e;rw[Bo (Ce this hn)];exact this
 tbls:=λb ps e=>by
  obtain⟨m,q⟩:=u.tbls b ps e;exact⟨m,by rw[Bo (Ce q hn)];exact q⟩
theorem L5{P:BG}{w:Cs}{H:Hp}{h:CO}{e:Ba}{ob:Obj}(q:h.get? e=some ob):DH P w H h e (wu e ob):=⟨q,q,⟨ob,q⟩,λh1 h2 a k=>k ob a⟩
def X2(K:Be)(c:AY)(i:Nat)(ts:Ba->TS)(D:Wt)(σ:St):XK:=λcls dx H'=>PySem.W.exmOne K cls c=some true/\∀e a0 tb,H' e=none->ts e {D with nx:=λ_ _=>False,bk:=λ_ _=>False,ct:=λ_ _=>False} (σ.set i (some (.ref e))) (upd H' e (wu e (JP cls dx a0 tb)))
section
variable{X:Cx}{x n:Bx}{np hpos pos p1:Pos}{c0:Expr}{b_:Dn}{suite:List Dn}{i:Nat}{ts:Ba->TS}{tc:XK->TE}{c:AY}{v0:V}
theorem S6{pZ:List (Ba×Obj)}{σ:St}{H1:Hp}{s1 s':Bf}{D:Wt}{e:AY}(r:X.stack=X.env::X.outer)(hf:X.env.frame=some X.env.locals)(hg:Gl X x)(hm:X.mg x=some c)(rc:DA v0 c)(hs:∀e,WH (cxS X e) (b_::suite) (ts e))(hN:X.N.Nodup)(hi:X.N[i]?=some n)(V:X.env.scope.names.lookup n=some .local)(I:CL X pZ σ H1 s1)(hx:XCx X.prog X.w X.stack H1 s1 (X2 X.K c i ts D σ) e s')(a2: (x==("__debug__" :Bx))=false:=by decide):
  Cc (model X.prog X.w) X.A (noteFrame e X.env) (λ_ p=>Cc (model X.prog X.w) X.A (setFlight e none) (λ_ o=>Cc (model X.prog X.w) X.A (handleBy e X.env [.ExceptHandler (some (.Name x np)) (some n) (b_::suite) hpos]) (SP X pZ D) X.xe o) X.xe p) X.xe s':=by
 obtain⟨a,cls,dx,H',B,rfl,os,bare,un,hok,F,hn,Y,kp,U,hq⟩:=hx;have d:X.A.frames=some (X.env::X.outer):=by rw[<-r];exact I.ok.frames
 have F0:rN B (X.env::X.outer) a cls dx .none s'.heap:=by rw[<-r];exact F
 refine vv d hf F0 λh4 F4 k=>?_;refine Tz F4 λh5 F5 j=>?_;have h:∀{g:CO} {fl:AY},rN B (X.env::X.outer) a cls dx fl g->s'.heap.UpToSlots g->Un (ND X.stack) [] H1 H' s1.heap g/\JE X.prog X.w H' g:=λ{g fl} C up=>by
  refine⟨un.flown kp I.stkFree F up C.st,hok.flown kp.tk F.st C.st⟩
 obtain⟨O,y⟩:=h F5 (k.trans j);have I5:CL X pZ σ H' {s' with heap:=h5}:=I.call' (ch:=[]) (s':={s' with heap:=h5}) os O y bare (λb z=>A38 z (by simp));obtain⟨a0,T,oT,b4,a1,_⟩:=F5.ob;have LT:PySem.W.Looks (model X.prog X.w) h5 (typeOf (.ref a)) cls:=(PySem.W.Looks.ld a1).andThen .now;refine wpAny_handleBy_cons (codeAny_handlers_test (JA (X:=cxS X a) (I5.suite a) hg hm ?_ a2)) (by intro z;cases z);refine(PySem.W.exm_one I5.kIn LT U).here ?_;refine codeAny_handlers_suite_as (wpAny_noRaise ?_);refine Tz F5 λg C L=>?_;obtain⟨M,t⟩:=h C ((k.trans j).trans L);obtain⟨a6,T6,b9,b5,Z,_⟩:=C.ob;have s:JE X.prog X.w (upd H' a (wu a (JP cls dx a6 (.ref T6)))) g:=t.track hn (L5 Z);have I6:CL X pZ σ (upd H' a (wu a (JP cls dx a6 (.ref T6)))) {s' with heap:=g}:=I.call' (ch:=[]) (s':={s' with heap:=g}) os (M.track Y hn) s bare (λb z=>A38 z (by simp));refine XG (X:=cxS X a) (i:=i) (v:=.ref a) (I6.suite a) hN hi (.inl V) rfl (λs7 I7=>?_) (.inr V);refine FK (hs a pZ s7 _ _ _ I7 (hq a a6 (.ref T6) hn)) (λfl s8 G=>?_) λ_ _ z=>CG z;show Cc (model X.prog X.w) X.A (do bindName X.env n .none;unbindBehindTheSuite X.env n hpos) (λ_ s9=>SP X pZ D fl s9) X.xe s8;cases fl with
 |next=>obtain⟨_,_,_,z⟩:=G;exact CG z
 |brk=>obtain⟨_,_,_,z⟩:=G;exact CG z
 |cont=>obtain⟨_,_,_,z⟩:=G;exact CG z
 |ret u=>
  obtain⟨v,J,H8,f,r8,z8⟩:=G;have J8:CL X pZ J H8 s8:=⟨I.ok,f.os,f.bare,f.base,f.loc,f.cell,f.free,f.freeC,f.pin,f.hok,f.len⟩;obtain⟨m,S,_⟩:=J8.loc;exact wpAny_nameGoes V S (by rw[I.ok.kind];rfl) λh9 m9 R Q=>⟨v,_,H8,J8.forget R Q,r8,z8⟩
theorem yv(b:X.stack=X.env::X.outer)(m:X.env.frame=some X.env.locals)(hc:∀E,PEX X E c0 (tc E))(l:Gl X x)(hm:X.mg x=some c)(rc:DA v0 c)(hs:∀e,WH (cxS X e) (b_::suite) (ts e))(o:X.N.Nodup)(hi:X.N[i]?=some n)(k:X.env.scope.names.lookup n=some .local)(d: (x==("__debug__" :Bx))=false:=by decide)(a:swapsWith c0 none p1.line X.env=pure false:=by rfl):
  PS X (.Try [.Expr c0 p1] [.ExceptHandler (some (.Name x np)) (some n) (b_::suite) hpos] [] [] pos) (λD σ H=>tc (X2 X.K c i ts D σ) σ H λ_ H1=>D.nx σ H1):=by
 intro pZ s σ H D I h;refine wpAny_Try_except (TW (wpAny_Expr_any (FK (hc _ pZ s σ H _ I h) (λv s1 ⟨y,H1,f,p,g⟩=>?_) λe s' ⟨H1,s1,f,j⟩=>?_) I.quiet a))
 ·exact MV (MV ⟨σ,H1,f,g⟩)
 ·exact S6 b m l hm rc hs o hi k f j d
end
section
variable{K:Be}
structure ki(K:Be)(C:Ba):Prop where
 hd:Nv K C=true
 ga:Dh K (.ref C) "__getattribute__"=some (some (.builtin "BaseException.__getattribute__"))
 gx:Dh K (.ref C) "__getattr__"=some none
 ca:Dh K (.ref C) "__class__"=some (some (.builtin "object.__class__"))
 gs:Nr K (.builtin "object.__class__") "__get__"=some (some (.builtin "getset_descriptor.__get__"))
 ts:PySem.W.takesIn K (.builtin "object.__class__")=some true
 mo:Nz K C (.type "object")=some true
 mb:Nz K C (.type "BaseException")=some true
variable{prog:BG}{w:Cs}{A:Do}{E:AY->Bf->Prop}{s:Bf}{e C:Ba}{oe:Obj}{od:Option Obj}{name:Bx}
theorem rH:builtinKind "BaseException.__getattribute__"=some .slot:=by decide+kernel
theorem mP:splitId "BaseException.__getattribute__"=some ("BaseException","__getattribute__"):=by decide+kernel
theorem YT:plainId "BaseException.__getattribute__"=true:=by decide+kernel
theorem YU{M:Model}{A:Do}{E:AY->Bf->Prop}{s:Bf}{e:Ba}{v:AY}{Q:Unit->Bf->Prop}(L:PySem.W.Looks M s.heap (OQ (.ref e) (.type "BaseException")) true)(q:Q () s):
  Cc M A (checkBuiltinCall "BaseException.__getattribute__" ⟨[.ref e,v],[]⟩) Q E s:=PySem.W.check_slot (i:="BaseException.__getattribute__") (owner:="BaseException") (n:="__getattribute__") (self:=.ref e) (rest:=[v]) (kw:=[]) rH mP L (F.args_bexc_ga _ _) q
theorem X1{M:Model}(Z:ki K C)(X:K.In s.heap)(I:ER s.heap e oe C od):PySem.W.Looks M s.heap (OQ (.ref e) (.type "BaseException")) true:=by
 unfold OQ;exact PySem.W.Looks.andThen I.type (PySem.W.looks_mroIn X Z.mb)
theorem zL{tk:Tok}{expr fill:Bool}{Q:AY->Bf->Prop}(Z:ki K C)(X:K.In s.heap)(I:ER s.heap e oe C od)(h:IN (model prog w) A (.call (.builtin "BaseException.__getattribute__") ⟨[.ref e,.str name tk],[]⟩) (λr s'=>match r with|.ok (.ret v)=>Cc (model prog w) A (handedOut v) Q E s'|_=>False) s):
  Cc (model prog w) A (getAttrBy (.ref e) (.str name tk) fill expr) Q E s:=by
 obtain⟨j,g,d,t,os⟩:=s;have i:=I.type (M:=model prog w);have c:=KW (M:=model prog w) X Z.ga;unfold getAttrBy;refine El (Bg (i.at (Bg (c.at ?_))))
 dsimp only
 have b: (Value.builtin "BaseException.__getattribute__"==Value.builtin "object.__getattribute__")=false:=by decide+kernel
 rw[A35 (by rw[b,Iv];exact BL)];unfold getAttrByItsOwn;refine Bg ((PySem.W.looks_hook (M:=model prog w) X (mc:=.ref C) (r:=none) (by show(if true=true then _ else _)=_;rw[A36 rfl];exact Z.gx)).at ?_)
 unfold callGetattribute;rw[A35 (by show ¬ ((expr&&false)=true);rw[Iv];exact BL)];unfold boundAndCalled;refine Bg (wpAny_attempt (El (Bg (wpAny_of_eq (F.excAttr_ValueError.ga.bind (.ref e)) ?_))))
 dsimp only
 refine Ho (GT h λr s' a=>?_);cases r with
 |error x=>exact CG a
 |ok f=>
  cases f with
  |ret v=>exact a
  |next=>exact CG a
  |brk=>exact CG a
  |cont=>exact CG a
theorem qm{Q:Option AY->Bf->Prop}(Z:ki K C)(X:K.In s.heap)(I:ER s.heap e oe C od)(h:Q (some (.ref C)) {s with toks:=s.toks+1}):Cc (model prog w) A (getAttr? (.ref e) "__class__") Q E s:=by
 obtain⟨f,g,d,t,os⟩:=s;have c:=I.type (M:=model prog w);have a:PySem.W.findObj K C od "__class__"=some (.bind (.builtin "getset_descriptor.__get__") (.builtin "object.__class__")):=by
  obtain⟨cd,hc,_⟩:=OT Z.hd;unfold PySem.W.findObj;rw[hc,Option.bind_some,Z.ca,Option.bind_some];simp[Z.gs,Z.ts]
 have b:=PySem.W.looks_find (M:=model prog w) X I a;unfold getAttr? getAttrBy?;refine Bg (wpAny_mkText (Bg (wpAny_attempt (zL Z X I (GU YT F.entry_bexc_ga (YU (X1 Z X I) ?_))))));unfold Builtin.«object.__getattribute__»;refine Bg (BQ ?_)
 dsimp only
 refine Bg (BQ (Bg (c.at (Bg (b.at ?_)))))
 dsimp only
 unfold Builtin.ObjectAttr.bindTo
 dsimp only
 refine Bg (El (Ho (PySem.W.class_get (od:=od) X I Z.mo ?_)));refine BQ ?_;show Cc _ _ (handedOut (.ref C)) _ _ _;rw[PySem.W.handedOut_of rfl];exact BQ (BQ h)
theorem vf{K:Be}{C e:Ba}{oe:Obj}{od:Option Obj}(Z:ki K C):PySem.W.KitX K (.ref e) (.ref C) (λh=>ER h e oe C od) where
 ty:=λ_ _ _ I=>I.type
 it:=λ_ _ X _=>by
  obtain⟨f,a,_⟩:=OT Z.hd;unfold Jj at a;split at a
  ·rename_i j d' g b d;intro o l m s' k q;unfold isType loadHead;exact Bg (wpAny_loadPart (k _ _ (X _ _ d)) (BQ q))
  ·cases a
 ne:=λh tp dd i n sl X c=>by
  obtain⟨f,a,_⟩:=OT Z.hd;refine Bool.eq_false_iff.mpr λq=>?_;have e:C=tp:=Value.ref.inj (beq_iff_eq.mp q);subst e;unfold Jj at a;split at a
  ·rename_i j d' g b d;have:=X _ _ d;rw[c]at this;cases this
  ·cases a
 ca:=λX I q=>qm Z X I q
theorem EJ{X:Cx}:IM X (.builtin "isinstance") (λxs H Q=>∃e C dx a0 tb c cv b,xs=[.ref e,c]/\H e=some (wu e (JP (.ref C) dx a0 tb))/\ki X.K C/\(dx=none\/∃d fs,dx=some d/\H d=some (.xd fs))/\((∃a,c= .ref a/\cv= .ref a)\/∃T,c= .ty T/\cv= .type T)/\Co X.K (.ref C) cv=some b/\Q (.bl b) H):=by
 intro pZ s σ H xs us Q I r h;obtain⟨e,C,dx,a0,tb,c,cv,b,rfl,p,Z,g,i,n,q⟩:=h;obtain⟨u,l,rfl,m,f⟩:=tL r;cases (show u=Value.ref e from m);obtain⟨k,_⟩:=I.hok e _ p;have v:l=cv:=by
  rcases i with⟨a,rfl,rfl⟩|⟨T,rfl,rfl⟩
  ·exact f
  ·exact f
 subst v;have j:∃od,ER s.heap e (JP (.ref C) dx a0 tb) C od:=by
  rcases g with rfl|⟨d,fs,rfl,hd⟩
  ·exact⟨none,k,rfl,rfl,trivial⟩
  ·obtain⟨o,t⟩:=(I.hok d _ hd).some_of;exact⟨some o,k,rfl,rfl,t⟩
 obtain⟨od,j⟩:=j;exact Eg (vf Z) I.kIn j n (λz=>nomatch z) λtk=>⟨.bl b,H,I.tok tk,rfl,q⟩
end
section
variable{X:Cx}{pZ:List (Ba×Obj)}{σ:St}{H:Hp}{s:Bf}
theorem CL.big(I:CL X pZ σ H s):Ip<s.heap.objs.size:=by
 have h:AT<s.heap.objs.size:=(I.mod.glob.keeps I.bk).lt;exact LJ Aa h
theorem jQ{P:BG}{w:Cs}{H:Hp}(h:CO)(a:Ip<h.objs.size):DH P w H (h.push {cls:=.type "dict",data:=.dict #[]}) h.objs.size (.dK []):=⟨CH _,beq_eq_false_iff_ne.mpr (DP (Ck a)),[],.nil,Heap.DictOf.new h⟩
def M8:TE:=λ_ H Q=>∀p,H p=none->Q (.ref p) (upd H p (.dK []))
theorem Ou{pos:Pos}:PE X (.Dict [] [] pos) M8:=λpZ s σ H Q I h=>
 wpAny_Dict_empty ⟨.ref s.heap.objs.size,_,I.laid (a:=s.heap.objs.size) (o:=.dK []) (t':=s.toks) (λ_ _ q=>Bb _ q) (Bv _) (jQ s.heap I.big),rfl,h _ (I.hok.fresh (Bv _))⟩
def N3(X:Cx)(sp:Sp)(t:TA):TE:=λσ H Q=>t σ H λvs H1=>Hd X.A H1/\sp vs H1 Q E0
theorem uB{k:Nat}{f:Ba}{fd:Ek}{ps:List Bx}{sp:Sp}{x:Bx}{p pos:Pos}{e:Expr}{es:List Expr}{t:TA}(F:Cm X.prog X.w X.K X.mg X.base CXS k f fd ps sp)(i:Fm k X.A)(m:Gl X x)(hm:X.mg x=some (.ref f))(l:FY X.K (.ref f)=true)(o:CC X.K fd ps [])(ha:PA X (e::es) t)(g: (x==("__debug__" :Bx))=false:=by decide)(n:Cn (e::es) X.env=(false,eval e X.env)::Cn es X.env:=by rfl)(d: (FL pos (Cn es X.env)).any (·.1)=false:=by rfl):
  PE X (.Call (.Name x p) (e::es) [] pos) (N3 X sp t):=by
 intro pZ s σ H Q I h;refine DD (JA I m hm ?_ g);refine Jq (h₀:=X.base) I.ok.mod.kin l (ES (ha pos pZ s σ H _ I h) λus s1 b=>?_) n d;obtain⟨vs,H1,c,r,hd,q⟩:=b;refine⟨c.kIn,?_⟩;have j:us.length=ps.length:=by rw[<-r.length];exact F.len _ _ _ _ q
 refine Ho (GT (F.run X.A X.stack s1 H1 ⟨us,[]⟩ us vs Q E0 i (λz=>Ej z) (λ_=>hd) c.env0 (by have z:=o s1 us c.kIn (by rw[De];exact j);rw[De]at z;exact z) r q) λr s' a=>?_);cases r with
 |error e=>exact CG a
 |ok fl=>
  cases fl with
  |ret u=>exact c.after a
  |next=>exact CG a
  |brk=>exact CG a
  |cont=>exact CG a
end
section
variable{X:Cx}
def PJ(X:Cx)(es:List Expr)(t:Bx->TE):Prop:=∀(pZ:List (Ba×Obj)) (s:Bf) (σ:St) (H:Hp) (Q:VK) (a:Bx),CL X pZ σ H s->t a σ H Q->Cc (model X.prog X.w) X.A (joinParts a (evalEach es X.env)) (EP X pZ σ Q) X.xe s
def A2f:Bx->TE:=λa _ H Q=>a.length<=sizeLine/\Q (.str a) H
def A0v(t:TE)(u:Bx->TE):Bx->TE:=λa σ H Q=>t σ H λx H1=>∃y,x= .str y/\(a++y).length<=sizeLine/\u (a++y) σ H1 Q
theorem O7:PJ X [] A2f:=λpZ s σ H Q a I h=>joinParts_nil (show EP X pZ σ Q _ _ from⟨.str a,H,I.tok _,⟨_,rfl⟩,h.2⟩) h.1
theorem WA{e:Expr}{es:List Expr}{t:TE}{u:Bx->TE}(f:PE X e t)(d:PJ X es u):PJ X (e::es) (A0v t u):=λpZ s σ H Q b I h=>by
 show Cc _ _ (joinParts b (eval e X.env::evalEach es X.env)) _ _ _;refine joinParts_cons (ES (f pZ s σ H _ I h) λv s1 a=>?_);obtain⟨x,H1,g,r,y,ex,c,q⟩:=a;subst ex;obtain⟨t,rfl⟩:=r;exact⟨c,d pZ s1 σ H1 Q (b++y) g q⟩
theorem qI{b a:Expr}{rest:List Expr}{pos:Pos}{t:Bx->TE}(h:PJ X (b::a::rest) t):PE X (.JoinedStr (b::a::rest) pos) (t Db):=λpZ s σ H Q I q=>
 JoinedStr_many (h pZ s σ H Q Db I q)
def A1D(t:TE):TE:=λσ H Q=>t σ H λx H1=>(∃y,x= .str y/\y.length<=sizeLine/\Q (.str y) H1)\/∃i,x= .int i/\i.natAbs.log2<1920/\Q (.str (toString i)) H1
theorem uA{e:Expr}{pos:Pos}{t:TE}(f:PE X e t):PE X (.FormattedValue e (-1) none pos) (A1D t):=λpZ s σ H Q I h=>by
 refine FormattedValue_plain (ES (f pZ s σ H _ I h) λv s1 a=>?_);obtain⟨x,H1,b,r,q⟩:=a;rcases q with⟨y,ex,c,q⟩|⟨i,ex,d,q⟩
 ·subst ex;obtain⟨t,rfl⟩:=r;exact formatField_str (λt' tk=>(show EP X pZ σ Q _ _ from⟨.str y,H1,b.tok tk,⟨_,rfl⟩,q⟩)) c
 ·subst ex;obtain⟨t,rfl⟩:=r;exact PySem.wpAny_formatField_int d (show EP X pZ σ Q _ _ from⟨.str (toString i),H1,b.tok _,⟨_,rfl⟩,q⟩)
end
def Za(e C:Ba)(dx:Option Ba):HO:=.ext λh=>∃a0,h.get? e=some (JP (.ref C) dx a0 .none)
theorem lm{P:BG}{w:Cs}{H:Hp}{h:CO}{e C:Ba}{dx:Option Ba}{a0:AY}(q:h.get? e=some (JP (.ref C) dx a0 .none)):DH P w H h e (Za e C dx):=⟨⟨a0,q⟩,⟨_,q⟩,λ_ _ b k=>(by obtain⟨a,c⟩:=b;exact⟨a,k _ c⟩)⟩
theorem SB{P:BG}{w:Cs}{H:Hp}{h:CO}{e C:Ba}{dx:Option Ba}(ok:JE P w H h)(q:H e=some (Za e C dx)):∃a0,h.get? e=some (JP (.ref C) dx a0 .none):=(show DH P w H h e (Za e C dx)from ok e _ q).1
theorem L7{H:Hp}{a:Ba}{o:HO}(h:H a=some o):upd H a o=H:=by
 funext b;unfold upd;split
 ·rename_i z;rw[z,h]
 ·rfl
def untr(H:Hp)(e:Ba):Hp:=λb=>if b=e then none else H b
theorem Hi{H:Hp}{e:Ba}:untr H e e=none:=A36 rfl
theorem Em{H:Hp}{e b:Ba}(h:b≠e):untr H e b=H b:=A35 h
theorem JE.untr{P:BG}{w:Cs}{H:Hp}{h:CO}{e C:Ba}{dx:Option Ba}(ok:JE P w H h)(a:H e=some (Za e C dx)):JE P w (untr H e) h:=λb o q=>by
 have d:b≠e:=by rintro rfl;rw[Hi]at q;cases q
 rw[Em d]at q;refine(ok b o q).stay (λ_ _ _ z=>z) (λc z=>?_) λc xs z=>?_
 ·rw[Em (by rintro rfl;rw[a]at z;cases z)];exact z
 ·rw[Em (by rintro rfl;rw[a]at z;cases z)];exact z
abbrev pJ:List AY:=[.type "ValueError",.type "Exception",.type "BaseException",.type "object"]
structure XMk(K:Be)(C fe fI:Ba):Prop where
 cls:∃nm q N bs sn sub ab col dd k0 k1 k2 k3 k5,K.lookup C=some (QK nm q C N bs (.ref fe::pJ) true sn sub ab col dd k0 k1 k2 k3 k5 "ValueError.__new__")/\PySem.W.nsOkIn K N=true/\PySem.W.nsIn K N "__init__"=some (some (.ref fI))
 xfe:PySem.W.excIn K fe pJ "ValueError.__new__"=true
 feM:Nz K fe (.type "ValueError")=some true
 fn:PySem.W.isFn K (.ref fI)=true
 kp:FY K (.ref C)=true
 sa:Dh K (.ref C) "__setattr__"=some (some (.builtin "object.__setattr__"))
theorem nR{K:Be}{h:CO}{fe:Ba}(kin:K.In h)(t:PySem.W.excIn K fe pJ "ValueError.__new__"=true)(hm:∃cd,Jj K fe=some cd):OwnTail h pJ (.ref fe::pJ):=by
 obtain⟨bm,N,nm,d,bs,hd,sn,sub,ab,col,dd,k0,k1,k2,k3,k5,e,c,b,a,TL⟩:=ro kin t;exact .own c b a .base
theorem mj{K:Be}{h:CO}{N:Ba}{a:Bx->Option AY}{n:Bx}{v:AY}(X:K.In h)(G:h.Ns N a)(e:PySem.W.nsIn K N n=some (some v)):a n=some v:=by
 obtain⟨o,es,ep,b,hd,_,f⟩:=G;unfold PySem.W.nsIn at e;split at e
 ·rename_i c d i j sl q;have:=X _ _ q;rw[b]at this;cases this;cases hd;split at e
  ·rename_i k g;rw[<-f];unfold nsFind findBy;rw[<-Array.find?_toList,g];cases e;rfl
  ·split at e <;> cases e
 ·cases e
section
variable{prog:BG}{w:Cs}{A:Do}{E:AY->Bf->Prop}{h:CO}{g:Array GenState}{d:Drawn}{t:Nat}{os:OsState}
variable{nm q:Bx}{C N:Ba}{bs bm rP:List AY}{hdct:Bool}{sn:List Bx}{sub:List AY}{ab:Bool}{col:Option Bool}{dd:Option Ba}{k0 k1 k2 k3 k5:Option AY}{B newId initId:String}
theorem aG(F:ExcBaseFacts B newId initId rP)(T:OwnTail h rP bm){l:Bx->Option AY}{rest:List AY}{fI:Ba}{s:Obj}{Q:PySem.Fin->Bf->Prop}(j:h.get? C=some (QK nm q C N bs bm hdct sn sub ab col dd k0 k1 k2 k3 k5 newId))(hn:h.Ns N l)(hi:l "__init__"=some (.ref fI))(n:h.get? fI=some s)(m:s.cls= .type "function")(v:∀h' e,Heap.MadeExcOf h h' e (.ref C) rest->Cc (model prog w) A (call (.ref fI) (.ref e::rest)) (λr s'=>r= .none/\Q (.done (.ret (.ref e))) s') E ⟨h',g,d,t,os⟩)(hrest:rest.length<=sizeLine:=by size_fits):
  Cc (model prog w) A (Builtin.«type.__call__» ⟨.ref C::rest,[]⟩) Q E ⟨h,g,d,t,os⟩:=by
 repeat (first|with_reducible refine KU j ?_|with_reducible refine wpAny_madeBy_exc j ?_|wp_step)
 refine codeAny_call_builtin_code (Code.quiet_builtin _ F.quiet) (wpAny_check_new_subT F T j ?_);refine codeAny_exc_new_subT F T j ?_ hrest;show Cc _ _ _ _ _ _;have a:=Bb {cls:=.ref C,data:=.fields #[.ref h.objs.size,.none,.none,.none,.bool false,.none]}
  (Bb {cls:=.type "tuple",data:=.seq rest.toArray} j)
 have c:=Bb {cls:=.ref C,data:=.fields #[.ref h.objs.size,.none,.none,.none,.bool false,.none]}
  (Bb {cls:=.type "tuple",data:=.seq rest.toArray} n)
 have i: ((h.push {cls:=.type "tuple",data:=.seq rest.toArray}).push {cls:=.ref C,data:=.fields #[.ref h.objs.size,.none,.none,.none,.bool false,.none]}).Ns N l:=let ⟨o,es,ep,e,r⟩:=hn;⟨o,es,ep,Bb _ (Bb _ e),r⟩;have f: ((h.push {cls:=.type "tuple",data:=.seq rest.toArray}).push
   {cls:=.ref C,data:=.fields #[.ref h.objs.size,.none,.none,.none,.bool false,.none]}).get? (h.objs.size+1)=some
   {cls:=.ref C,data:=.fields #[.ref h.objs.size,.none,.none,.none,.bool false,.none]}:=by heap_get
 have p: (Value.ref C::bm).contains (.ref C)=true:=by simp
 have k:=T.keeps (h':=(h.push {cls:=.type "tuple",data:=.seq rest.toArray}).push {cls:=.ref C,data:=.fields #[.ref h.objs.size,.none,.none,.none,.bool false,.none]})
  λb o e=>Bb _ (Bb _ e)
 unfold OQ
 repeat (first|with_reducible refine KU f ?_|(with_reducible refine wpAny_isSubtype_exc a ?_;rw[p])|wp_step)
 show Cc _ _ (typeLookup (.ref C) _) _ _ _;refine wpAny_typeLookup_tail a i k F.mroIs F.init.lookup ?_;rw[hi];refine El (Bg ?_);unfold bindSpecial;refine Bg (wpAny_typeOf (T:="function") ⟨_,c,m⟩ ?_);rw[A36 Aa];refine BQ (Bg (FK (v _ (h.objs.size+1) ⟨λb o y=>Bb _ (Bb _ y),YY (EV _),h.objs.size,f,YY (Bv _),?_⟩) (λr s' u=>?_) λ_ _ x=>x))
 ·exact Bb _ (Heap.get?_push_at rfl rfl)
 ·obtain⟨rfl,z⟩:=u
  wp_walk
  exact z
theorem vM(F:ExcBaseFacts B newId initId rP)(T:OwnTail h rP bm){i:Bx->Option AY}{rest:List AY}{fI:Ba}{f:Obj}{Q:AY->Bf->Prop}(a:h.get? C=some (QK nm q C N bs bm hdct sn sub ab col dd k0 k1 k2 k3 k5 newId))(hn:h.Ns N i)(hi:i "__init__"=some (.ref fI))(c:h.get? fI=some f)(b:f.cls= .type "function")(j:∀h' e,Heap.MadeExcOf h h' e (.ref C) rest->Cc (model prog w) (A.under (.builtin "type.__call__" ⟨.ref C::rest,[]⟩)) (call (.ref fI) (.ref e::rest)) (λr s'=>r= .none/\Q (.ref e) s') E ⟨h',g,d,t,os⟩)(hrest:rest.length<=sizeLine:=by size_fits):
  Cc (model prog w) A (call (.ref C) rest) Q E ⟨h,g,d,t,os⟩:=by
 have f1:=tc_lookup;have f2:=tc_bind (.ref C);have k: (⟨h,g,d,t,os⟩:Bf).TypeIs (.ref C) "type":=⟨_,a,rfl⟩;refine Ho (codeAny_of_tree ?_);show Cc _ _ (callAny (.ref C) _) _ _ _
 repeat (any_goals (first|assumption|with_reducible refine KU a ?_|wp_step))
 refine⟨rfl,?_⟩;refine codeAny_call_builtin_at (Code.quiet_builtin _ Ab) entry_typeCall (wpAny_check_type_call_sub a (aG (hrest:=hrest) F T a hn hi c b λh' e hm=>?_));exact j h' e hm
end
section
variable{M:Model}{A:Do}{E:AY->Bf->Prop}{env:Env}
variable{nm q:Bx}{C N:Ba}{bs bm:List AY}{hdct:Bool}{sn:List Bx}{sub:List AY}{ab:Bool}{col:Option Bool}{dd:Option Ba}{k0 k1 k2 k3 k5:Option AY}{newId:String}
theorem Wj{s:Bf}{x:Sem AY}{Q:Flow->Bf->Prop}(b:bm.contains (.type "BaseException")=true)(j:A.handled=none)(h:Cc M A x (λv a=>∃e dx a0,v= .ref e/\a.heap.get? C=some (QK nm q C N bs bm hdct sn sub ab col dd k0 k1 k2 k3 k5 newId)/\a.heap.get? e=some (JP (.ref C) dx a0 .none)/\E (.ref e) a) E s):
  Cc M A (raiseStmt env (some x) none) Q E s:=by
 have f: (Value.ref C::bm).contains (.type "BaseException")=true:=by rw[HD,b,Bool.or_true]
 unfold raiseStmt;refine Bg (FK h (λv a c=>?_) λ_ _ x=>x);obtain⟨e,dx,a0,rfl,i,k,l⟩:=c;obtain⟨m,g,d,tk,os⟩:=a
 repeat (first|with_reducible refine KU k ?_|with_reducible refine KU i ?_|(with_reducible refine wpAny_isSubtype_exc i ?_;rw[f])|wp_step)
 exact wpAny_raiseNew_none j l
end
def pM(X:Cx)(C:Ba)(E:XK):Prop:=∀(pZ:List (Ba×Obj)) (σ:St) (H:Hp) (s:Bf) (e:Ba) (dx:Option Ba),CL X pZ σ H s->H e=some (Za e C dx)->(∀o,X.s_.heap.get? e=some o->e∈X.ex)->E (.ref C) dx (untr H e)->X.xe (.ref e) s
def xY(C:Ba)(sp:Sp)(E:XK)(ta:TA):TS:=λ_ σ H=>ta σ H λvs H1=>vs.length<=sizeLine/\∀e,H1 e=none->sp (.ref e::vs) (upd H1 e (Za e C none)) (λv H2=>v= .non/\∃dx,H2 e=some (Za e C dx)/\E (.ref C) dx (untr H2 e)) E0
theorem UD{X:Cx}{x:Bx}{C fe fI:Ba}{E:XK}{k:Nat}{fd:Ek}{ps:List Bx}{sp:Sp}{np cpos pos:Pos}{e:Expr}{es:List Expr}{ta:TA}(hc:X.calm=true)(hg:Gl X x)(hm:X.mg x=some (.ref C))(M:XMk X.K C fe fI)(G:Cm X.prog X.w X.K X.mg X.base DS k fI fd ps sp)(hr:Fm (k+1) X.A)(hb:CC X.K fd ps [])(hR:pM X C E)(ha:PA X (e::es) ta)(Y: (x==("__debug__" :Bx))=false:=by decide)(U:Cn (e::es) X.env=(false,eval e X.env)::Cn es X.env:=by rfl)(P: (FL cpos (Cn es X.env)).any (·.1)=false:=by rfl):
  PS X (.Raise (some (.Call (.Name x np) (e::es) [] cpos)) none pos) (xY C sp E ta):=by
 intro pZ s σ H D I h;obtain⟨nm,qn,N,bs,sn,sub,ab,col,dd,k0,k1,k2,k3,k5,lk,J,L⟩:=M.cls;have F:=PySem.F.excBase_ValueError;have c: (FL cpos (Cn (e::es) X.env)).any (·.1)=false:=by
  rw[U];show(false|| (FL cpos (Cn es X.env)).any (·.1))=false;rw[P];rfl
 obtain⟨B,Q,S⟩:∃B,X.base.get? fI=some B/\B.cls= .type "function":=by
  have z:Option.map (λx=>x.cls) (EY fI X.K)=some (.type "function"):=beq_iff_eq.mp M.fn;obtain⟨o,R,Z⟩:=BS.mp z;exact⟨o,I.ok.mod.kin _ _ R,Z⟩
 rw[arm_exec_Raise];simp only[evalOpt,Option.map];refine Bg (JJ (Wj (C:=C) (nm:=nm) (q:=qn) (N:=N) (bs:=bs) (bm:=.ref fe::pJ) (hdct:=true) (sn:=sn) (sub:=sub) (ab:=ab) (col:=col) (dd:=dd) (k0:=k0) (k1:=k1) (k2:=k2) (k3:=k3) (k5:=k5) (newId:="ValueError.__new__") (by rw[HD,show pJ.contains (.type "BaseException")=true from by decide+kernel,Bool.or_true]) (I.ok.hd hc) ?_));refine Bg (FK (wpAny_Call_ofName (JA I hg hm ?_ Y)) (λv a3 j=>Bg (JJ (BQ j))) λ_ _ x=>x);have hs:=ha cpos pZ s σ H _ I h;unfold callWith;rw[U]at hs ⊢;refine Bg (El (YZ (ES hs λus s2 t=>?_)));obtain⟨vs,H1,f,r,hz,q⟩:=t;refine Bg (JJ ?_);rw[<-U];simp only[c];have hC:=f.bk _ _ (I.ok.mod.kin _ _ lk);have y:s2.heap.Ns N (s2.heap.nsMap N):=.of_isNs (PySem.W.isNs_of_in f.kIn J);have hi:=mj f.kIn y L;have T:=nR f.kIn M.xfe (by obtain⟨cd,a,_⟩:=Option.bind_eq_some_iff.mp M.feM;exact⟨cd,a⟩);obtain⟨hp,g,d,tk,os⟩:=s2;refine Bg (wpAny_keeperOf_exc hC ?_);refine Bg (vM F T hC y hi (f.bk _ _ Q) S (λh' b m=>?_) (by show us.length<=sizeLine;rw[<-r.length];exact hz));obtain⟨t0,O,_,_⟩:=m.there;have i:H1 b=none:=by
  cases z:H1 b with
  |none=>rfl
  |some o=>
   obtain⟨u,hu⟩:=(f.hok b o z).some_of;rw[show hp.get? b=none from m.new]at hu;cases hu
 have p:∀o,X.s_.heap.get? b=some o->b∈X.ex:=λo z=>by
  by_cases l:b∈X.ex
  ·exact l
  ·obtain⟨o',q'⟩:=f.base.there b o z l;rw[show hp.get? b=none from m.new]at q';cases q'
 have I2:CL X pZ σ (upd H1 b (Za b C none)) ⟨h',g,d,tk,os⟩:=f.un (h':=h') (t':=tk) ((Un.kept m.keeps).track m.new i) ((f.hok.kept m.keeps).track i (lm O));have q2:=q b i;have r2:CQ (V.ref b::vs) (Value.ref b::us):=.cons rfl r;have hl: (Value.ref b::us).length=ps.length:=by rw[<-r2.length];exact G.len _ _ _ _ q2
 refine Ho (GT (G.run _ X.stack _ _ ⟨Value.ref b::us,[]⟩ (Value.ref b::us) _ _ E0 (hr.make C us []) (λ_=>I.ok.hd hc) (λz=>Ej z) (I2.env0.make C us []) (by have z:=hb ⟨h',g,d,tk,os⟩ (Value.ref b::us) I2.kIn (by rw[De];exact hl);rw[De]at z;exact z) r2 q2) λr s' n=>?_);cases r with
 |error x=>exact CG n
 |ok fl=>
  cases fl with
  |ret u=>
   obtain⟨v,H',I3,rv,ev,dx,l,q3⟩:=I2.after n;subst ev;obtain⟨a0,R⟩:=SB I3.hok l;exact⟨rv,Bg (El (wpAny_point (BQ ⟨b,dx,a0,rfl,I3.bk _ _ (I.ok.mod.kin _ _ lk),R,hR pZ σ H' s' b dx I3 l p q3⟩)))⟩
  |next=>exact CG n
  |brk=>exact CG n
  |cont=>exact CG n
section
variable{cm:Bool}{P:BG}{w:Cs}{K:Be}{mg:Bx->Option AY}{base:CO}{N:List Bx}{qual:Bx}{scope:Scope}{f:Ba}{cd:AY}{A:Do}{outer:List Env}{s:Bf}{H:Hp}{E:XK}
theorem Rh{C:Ba}:pM (bi (XC P w cm) P w K mg base N qual scope f cd A outer s H E) C E:=λpZ σ l c e dx I k D q=>by
 obtain⟨a0,T⟩:=SB I.hok k;have j:∀b,b∉ ([]:List Ba):=λb z=>A38 z (by simp);have new:s.heap.get? e=none:=by
  cases z:s.heap.get? e with
  |none=>rfl
  |some o=>exact A38 (D o z) (j e)
 have v:JE P w (untr l e) c.heap:=I.hok.untr k;have sub:∀b o,(HM c.heap (e::ND (GD qual scope s.heap.objs.size f cd::outer))).get? b=some o->c.heap.get? b=some o:=λb o q=>PySem.W.of_hideAll _ q;have r:∀b o,s.heap.get? b=some o->b∉ND outer->b∉e::ND (GD qual scope s.heap.objs.size f cd::outer):=λb o q a z=>by
  rcases BK.mp z with V|z
  ·rw[V,new]at q;cases q
  ·have h:b∈s.heap.objs.size::ND outer:=z;rcases BK.mp h with e|e
   ·exact A38 (BN q) (by rw[e];exact Ev _)
   ·exact a e
 have kp:U6 (ND outer) H (untr l e) s.heap (HM c.heap (e::ND (GD qual scope s.heap.objs.size f cd::outer))):=by
  refine⟨λb o q n a=>?_,λb o q a=>?_,λb n=>?_⟩
  ·exact Lr _ (I.base.keep b o q n a (j b)) (r b o q a)
  ·obtain⟨o',Q⟩:=I.base.there b o q (j b);exact⟨o',Lr _ Q (r b o q a)⟩
  ·have F:b≠e:=by rintro rfl;exact n Hi
   rw[Em F]at n;cases q:l b with
   |none=>exact A38 q n
   |some x=>
    obtain⟨u,Z⟩:=(I.hok b x q).some_of;refine⟨u,Lr _ Z λz=>?_⟩;rcases BK.mp z with V|z
    ·exact F V
    ·have:=I.stkFree b z;rw[q]at this;cases this
 have S: (HM c.heap (e::ND (GD qual scope s.heap.objs.size f cd::outer))).get? e=none:=TX _ Ds;have U:c.heap.FunFrames base (GD qual scope s.heap.objs.size f cd::outer):=I.stack;have G:c.heap.FunFrames (HM c.heap (e::ND (GD qual scope s.heap.objs.size f cd::outer))) (GD qual scope s.heap.objs.size f cd::outer):=VE U λenv T b a=>CJ _ (List.mem_filterMap.mpr ⟨env,T,a⟩);show Cc (model P w) (A.deeper (GD qual scope s.heap.objs.size f cd)) (leaving (GD qual scope s.heap.objs.size f cd) (.ref e)) _ _ _;unfold leaving;refine Bg (zh (B:=HM c.heap (e::ND (GD qual scope s.heap.objs.size f cd::outer))) I.ok.frames G rfl T (λb o z=>sub b o z) S λh1 F1 up1=>?_);refine Tz F1 λh2 L M=>?_;have jw:∀b o,l b=some o->(∀C dx,o≠Za e C dx)->b≠e:=λb o z n=>by
  rintro rfl;rw[k]at z;exact n _ _ (AR z).symm
 have d:c.heap.UpToSlots h2:=up1.trans M;have Y:∀b∈ND outer,∃o,c.heap.get? b=some o/\∀vs,o.data≠ .fields vs:=λb a=>by
  obtain⟨_,o,i,t⟩:=G.2.2.mem a;exact⟨o,i,t⟩
 have g:Un (ND outer) [] H l s.heap c.heap:=I.base;refine⟨e,.ref C,dx,untr l e,_,rfl,I.os,I.bare,?_,v.flown kp.tk (λb o z=>sub b o z) L.st,L.drop,Hi,new,kp,q⟩;refine⟨λb o i n a _=>L.st b o (kp.k1 b o i n a),λb o i n a k=>?_,λb o i n R=>?_,λb o i k=>?_,λb xs z=>?_,λb o u z=>?_,λb ps z=>?_⟩
 ·obtain⟨sl,X⟩:=g.slot b o i n a k;obtain⟨o',J,t⟩:=Y b a;rw[X]at J;cases J;obtain⟨p,O⟩:=d b _ X t;exact⟨p,O⟩
 ·unfold untr;split
  ·rfl
  ·exact g.free b o i n R
 ·by_cases a:b∈ND outer
  ·obtain⟨o',J,t⟩:=Y b a;obtain⟨p,O⟩:=d b _ J t;exact⟨_,O⟩
  ·obtain⟨o',Q⟩:=kp.k2 b o i a;exact⟨o',L.st b o' Q⟩
 ·have h:=g.tups b xs z;rw[Em (jw b _ h (λ_ _ y=>by cases y))];exact h
 ·have h:=g.frzs b o u z;rw[Em (jw b _ h (λ_ _ y=>by cases y))];exact h
 ·obtain⟨m,h⟩:=g.tbls b ps z;exact⟨m,by rw[Em (jw b _ h (λ_ _ y=>by cases y))];exact h⟩
end
section
variable{X:Cx}
def M4(C:Ba)(ta:TA):TE:=λσ H Q=>ta σ H λvs H1=>∃e rest dx,vs= .ref e::rest/\H1 e=some (Za e C dx)/\rest.length<=sizeLine/\Q .non H1
structure zY(K:Be)(fe:Ba):Prop where
 ga:Nr K (.ref fe) "__getattribute__"=some (some (.builtin "type.__getattribute__"))
 rd:PySem.W.readsIn K fe (.type "type")=true
 fi:PySem.W.findCls K (.ref fe) (.type "type") "__init__"=some (.val (.builtin "ValueError.__init__"))
theorem uy{pl:Sem Bool}{x:Bx}{C fe fI:Ba}{np apos pos:Pos}{e:Expr}{es:List Expr}{ta:TA}(V:Gl X x)(hm:X.mg x=some (.ref fe))(Z:zY X.K fe)(M:XMk X.K C fe fI)(ha:PA X (e::es) ta)(t: (x==("__debug__" :Bx))=false:=by decide)(Y:Cn (e::es) X.env=(false,eval e X.env)::Cn es X.env:=by rfl)(n: (FL pos (Cn es X.env)).any (·.1)=false:=by rfl)(S:eval (.Call (.Attribute (.Name x np) "__init__" apos) (e::es) [] pos) X.env=(do
   let z <-eval (.Name x np) X.env
   standAt apos.atName
   let (f,first) <-holding [z] (getMethod z "__init__" pl)
   callWith pos f first (FL pos (Cn (e::es) X.env)) (backToKw pos (JY [] X.env))):=by rfl):
  PE X (.Call (.Attribute (.Name x np) "__init__" apos) (e::es) [] pos) (M4 C ta):=by
 intro pZ s σ H Q I h;have F:=PySem.F.excBase_ValueError;obtain⟨nm,qn,N,bs,sn,sub,ab,col,dd,k0,k1,k2,k3,k5,lk,J,L⟩:=M.cls;refine Ru (pl:=pl) (JA I V hm ?_ t) S;refine PySem.W.method_cls I.kIn Z.ga (PySem.W.cls_value I.kIn Z.rd Z.fi rfl ?_);refine Kk (ES (ha pos pZ _ σ H _ (I.tok _) h) λus s1 k=>?_) Y n;obtain⟨vs,H1,l,y,i,rest,dx,ev,m,O,G⟩:=k;subst ev;cases us with
 |nil=>exact A38 y.length (by simp)
 |cons u us=>
  obtain⟨R,U⟩:u= .ref i/\CQ rest us:=by cases y with|cons a b=>exact⟨a,b⟩
  subst R;obtain⟨a0,B⟩:=SB l.hok m;have hC:=l.bk _ _ (I.ok.mod.kin _ _ lk);have T:=nR l.kIn M.xfe (by obtain⟨cd,a,_⟩:=Option.bind_eq_some_iff.mp M.feM;exact⟨cd,a⟩);have P:us.length<=sizeLine:=by rw[<-U.length];exact O
  obtain⟨c,g,d,tk,os⟩:=s1;refine Ho (GU F.init.plain F.initEntry (wpAny_check_init_subT F T hC B rfl ?_))
  wp_walk
  have p:=Bb {cls:=EB "tuple",data:=Data.seq us.toArray} (show c.get? i=some (JP (.ref C) dx a0 .none)from B);have j: ((c.push {cls:=EB "tuple",data:=Data.seq us.toArray}).update i (JK λx=>x.setIfInBounds 0 (Value.ref c.objs.size))).get? i=some (JP (.ref C) dx (.ref c.objs.size) .none):=by
   rw[Gw _ p rfl];rfl
  have I2:CL X pZ σ H1 {heap:=c.push {cls:=EB "tuple",data:=Data.seq us.toArray},gens:=g,drawn:=d,toks:=tk,os:=os}:=l.kept (t':=tk) λb u q=>Bb _ q;have E:=I2.write (x:=i) (e:=i) (o:=Za i C dx) (h':=(c.push {cls:=EB "tuple",data:=Data.seq us.toArray}).update i (JK λx=>x.setIfInBounds 0 (Value.ref c.objs.size))) (t':=tk) (by rw[m];trivial) (.inl rfl) (λb u hb q=>(DV _ _ (DP hb)).trans q) ⟨_,j⟩ (lm j);rw[L7 m]at E;have fin:Cc (model X.prog X.w) X.A.in1 (ret CM) (λfin s'=>match fin with
    |PySem.Fin.done f=>(match (Except.ok f:Result)with|Except.ok (Flow.ret v)=>EP X pZ σ Q v s'|Except.ok a=>False|Except.error e=>X.xe e s')
    |PySem.Fin.again D=>D.quiet=true/\IN (model X.prog X.w) X.A D (λr s'=>match r with|Except.ok (Flow.ret v)=>EP X pZ σ Q v s'|Except.ok a=>False|Except.error e=>X.xe e s') s')
    (λe s'=>match (Except.error e:Result)with|Except.ok (Flow.ret v)=>EP X pZ σ Q v s'|Except.ok a=>False|Except.error e=>X.xe e s')
    {heap:=(c.push {cls:=EB "tuple",data:=Data.seq us.toArray}).update i (JK λx=>x.setIfInBounds 0 (Value.ref c.objs.size)),gens:=g,drawn:=d,toks:=tk,os:=os}:=BQ (show EP X pZ σ Q CM _ from⟨.non,H1,E,rfl,G⟩)
  show Cc _ _ (match a0 with|Value.ref a=>letGo [a0]|x=>pure ()) _ _ _;split
  ·exact wpAny_letGo fin
  ·exact BQ fin
end
section
variable{X:Cx}{o value:Expr}{f:Bx}{pos pos':Pos}{ta tv:TE}
def X9(K:Be)(f:Bx)(ta:TE):TE:=λσ H Q=>ta σ H λx H1=>∃e C d a0 tb fs v,x= .ref e/\H1 e=some (wu e (JP (.ref C) (some d) a0 tb))/\H1 d=some (.xd fs)/\ki K C/\HJ K C f/\fs.lookup f=some v/\Q v H1
theorem ll{prog:BG}{w:Cs}{A:Do}{E:AY->Bf->Prop}{s:Bf}{K:Be}{C e:Ba}{oe:Obj}{od:Option Obj}{name:Bx}{v:AY}{expr:Bool}{Q:AY->Bf->Prop}(Z:ki K C)(X:K.In s.heap)(I:ER s.heap e oe C od)(c:PySem.W.findObj K C od name=some (.value v))(b:PySem.W.handedIn v=true)(h:Q v {s with toks:=s.toks+1}):Cc (model prog w) A (getAttr (.ref e) name expr) Q E s:=by
 obtain⟨a,g,d,t,os⟩:=s;have i:=I.type (M:=model prog w);have f:=PySem.W.looks_find (M:=model prog w) X I c;unfold getAttr;refine Bg (wpAny_mkText (zL Z X I (GU YT F.entry_bexc_ga (YU (X1 Z X I) ?_))));unfold Builtin.«object.__getattribute__»;refine Bg (BQ ?_)
 dsimp only
 refine Bg (BQ (Bg (i.at (Bg (f.at ?_)))))
 dsimp only
 refine BQ ?_;show Cc _ _ (handedOut v) _ _ _;rw[PySem.W.handedOut_of b];exact BQ h
theorem oO(y:PE X o ta)(z:Iy o f X.env (eval o X.env)=eval o X.env):PE X (.Attribute o f pos) (X9 X.K f ta):=by
 intro pZ s σ H Q I h;refine gh z (ES (y pZ s σ H _ I h) λu s1 b=>?_);obtain⟨x,H1,c,l,e,C,d,a0,tb,fs,v,ex,A,hd,Z,m,t,q⟩:=b;subst ex;obtain rfl:u=Value.ref e:=l;obtain⟨p,_⟩:=c.hok e _ A;obtain⟨mA,i,a⟩:=(show DH X.prog X.w H1 s1.heap d (.xd fs)from c.hok d _ hd);have r:=a f;rw[t]at r;obtain⟨u,n,k⟩:=r.some_of;obtain⟨od,g,j⟩:=UH i;have B:ER s1.heap e (JP (.ref C) (some d) a0 tb) C (some od):=⟨p,rfl,rfl,g⟩;exact ll Z c.kIn B (PySem.W.findObj_own Z.hd m rfl (by rw[j,n])) (ck k) ⟨v,H1,c.tok _,k,q⟩
end
section
variable{X:Cx}{o value:Expr}{f:Bx}{pos pos':Pos}{ta tv:TE}
theorem qo{fs:List (Bx×V)}{mA:Bx->Option AY}(h:∀f,La (fs.lookup f) (mA f)):PySem.Within mA (fs.map (·.1)):=λy a=>by
 cases e:fs.lookup y with
 |none=>have:=h y;rw[e]at this;exact A38 this.none_of a
 |some v=>exact Bm.mpr ⟨(y,v),FF e,rfl⟩
theorem ix{prog:BG}{w:Cs}{A:Do}{s:Bf}{R:Result->Bf->Prop}{K:Be}{C fe fI x:Ba}{d:Obj}{od:Option Obj}{name:Bx}{tk:Tok}{v:AY}(X:K.In s.heap)(I:ER s.heap x d C od)(M:XMk K C fe fI)(j:HJ K C name)(h:∀b,Cc (model prog w) A.in1 (Builtin.ObjectAttr.storeInOwnDict (.ref x) (.ref C) (.str name tk) name v b) (λfin s'=>match fin with|.done f=>R (.ok f) s'|.again c=>c.quiet=true/\IN (model prog w) A c R s') (λe s'=>R (.error e) s') s):
  IN (model prog w) A (.call (.builtin "object.__setattr__") ⟨[.ref x,.str name tk,v],[]⟩) R s:=by
 have SF:=PySem.F.store_ValueError;obtain⟨nm,l,N,bs,sn,sub,ab,col,dd,k0,k1,k2,k3,k5,lk,g,i⟩:=M.cls;obtain⟨cd,hc,a⟩:∃cd,Jj K C=some cd/\cd.mro= .ref C:: .ref fe::pJ:=⟨_,by unfold Jj;rw[lk],rfl⟩;have hm:PySem.W.Looks (model prog w) s.heap (mroOf (.ref C)) cd.mro:=(Lq X hc).andThen .now;have k: (Value.ref C:: .ref fe::pJ).contains (.type "object")=true:=by rw[HD,HD,show pJ.contains (.type "object")=true from by decide+kernel,Bool.or_true,Bool.or_true]
 have sub:PySem.W.Looks (model prog w) s.heap (OQ (.ref x) (.type "object")) true:=I.type.andThen (PySem.W.looks_mroIn X (by unfold Nz;rw[hc,Option.bind_some,a,A35 (by simp),k]));refine GU SF.slot.plain SF.entry (@PySem.W.check_slot (model prog w) _ _ s "object.__setattr__" "object" "__setattr__" (.ref x) [.str name tk,v] [] _ SF.kind SF.split sub (SF.args (.ref x) (.str name tk) v) ?_);rw[PySem.W.osa_eq,refuse_eq];refine Bg (Bg (I.type.here (Bg (hm.here ?_))));rw[a,refuseLoop_ref,refuseLoop_ref,SF.passes];refine BQ (Bg (I.type.here (Bg ((KW X j).here (Bg ?_)))));exact BQ (h _)
def sXF(K:Be)(C:Ba)(f:Bx)(ta tv:TE):TS:=λD σ H=>tv σ H λy H1=>ta σ H1 λx H2=>∃e,x= .ref e/\HJ K C f/\((H2 e=some (Za e C none)/\∀d,H2 d=none->D.nx σ (upd (upd H2 d (.xd [(f,y)])) e (Za e C (some d))))\/
  ∃d fs,H2 e=some (Za e C (some d))/\H2 d=some (.xd fs)/\fs.length<1000/\D.nx σ (upd H2 d (.xd (Lz f y fs))))
theorem oK{C fe fI:Ba}(M:XMk X.K C fe fI)(ha:PE X o ta)(hv:PE X value tv)(hs:swapsWith value (some (.Attribute o f pos')) pos.line X.env=pure false):PS X (.Assign [.Attribute o f pos'] value pos) (sXF X.K C f ta tv):=by
 intro pZ s σ H D I h;refine plainObj_wpAny_Assign_Attribute (ES (hv pZ s σ H _ I h) λu s1 S=>?_) hs;obtain⟨y,H1,I1,ry,q⟩:=S;refine ES (ha pZ s1 σ H1 _ I1 q) λov s2 R=>?_;obtain⟨x,H2,j,rx,e,ex,na,E⟩:=R;subst ex;obtain rfl:ov=Value.ref e:=rx;obtain⟨nm,qn,N,bs,sn,sub,ab,col,dd,k0,k1,k2,k3,k5,lk,b2,b3⟩:=M.cls;obtain⟨cd,hc,Q⟩:∃cd,Jj X.K C=some cd/\cd.hasDict=true:=⟨_,by unfold Jj;rw[lk],rfl⟩;rcases E with⟨k,E⟩|⟨d,fs,k,hd,hz,E⟩
 ·obtain⟨a0,t⟩:=SB j.hok k;have U:ER s2.heap e (JP (.ref C) none a0 .none) C none:=⟨t,rfl,rfl,trivial⟩;refine PySem.W.set_plain j.kIn U M.sa (ix (s:={s2 with toks:=s2.toks+1}) j.kIn U M na λb=>?_);refine Bg (BQ (Bg (Bg (wpAny_loadPart t (Bg (PySem.W.Looks.here (s:={s2 with toks:=s2.toks+1}) (Lq j.kIn hc) ?_))))));rw[Q];show Cc _ _ (do
   let d <-alloc {cls:=EB "dict",data:=Data.dict #[]}
   update e λo=>{cls:=o.cls,dict:=some d,data:=o.data,slots:=o.slots}
   dictMade (.ref C) e d) _ _ _
  have J:=Bb {cls:=EB "dict",data:=Data.dict #[]} t;have T:e≠s2.heap.objs.size:=Ck (BN t);refine Bg (wpAny_alloc' (Bg (wpAny_update' J (BQ ?_))));have a3: ((s2.heap.push {cls:=EB "dict",data:=Data.dict #[]}).update e λo=>{cls:=o.cls,dict:=some s2.heap.objs.size,data:=o.data,slots:=o.slots}).get? s2.heap.objs.size
    =some {cls:=EB "dict",data:=Data.dict #[]}:=(Heap.get?_update_ne _ _ _ _ T.symm).trans (Heap.get?_push_at rfl rfl)
  have a2: ((s2.heap.push {cls:=EB "dict",data:=Data.dict #[]}).update e λo=>{cls:=o.cls,dict:=some s2.heap.objs.size,data:=o.data,slots:=o.slots}).get? e
    =some (JP (.ref C) (some s2.heap.objs.size) a0 .none):=Gw _ J rfl
  have hnd: ((s2.heap.push {cls:=EB "dict",data:=Data.dict #[]}).update e λo=>{cls:=o.cls,dict:=some s2.heap.objs.size,data:=o.data,slots:=o.slots}).Ns s2.heap.objs.size (λ_=>none):=⟨_,#[],_,a3,rfl,λe he=>A38 he (by simp),λ_=>rfl⟩;show Cc _ _ (Builtin.ObjectAttr.storeInDict s2.heap.objs.size (.str f s2.toks) f u) _ _ _;unfold Builtin.ObjectAttr.storeInDict Builtin.ObjectAttr.newKeyGuard;refine Bg (BQ (Bg (wpAny_nsSet1 (Heap.Ns1.of_empty hnd) λh' P F=>?_)));obtain⟨oD,a5,a6,m,A,B⟩:=P.count (Within.cons f u Within.nil);refine Bg (wpAny_lookBehind m (by rw[A];exact pastItsLine_dict (BF B (by rw[Cj,QL,FE];omega))) ?_);have i:H2 s2.heap.objs.size=none:=j.hok.fresh (Bv _);have r:h'.get? e=some (JP (.ref C) (some s2.heap.objs.size) a0 .none):=(F.2 e T).trans a2;have kp:∀b o,b≠e->s2.heap.get? b=some o->h'.get? b=some o:=λb o l q=>
   (F.2 b (Ck (BN q))).trans ((Heap.get?_update_ne _ _ _ _ l).trans (Bb _ q))
  have G:JE X.prog X.w (upd (upd H2 s2.heap.objs.size (.xd [(f,y)])) e (Za e C (some s2.heap.objs.size))) h':=λb o q=>by
   by_cases l:b=e
   ·subst l;rw[AX]at q;cases q;exact lm r
   ·rw[Bo l]at q;by_cases hd:b=s2.heap.objs.size
    ·subst hd;rw[AX]at q;cases q;refine⟨_,P,λg=>?_⟩;show La (EY g [(f,y)]) (if g=f then some u else none)
     by_cases q:g=f
     ·subst q;rw[A36 rfl,FN,beq_self_eq_true];exact ry
     ·rw[A35 q,FN,beq_eq_false_iff_ne.mpr q];exact Ef
    ·rw[Bo hd]at q;refine(j.hok b o q).stay (λc v a4 z=>kp c v ?_ z) (λc z=>?_) λc xs z=>?_
     ·rintro rfl;rcases a4 with V|V
      ·exact l V.symm
      ·rw[k]at V;cases V
     ·rw[Bo (by rintro rfl;rw[k]at z;cases z),Bo (Ce z i)];exact z
     ·rw[Bo (by rintro rfl;rw[k]at z;cases z),Bo (Ce z i)];exact z
  have Y:Un X.fs [] H2 (upd (upd H2 s2.heap.objs.size (.xd [(f,y)])) e (Za e C (some s2.heap.objs.size))) s2.heap h':=by
   refine⟨λb o q n l _=>kp b o (by rintro rfl;rw[k]at n;cases n) q,λb o q n l _=>⟨o.slots,kp b o (by rintro rfl;rw[k]at n;cases n) q⟩,λb o q n _=>?_,λb o q _=>?_,λb xs z=>?_,λb o u z=>?_,λb ps z=>⟨#[],?_⟩⟩
   ·rw[Bo (by rintro rfl;rw[k]at n;cases n),Bo (Ck (BN q))];exact n
   ·by_cases l:b=e
    ·rw[l];exact⟨_,r⟩
    ·exact⟨o,kp b o l q⟩
   ·rw[Bo (by rintro rfl;rw[k]at z;cases z),Bo (Ce z i)];exact z
   ·rw[Bo (by rintro rfl;rw[k]at z;cases z),Bo (Ce z i)];exact z
   ·rw[Bo (by rintro rfl;rw[k]at z;cases z),Bo (Ce z i),Array.append_empty];exact z
  exact BQ ⟨σ,_,j.un (h':=h') Y G,E _ i⟩
 ·obtain⟨a0,t⟩:=SB j.hok k;obtain⟨mA,L,p⟩:=(show DH X.prog X.w H2 s2.heap d (.xd fs)from j.hok d _ hd);obtain⟨od,a1,b5⟩:=UH L;have U:ER s2.heap e (JP (.ref C) (some d) a0 .none) C (some od):=⟨t,rfl,rfl,a1⟩;refine PySem.W.set_plain j.kIn U M.sa (ix (s:={s2 with toks:=s2.toks+1}) j.kIn U M na λb=>?_);refine Bg (BQ (Bg (Bg (wpAny_loadPart t (Bg (PySem.W.Looks.here (s:={s2 with toks:=s2.toks+1}) (Lq j.kIn hc) ?_))))));rw[Q];refine BQ (a:=some d) (Bg (BQ (Bg ?_)));refine wpAny_nsSet1 (s:={s2 with toks:=s2.toks+1}) L λh' O Z=>?_;obtain⟨oD,a5,a6,m,A,B⟩:=O.count (PySem.Within.cons f u (qo p));refine Bg (wpAny_lookBehind m (by rw[A];exact pastItsLine_dict (BF B (by rw[Cj,AV,FE];omega))) ?_);have new:DH X.prog X.w (upd H2 d (.xd (Lz f y fs))) h' d (.xd (Lz f y fs)):=by
   refine⟨_,O,λg=>?_⟩;show La ((Lz f y fs).lookup g) (if g=f then some u else mA g)
   rw[Oz];by_cases q:g=f
   ·rw[A36 q,A36 q];exact ry
   ·rw[A35 q,A35 q];exact p g
  exact BQ ⟨σ,_,j.write (x:=d) (e:=d) (h':=h') (by rw[hd];trivial) (.inl rfl) (λb u l q=>(Z.2 b l).trans q) ⟨_,m⟩ new,E⟩
end
theorem lR{X:Cx}{x:Bx}{i:Int}{t:Tok}{pos:Pos}(hm:X.mg x=some (.int i t))(a:Gl X x:=by rfl)(hd: (x==("__debug__" :Bx))=false:=by decide):PE X (.Name x pos) (tC (.int i)):=fK a hm ⟨t,rfl⟩ hd
theorem Ia{c A B:Prop} [Decidable c](hc:¬c)(h:B):if decide c=true then A else B:=by
 rw[A35 (by simpa using hc)];exact h
theorem kq{X:Cx}{x:Bx}{T:String}{pos:Pos}(hm:X.mg x=none)(a:CP x=some (.type T))(b:Gl X x:=by rfl)(hn:x≠ "__name__":=by decide)(hd: (x==("__debug__" :Bx))=false:=by decide):PE X (.Name x pos) (tC (.ty T)):=yy b hm a rfl hn hd
theorem JH{H:Hp}{a p:Ba}{o u:HO}(h:H a=some o)(b:H p=none): (upd H p u) a=some o:=by
 rw[Bo (Ce h b)];exact h
theorem BM{H:Hp}{p:Ba}{u:HO}(a:H p=none):BC H (upd H p u):=λ_ _ e=>JH e a
theorem DZ{X:Cx}{scope:Scope}(h: (scope.names.all λp=>!(p.2== .free) || (X.env.cells.lookup p.1).isSome)=true):∀y∈scope.names,y.2= .free->(X.env.cells.lookup y.1).isSome=true:=λy a e=>by
 have:=BI.mp h y a;rw[e]at this;simpa using this
theorem Wn{c A B:Prop} [Decidable c](hc:c)(h:A):if decide c=true then A else B:=by
 rw[A36 (A32 hc)];exact h
theorem Wl{X:Cx}{x:Bx}{a:Ba}{pos:Pos}(hm:X.mg x=some (.ref a))(b:Gl X x:=by rfl)(hd: (x==("__debug__" :Bx))=false:=by decide):PE X (.Name x pos) (tC (.ref a)):=fK b hm rfl hd
theorem CY{X:Cx}(K:Be)(a:X.K=K):IM X (.builtin "isinstance") (λxs H Q=>∃x c t cv b,xs=[x,c]/\GK K H x t/\DA c cv/\Co K t cv=some b/\Q (.bl b) H):=by
 subst a;exact ka
theorem BC.put{H H':Hp}{p:Ba}{o:HO}(s:BC H H')(h:H p=none):BC H (upd H' p o):=λb u e=>by
 rw[Bo (Ce e h)];exact s b u e
def Z3(t u:TS):TS:=λD σ H=>∃M:St->Hp->Prop,t {D with nx:=M} σ H/\∀a H',M a H'->u D a H'
theorem Df{t u:TS}{D:Wt}{σ:St}{H:Hp}(M:St->Hp->Prop)(h1:t {D with nx:=M} σ H)(h2:∀a H',M a H'->u D a H'):Z3 t u D σ H:=⟨M,h1,h2⟩
theorem BE{X:Cx}{st:Dn}{rest:List Dn}{t u:TS}(h1:PS X st t)(h2:WH X rest u):WH X (st::rest) (Z3 t u):=by
 intro pZ s σ H D I ⟨M,h,k⟩;refine TW (FK (h1 pZ s σ H {D with nx:=M} I h) (λf s1 q=>?_) λ_ _ x=>x);cases f with
 |next=>
  obtain⟨a,H1,c,b⟩:=q;exact h2 pZ s1 a H1 D c (k a H1 b)
 |ret v=>exact q
 |brk=>exact q
 |cont=>exact q
theorem FJ{us:List AY}(h:us.length=1):∃a,us=[a]:=by
 obtain _|⟨a,us⟩:=us
 ·simp at h
 obtain _|⟨u,us⟩:=us
 ·exact⟨_,rfl⟩
 ·simp at h
theorem FB{us:List AY}(h:us.length=2):∃b a,us=[b,a]:=by
 obtain _|⟨b,us⟩:=us
 ·simp at h
 obtain _|⟨a,us⟩:=us
 ·simp at h
 obtain _|⟨u,us⟩:=us
 ·exact⟨_,_,rfl⟩
 ·simp at h
theorem bF{us:List AY}(h:us.length=3):∃c b a,us=[c,b,a]:=by
 obtain _|⟨c,us⟩:=us
 ·simp at h
 obtain _|⟨b,us⟩:=us
 ·simp at h
 obtain _|⟨a,us⟩:=us
 ·simp at h
 obtain _|⟨u,us⟩:=us
 ·exact⟨_,_,_,rfl⟩
 ·simp at h
theorem X5{us:List AY}(h:us.length=4):∃d c b a,us=[d,c,b,a]:=by
 obtain _|⟨d,us⟩:=us
 ·simp at h
 obtain _|⟨c,us⟩:=us
 ·simp at h
 obtain _|⟨b,us⟩:=us
 ·simp at h
 obtain _|⟨a,us⟩:=us
 ·simp at h
 obtain _|⟨u,us⟩:=us
 ·exact⟨_,_,_,_,rfl⟩
 ·simp at h
theorem X4{us:List AY}(h:us.length=6):∃f e d c b a,us=[f,e,d,c,b,a]:=by
 obtain _|⟨f,us⟩:=us
 ·simp at h
 obtain _|⟨e,us⟩:=us
 ·simp at h
 obtain _|⟨d,us⟩:=us
 ·simp at h
 obtain _|⟨c,us⟩:=us
 ·simp at h
 obtain _|⟨b,us⟩:=us
 ·simp at h
 obtain _|⟨a,us⟩:=us
 ·simp at h
 obtain _|⟨u,us⟩:=us
 ·exact⟨_,_,_,_,_,_,rfl⟩
 ·simp at h
theorem HA{N P:List Bx}{sc:Scope}(h1:sc.kind= .function:=by rfl)(h2:sc.isCoroutine=false:=by rfl)(h3:sc.isGenerator=false:=by rfl)(d:N.Nodup:=by decide+kernel)(c:N.take P.length=P:=by rfl)(b:∀x∈P,sc.names.lookup x=some .local\/sc.names.lookup x=some .cell:=by decide+kernel)(a:∀y∈sc.names,y.2≠ .free:=by decide+kernel):Cd N P sc:=⟨h1,h2,h3,d,c,b,a⟩
theorem zl(n:Nat)(h:Nat.ble n sizeLine=true:=by rfl):n<=sizeLine:=Nat.le_of_ble_eq_true h
end L2
namespace HL
open PySem PySem.W
theorem zf(h:CO)(a:Ba)(o:Obj):∀l:List Nat,((l.filterMap λa=>(h.get? a).map λo=>(a,o)):Frag).lookup a=some o->h.get? a=some o:=by
 intro l;induction l with
 |nil=>intro e;cases e
 |cons b l c=>
  intro e;cases q:h.get? b with
  |none=>rw[GM,q]at e;exact c e
  |some x=>
   rw[GM,q]at e
   dsimp only[Option.map]at e
   rw[FN]at e;cases z: (a==b)with
   |true=>rw[z]at e;cases e;rw[beq_iff_eq.mp z];exact q
   |false=>rw[z]at e;exact c e
def nth{a:Type}:List a->Nat->Option a
 |[],_=>none
 |x::_,0=>some x
 |_::l,n+1=>nth l n
theorem AU{a:Type}{l m:List a}(h:l=m)(i:Nat):nth l i=nth m i:=by rw[h]
theorem Bn{a:Type}{x:a}{f:a->Bool}:∀{l:List a} (i:Nat),l.all f=true->nth l i=some x->f x=true
 |y::l,0,h,e=>by cases e;rw[HN,BZ]at h;exact h.1
 |y::l,i+1,h,e=>by rw[HN,BZ]at h;exact Bn i h.2 e
abbrev FV:=Bx×Bx×NE×FuncBody×Scope×Ba×List (Bx×Ba)×AY×Ba×Bool
def Br(K:Frag)(f:Ba):Ek:=match K.lookup f with
 |some o=>(match o.data with|.func fd=>fd|_=>default)
 |_=>default
def fv(K:Frag)(f:Ba):Option FV:=match K.lookup f with
 |some o=>(match o.data with
  |.func fd=>some (fd.name,fd.qualname,fd.params,fd.body,fd.scope,fd.globals,fd.closure,fd.defaults,fd.builtins,codeIn K fd.code fd.qualname)
  |_=>none)
 |_=>none
def fx(x qual:Bx)(st:Dn)(a:AY):Option FV:=some (x,qual,L2.Kh st,.stmts (L2.Jh st),L2.BA st,AT,[],a,OR,true)
theorem Cw{K:Frag}{f:Ba}{x qual:Bx}{st:Dn}(h:fv K f=fx x qual st .none)(k:Bq K (.ref f)=true):L2.GL K x qual st f (Br K f):=by
 unfold fv fx at h;cases q:K.lookup f with
 |none=>rw[q]at h;cases h
 |some o=>
  obtain⟨oc,od,i,sl⟩:=o;rw[q]at h;cases i with
  |func fd=>
   obtain⟨n,l,v,u,t,s,r,p,j,g,d,c,b,a,m⟩:=fd;simp only[Nw,Prod.mk.injEq]at h;obtain⟨rfl,rfl,rfl,rfl,rfl,rfl,rfl,rfl,rfl,e⟩:=h;have z:Br K f=fnOf n l (L2.Kh st) (L2.Jh st) (L2.BA st) .none j g d c b a:=by unfold Br;rw[q]
   rw[z];exact L2.S7 q e k
  |_=>cases h
theorem Jf{K:Frag}{f:Ba}{x qual:Bx}{st:Dn}{a:AY}(h:fv K f=fx x qual st a):∃(oc:AY) (od:Option Ba) (sl:Array (Option AY)) (kV doc pm:AY) (an:Option Ba) (cdv ct:AY),Br K f=fnOf x qual (L2.Kh st) (L2.Jh st) (L2.BA st) a kV doc pm an cdv ct/\K.lookup f=some ⟨oc,od,.func (fnOf x qual (L2.Kh st) (L2.Jh st) (L2.BA st) a kV doc pm an cdv ct),sl⟩/\codeIn K cdv qual=true:=by
 unfold fv fx at h;cases q:K.lookup f with
 |none=>rw[q]at h;cases h
 |some o=>
  obtain⟨oc,od,j,sl⟩:=o;rw[q]at h;cases j with
  |func fd=>
   obtain⟨v,u,t,s,r,p,n,m,k,i,g,d,c,b,l⟩:=fd;simp only[Nw,Prod.mk.injEq]at h;obtain⟨rfl,rfl,rfl,rfl,rfl,rfl,rfl,rfl,rfl,e⟩:=h;exact⟨oc,od,sl,k,i,g,d,c,b,by unfold Br;rw[q],rfl,e⟩
  |_=>cases h
def KF(K:Frag)(a:Ba):Option (List AY):=match K.lookup a with
 |some o=>(match o.data with|.seq vs _=>some vs.toList|_=>none)
 |_=>none
theorem lG{K:Frag}{a:Ba}{l:List AY}(h:KF K a=some l):∃o n,K.lookup a=some o/\o.data= .seq l.toArray n:=by
 unfold KF at h;cases q:K.lookup a with
 |none=>rw[q]at h;cases h
 |some o=>
  rw[q]at h;obtain⟨oc,od,b,sl⟩:=o;cases b with
  |seq vs n=>obtain rfl:vs.toList=l:=AR h;exact⟨_,n,rfl,rfl⟩
  |_=>cases h
def iv:Option (Option AY)->Option Int
 |some (some (.int i _))=>some i
 |_=>none
theorem Je{o:Option (Option AY)}{i:Int}(h:iv o=some i):∃t,o=some (some (.int i t)):=by
 unfold iv at h;split at h
 ·cases h;exact⟨_,rfl⟩
 ·cases h
theorem ou{K:Frag}{a:Ba}{i:Int}(h:iv ((KF K a).map List.head?)=some i)(n: (KF K a).map (λl=>(l.length:Int))=some 1):∃o t n,K.lookup a=some o/\o.data= .seq #[.int i t] n:=by
 cases q:KF K a with
 |none=>rw[q]at n;cases n
 |some l=>
  rw[q]at h n
  match l,q,h,n with
  |[v],q,h,_=>
   obtain⟨t,e⟩:=Je h;obtain⟨o,n,h1,h2⟩:=lG q;have b:v= .int i t:=by simpa using e
   exact⟨o,t,n,h1,by rw[h2,b]⟩
  |[],_,h,_=>cases h
  |_::_::_,_,_,n=>simp at n;omega
end HL
namespace HL
open PySem PySem.W L2
abbrev XV:=AY×List AY×Bool×Bool×Nat×Option (Option AY)×Bool×Option (Option AY)
def xv(K:Frag)(C:Ba):Option XV:=match K.lookup C with
 |some o=>(match o.data with
  |.cls cd=>some (o.cls,cd.mro,cd.hasDict,cd.hasDel,o.slots.toList.length,o.slots.toList[4]?,nsOkIn K cd.ns,nsIn K cd.ns "__init__")
  |_=>none)
 |none=>none
def xx(C fe fI:Ba):Option XV:=some (.type "type",.ref C:: .ref fe::pJ,true,false,6,some (some (.builtin "ValueError.__new__")),true,some (some (.ref fI)))
theorem L4{K:Frag}{C fe fI:Ba}(h:xv K C=xx C fe fI):∃nm q N bs sn sub ab col dd k0 k1 k2 k3 k5,K.lookup C=some (QK nm q C N bs (.ref fe::pJ) true sn sub ab col dd k0 k1 k2 k3 k5 "ValueError.__new__")/\nsOkIn K N=true/\nsIn K N "__init__"=some (some (.ref fI)):=by
 unfold xv xx at h;cases e:K.lookup C with
 |none=>rw[e]at h;cases h
 |some o=>
  obtain⟨oc,od,g,⟨sl⟩⟩:=o;rw[e]at h;cases g with
  |cls cd=>
   obtain⟨u,t,s,r,p,n,m,l,k,j,i⟩:=cd;simp only[Nw,Prod.mk.injEq]at h;obtain⟨rfl,rfl,rfl,rfl,f,a,d,c⟩:=h
   match sl,f,a with
   |[k0,k1,k2,k3,b,k5],_,a=>
    obtain rfl:b=some (.builtin "ValueError.__new__"):=AR a;exact⟨_,_,_,_,_,_,_,_,_,_,_,_,_,_,rfl,d,c⟩
  |_=>cases h
def fcB(K:Frag)(fe:Ba)(x:Bx)(n:String):Bool:=match findCls K (.ref fe) (.type "type") x with
 |some (.val (.builtin m))=>m==n
 |_=>false
theorem A0M{K:Frag}{fe:Ba}{x:Bx}{n:String}(h:fcB K fe x n=true):findCls K (.ref fe) (.type "type") x=some (.val (.builtin n)):=by
 unfold fcB at h;split at h
 ·rename_i m e;rw[e,beq_iff_eq.mp h]
 ·cases h
end HL
namespace HL
open PySem PySem.W PyProof.Rows L2
def Np(l:List Nat)(h:CO):Frag:=l.filterMap λa=>(h.get? a).map λo=>(a,o)
theorem vt(l:List Nat)(h:CO): (Np l h).In h:=λa o e=>zf h a o l e
def wx:List AY->Int
 |[.bool false,.none]=>10
 |[.none]=>11
 |_=>0
theorem A0U{l:List AY}(h:wx l=10):l=[.bool false,.none]:=by
 unfold wx at h;split at h
 ·rfl
 ·cases h
 ·cases h
theorem A0T{l:List AY}(h:wx l=11):l=[.none]:=by
 unfold wx at h;split at h
 ·cases h
 ·rfl
 ·cases h
theorem ub{K:Frag}{a:Ba}(h: (KF K a).map wx=some 10):∃o n,K.lookup a=some o/\o.data= .seq #[.bool false,.none] n:=by
 obtain⟨l,e,c⟩:=BS.mp h;obtain rfl:=A0U c;exact lG e
theorem zN{K:Frag}{a:Ba}(h: (KF K a).map wx=some 11):∃o n,K.lookup a=some o/\o.data= .seq #[.none] n:=by
 obtain⟨l,e,c⟩:=BS.mp h;obtain rfl:=A0T c;exact lG e
def sv:Option (Option AY)->Option Bx
 |some (some (.str x _))=>some x
 |_=>none
theorem N6{o:Option (Option AY)}{x:Bx}(h:sv o=some x):∃t,o=some (some (.str x t)):=by
 unfold sv at h;split at h
 ·cases h;exact⟨_,rfl⟩
 ·cases h
def fcd(K:Frag)(f:Ba):Option Int:=match (Br K f).code with
 |.ref c=>some (c:Int)
 |_=>none
theorem S9{K:Frag}{f c:Ba}(h:fcd K f=some ((c:Nat):Int)): (Br K f).code= .ref c:=by
 unfold fcd at h;split at h
 ·rename_i a e;rw[e,Int.ofNat.inj (AR h)]
 ·cases h
def R9:AY->Bool|.int _ _=>true|_=>false
def A0z:AY->Bool|.bool _=>true|_=>false
def A0w:AY->Bool|.str _ _=>true|_=>false
def R7:AY->String->Bool|.type n,m=>n==m|_,_=>false
def A0x:Option AY->Ba->Bool|some (.ref a),b=>a==b|_,_=>false
noncomputable def hdB(K:Frag)(c T:Ba):Bool:=match K.lookup c with
 |some o=>(match o.data with
  |.fields vs=>R7 o.cls "code" &&A0x vs[11]? T&&A0w (vs.getD 18 .none) &&R9 (vs.getD 7 .none) &&A0z (vs.getD 9 .none) &&R9 (vs.getD 10 .none) && !(c==T)
  |_=>false)
 |none=>false
theorem pa{v:AY}(h:R9 v=true):∃i t,v= .int i t:=by cases v <;> first|exact⟨_,_,rfl⟩|cases h
theorem yZ{v:AY}(h:A0z v=true):∃b,v= .bool b:=by cases v <;> first|exact⟨_,rfl⟩|cases h
theorem yX{v:AY}(h:A0w v=true):∃x t,v= .str x t:=by cases v <;> first|exact⟨_,_,rfl⟩|cases h
theorem oZ{v:AY}{n:String}(h:R7 v n=true):v= .type n:=by
 cases v with
 |type m=>rw[show m=n from beq_iff_eq.mp h]
 |_=>cases h
theorem yY{v:Option AY}{a:Ba}(h:A0x v a=true):v=some (.ref a):=by
 cases v with
 |none=>cases h
 |some v=>cases v with
  |ref b=>rw[show b=a from beq_iff_eq.mp h]
  |_=>cases h
theorem zW{K:Frag}{h:CO}{c T:Ba}(X:K.In h)(e:hdB K c T=true):CodeHd h c T:=by
 unfold hdB at e;cases q:K.lookup c with
 |none=>rw[q]at e;cases e
 |some o=>
  rw[q]at e;obtain⟨oc,od,s,sl⟩:=o;cases s with
  |fields vs=>
   simp only[BZ]at e;obtain⟨⟨⟨⟨⟨⟨r,p⟩,n⟩,m⟩,l⟩,k⟩,a⟩:=e;obtain⟨x3,f,h3⟩:=yX n;obtain⟨x4,d,j⟩:=pa m;obtain⟨x5,i⟩:=yZ l;obtain⟨x6,b,g⟩:=pa k;have h2:=yY p;refine⟨_,vs,x3,f,x4,d,x5,x6,b,X _ _ q,oZ r,rfl,h2,?_,h3,j,i,g,λz=>?_⟩
   ·rw[Array.getD_eq_getD_getElem?,h2];rfl
   ·rw[z]at a;simp at a
  |_=>cases e
def xX(h:CO)(T:Ba):Bool:=match h.get? T with
 |some ⟨.none,none,.fields vs,sl⟩=>vs.toList.isEmpty&&sl.toList.isEmpty
 |_=>false
theorem M3{h:CO}{T:Ba}(e:xX h T=true):h.get? T=some (tabObj #[]):=by
 unfold xX at e;split at e
 ·rename_i vs sl q;rw[BZ]at e;obtain⟨vs⟩:=vs;obtain⟨sl⟩:=sl;obtain rfl:vs=[]:=List.isEmpty_iff.mp e.1;obtain rfl:sl=[]:=List.isEmpty_iff.mp e.2;exact q
 ·cases e
def rP(K:Frag)(bm:Ba):Bool:=match K.lookup bm with
 |some o=>(match o.data with
  |.plain=>R7 o.cls "module" && (match o.dict with|some d=>d==OR|none=>false)
  |_=>false)
 |none=>false
theorem A0V{K:Frag}{h:CO}{mg:Bx->Option AY}{bm T:Ba}(X:K.In h)(e:rP K bm=true)(g:mg "__builtins__"=some (.ref bm))(h1:bm≠OR)(h2:bm≠AT)(h3:bm≠T):h.BuiltinsAt mg T:=by
 unfold rP at e;cases q:K.lookup bm with
 |none=>rw[q]at e;cases e
 |some o=>
  rw[q]at e;obtain⟨oc,od,c,sl⟩:=o;cases c with
  |plain=>
   simp only[BZ]at e;obtain⟨b,a⟩:=e;refine⟨bm,_,g,h1,h2,h3,X _ _ q,oZ b,?_,rfl⟩;cases od with
   |none=>cases a
   |some d=>exact A37 some (beq_iff_eq.mp a)
  |_=>cases e
theorem mF(h:CO){a:Ba}:∀l:List Nat,a∉l->(Np l h).lookup a=none:=by
 intro l;induction l with
 |nil=>intro _;rfl
 |cons b l c=>
  intro n;have n1:a≠b:=λz=>n (by rw[z];exact Ds);have n2:a∉l:=λz=>n (CJ _ z);have c:=c n2;unfold Np at c ⊢;rw[GM];cases q:h.get? b with
  |none=>exact c
  |some o=>
   dsimp only[Option.map]
   rw[FN,beq_false_of_ne n1];exact c
theorem vc{p q:BG}{lo:List Bx}{n N:Nat}{pos:Pos}{g e:Type}{d:Bf->g}{c:Bf->e}{b:g}{a:e}(h1:opening p=plainProg p.main.scope.names)(h2:∀s,fenceModules? p s=some s)(Tv:∀w os,XD ko p w 11 Me 12 (pL w os) (topStub p)=some ((S0 w os).abs,⟨TC ko (code p),code p,Io,[topFrame Io]⟩))(mC:∀w s,SK ko p w 11 Me 1 1 s (blockOf (behindTheImports p) (env p) (code p) Io [topFrame Io])=some (.next,s,code p,Io))(hr0:∀w os,(R p n w os).map (λx=>(x.1,x.2.2,VA p q lo w.params x.2.1.abs))=some (.next,(code p,pos),cn q lo))(Kr:∀w os,(R p n w os).map (λx=>(x.1,x.2.2,d x.2.1.abs))=some (.next,(code p,pos),b))(vk:∀w os,(R p n w os).map (λx=>(x.1,x.2.2,c x.2.1.abs))=some (.next,(code p,pos),a))(hsz:∀P:UX,(boot_heap P).isNs AT=true/\(boot_heap P).objs.size=11/\(boot_heap P).nsMap AT "__annotations__"=Me)(k:Nat.ble 600 N=true)(l:12+ (1+ (n+2))<=N):LeftO p q lo (λs=>xlAt q [] s&&recOk [] s) (λs=>(d s,c s)) (λ_=>(b,a)) N:=by
 refine yW h1 h2 Tv mC (pos:=pos) (λw os=>?_) hsz k l;obtain⟨s,hs,j⟩:=some_of (f:=λy:SharedT=>VA p q lo w.params y.abs) (hr0 w os);have i:=Kr w os;have h:=vk w os;rw[hs]at i h ⊢;have f1:d s.abs=b:=A37 (λx=>x.2.2) (AR i);have f2:c s.abs=a:=A37 (λx=>x.2.2) (AR h);show some (Flow.next,(code p,pos),(VA p q lo w.params s.abs,(d s.abs,c s.abs)))=_;rw[f1,f2];exact A37 (λy=>some (Flow.next,(code p,pos),(y,(b,a)))) j
end HL
namespace K9
open PySem PySem.W HL L2
def CS(p:BG)(i:Nat):Dn:=p.main.body.getD i (.Pass ⟨0,0,0,0⟩)
abbrev top(i:Nat):Dn:=CS Cu i
abbrev keep:List Nat:=[90]
noncomputable def A09(K:Frag):List (Option (Option AY)):=[nsIn K AT "len",nsIn K AT "range",nsIn K AT "isinstance",nsIn K AT "max",nsIn K AT "min",nsIn K AT "sum",nsIn K AT "all",nsIn K AT "ord",nsIn K AT "sorted",nsIn K AT "enumerate",nsIn K AT "int",nsIn K AT "bool",nsIn K AT "list",nsIn K AT "tuple",nsIn K AT "str",nsIn K AT "set",nsIn K AT "ValueError",nsIn K AT "is_whole",nsIn K AT "is_among",nsIn K AT "is_made_of",nsIn K AT "is_name",nsIn K AT "is_sign",nsIn K AT "own_default",nsIn K AT "own_fields",nsIn K AT "own_numbers",nsIn K AT "are_unlike",nsIn K AT "is_of_size",nsIn K AT "are_named_fields",nsIn K AT "are_numbered",nsIn K AT "is_thing_kind",nsIn K AT "is_kind",nsIn K AT "is_blank",nsIn K AT "is_default",nsIn K AT "field_weight",nsIn K AT "form_weight",nsIn K AT "fault_of",nsIn K AT "need_forms",nsIn K AT "weight",nsIn K AT "_law_number",nsIn K AT "_law_mixed",nsIn K AT "_law_names",nsIn K AT "_law_plain",nsIn K AT "_law_kind",nsIn K AT "_law_blank",nsIn K AT "_law_default",nsIn K AT "_law_field",nsIn K AT "_law_load",nsIn K AT "_law_weight",nsIn K AT "_law_spec",nsIn K AT "_law_kind_made",nsIn K AT "_law_field_made",nsIn K AT "_law_form_made",nsIn K AT "_law_alone",nsIn K AT "_law_short",nsIn K AT "_law_free",nsIn K AT "_law_bad_kind",nsIn K AT "_law_bad_default",nsIn K AT "_law_more",nsIn K AT "_law_said",nsIn K AT "_law_first",nsIn K AT "_law_heavy",nsIn K AT "law",nsIn K AT "FormError",nsIn K AT "BadNumber",nsIn K AT "BadRow",nsIn K AT "BadCheck",nsIn K AT "NoKey",nsIn K AT "BadVersion",nsIn K AT "BadBook",nsIn K AT "BadValue",nsIn K AT "BadText",nsIn K AT "BadWire",nsIn K AT "NotKin",nsIn K AT "Kind",nsIn K AT "Truth",nsIn K AT "Count",nsIn K AT "Whole",nsIn K AT "Upto",nsIn K AT "Text",nsIn K AT "List",nsIn K AT "Nested",nsIn K AT "Field",nsIn K AT "Form",nsIn K AT "Record",nsIn K AT "Choice",nsIn K AT "Book",Bl K (.ref 281) "__init__",Bl K (.ref 281) "blank",Bl K (.ref 281) "__setattr__",Bl K (.ref 281) "__class__",Bl K (.ref 323) "__init__",Bl K (.ref 323) "is_plain",Bl K (.ref 323) "suits",Bl K (.ref 323) "blank",Bl K (.ref 323) "__setattr__",Bl K (.ref 323) "__class__",Bl K (.ref 356) "__init__",Bl K (.ref 356) "is_plain",Bl K (.ref 356) "suits",Bl K (.ref 356) "blank",Bl K (.ref 356) "__setattr__",Bl K (.ref 356) "__class__",Bl K (.ref 389) "__init__",Bl K (.ref 389) "is_plain",Bl K (.ref 389) "suits",Bl K (.ref 389) "blank",Bl K (.ref 389) "__setattr__",Bl K (.ref 389) "__class__",Bl K (.ref 443) "__init__",Bl K (.ref 443) "is_plain",Bl K (.ref 443) "suits",Bl K (.ref 443) "blank",Bl K (.ref 443) "most",Bl K (.ref 443) "__setattr__",Bl K (.ref 443) "__class__",Bl K (.ref 496) "__init__",Bl K (.ref 496) "is_plain",Bl K (.ref 496) "suits",Bl K (.ref 496) "blank",Bl K (.ref 496) "most",Bl K (.ref 496) "__setattr__",Bl K (.ref 496) "__class__",Bl K (.ref 555) "__init__",Bl K (.ref 555) "is_plain",Bl K (.ref 555) "suits",Bl K (.ref 555) "blank",Bl K (.ref 555) "item",Bl K (.ref 555) "__setattr__",Bl K (.ref 555) "__class__",Bl K (.ref 609) "__init__",Bl K (.ref 609) "is_plain",Bl K (.ref 609) "suits",Bl K (.ref 609) "blank",Bl K (.ref 609) "name",Bl K (.ref 609) "__setattr__",Bl K (.ref 609) "__class__",Bl K (.ref 636) "__init__",Bl K (.ref 636) "number",Bl K (.ref 636) "name",Bl K (.ref 636) "kind",Bl K (.ref 636) "must",Bl K (.ref 636) "default",Bl K (.ref 636) "__setattr__",Bl K (.ref 636) "__class__",Bl K (.ref 696) "__init__",Bl K (.ref 696) "name",Bl K (.ref 696) "fields",Bl K (.ref 696) "gone",Bl K (.ref 696) "__setattr__",Bl K (.ref 696) "__class__",Bl K (.ref 710) "__init__",Bl K (.ref 710) "is_choice",Bl K (.ref 710) "name",Bl K (.ref 710) "fields",Bl K (.ref 710) "gone",Bl K (.ref 710) "__setattr__",Bl K (.ref 710) "__class__",Bl K (.ref 729) "__init__",Bl K (.ref 729) "is_choice",Bl K (.ref 729) "name",Bl K (.ref 729) "fields",Bl K (.ref 729) "gone",Bl K (.ref 729) "__setattr__",Bl K (.ref 729) "__class__",Bl K (.ref 838) "__init__",Bl K (.ref 838) "head",Bl K (.ref 838) "forms",Bl K (.ref 838) "weights",Bl K (.ref 838) "__setattr__",Bl K (.ref 838) "__class__",specialIn K (.builtin "object.__class__") "__get__",Bl K (.ref 111) "__getattribute__",Bl K (.ref 111) "__getattr__",Bl K (.ref 111) "__class__",Bl K (.ref 111) "place",Bl K (.ref 111) "why",Bl K (.ref 111) "__setattr__",specialIn K (.ref 31) "__getattribute__",nsIn K AT "__builtins__"]
noncomputable def A0N:List (Option (Option AY)):=List.map some ([none,none,none,none,none,none,none,none,none,none,none,none,none,none,none,none,none,some (.ref 196),some (.ref 203),some (.ref 208),some (.ref 215),some (.ref 222),some (.ref 618),some (.ref 645),some (.ref 650),some (.ref 738),some (.ref 745),some (.ref 750),some (.ref 755),some (.ref 762),some (.ref 769),some (.ref 776),some (.ref 783),some (.ref 790),some (.ref 795),some (.ref 800),some (.ref 807),some (.ref 849),some (.ref 856),some (.ref 863),some (.ref 868),some (.ref 875),some (.ref 882),some (.ref 889),some (.ref 896),some (.ref 903),some (.ref 910),some (.ref 915),some (.ref 920),some (.ref 927),some (.ref 934),some (.ref 939),some (.ref 951),some (.ref 958),some (.ref 963),some (.ref 970),some (.ref 977),some (.ref 982),some (.ref 989),some (.ref 994),some (.ref 999),some (.ref 1004),some (.ref 31),some (.ref 44),some (.ref 56),some (.ref 68),some (.ref 80),some (.ref 92),some (.ref 111),some (.ref 130),some (.ref 149),some (.ref 168),some (.ref 187),some (.ref 281),some (.ref 323),some (.ref 356),some (.ref 389),some (.ref 443),some (.ref 496),some (.ref 555),some (.ref 609),some (.ref 636),some (.ref 696),some (.ref 710),some (.ref 729),some (.ref 838),some (.builtin "object.__init__"),some (.ref 278),some (.builtin "object.__setattr__"),some (.builtin "object.__class__"),some (.builtin "object.__init__"),some (.ref 250),some (.ref 313),some (.ref 320),some (.builtin "object.__setattr__"),some (.builtin "object.__class__"),some (.builtin "object.__init__"),some (.ref 250),some (.ref 346),some (.ref 353),some (.builtin "object.__setattr__"),some (.builtin "object.__class__"),some (.builtin "object.__init__"),some (.ref 250),some (.ref 379),some (.ref 386),some (.builtin "object.__setattr__"),some (.builtin "object.__class__"),some (.ref 405),some (.ref 250),some (.ref 433),some (.ref 440),none,some (.builtin "object.__setattr__"),some (.builtin "object.__class__"),some (.ref 460),some (.ref 250),some (.ref 486),some (.ref 493),none,some (.builtin "object.__setattr__"),some (.builtin "object.__class__"),some (.ref 512),some (.ref 533),some (.ref 545),some (.ref 552),none,some (.builtin "object.__setattr__"),some (.builtin "object.__class__"),some (.ref 571),some (.ref 592),some (.ref 606),some (.ref 278),none,some (.builtin "object.__setattr__"),some (.builtin "object.__class__"),some (.ref 633),none,none,none,none,none,some (.builtin "object.__setattr__"),some (.builtin "object.__class__"),some (.ref 665),none,none,none,some (.builtin "object.__setattr__"),some (.builtin "object.__class__"),some (.ref 665),some (.ref 672),none,none,none,some (.builtin "object.__setattr__"),some (.builtin "object.__class__"),some (.ref 665),some (.ref 726),none,none,none,some (.builtin "object.__setattr__"),some (.builtin "object.__class__"),some (.ref 821),some (.ref 835),none,none,some (.builtin "object.__setattr__"),some (.builtin "object.__class__"),some (.builtin "getset_descriptor.__get__"),some (.builtin "BaseException.__getattribute__"),none,some (.builtin "object.__class__"),none,none,some (.builtin "object.__setattr__"),some (.builtin "type.__getattribute__"),some (.ref 4)]:List (Option AY))
noncomputable def yM(K:Frag):List Bool:=[Ei K 281 Db,Dx K 281,DL K 281,Ei K 323 Db,Dx K 323,DL K 323,Ei K 356 Db,Dx K 356,DL K 356,Ei K 389 Db,Dx K 389,DL K 389,Ei K 443 Db,Dx K 443,DL K 443,Ei K 496 Db,Dx K 496,DL K 496,Ei K 555 Db,Dx K 555,DL K 555,Ei K 609 Db,Dx K 609,DL K 609,Ei K 636 Db,Dx K 636,DL K 636,Ei K 696 Db,Dx K 696,DL K 696,Ei K 710 Db,Dx K 710,DL K 710,Ei K 729 Db,Dx K 729,DL K 729,Ei K 838 Db,Dx K 838,DL K 838,Dx K 111,Bq K (.ref 111),excIn K 31 pJ "ValueError.__new__",readsIn K 31 (.type "type"),HL.fcB K 31 "__init__" "ValueError.__init__",EU K 281,Bq K (.ref 281),EU K 323,Bq K (.ref 323),EU K 356,Bq K (.ref 356),EU K 389,Bq K (.ref 389),EU K 443,Bq K (.ref 443),EU K 496,Bq K (.ref 496),EU K 555,Bq K (.ref 555),EU K 609,Bq K (.ref 609),EU K 636,Bq K (.ref 636),EU K 696,Bq K (.ref 696),EU K 710,Bq K (.ref 710),EU K 729,Bq K (.ref 729),EU K 838,Bq K (.ref 838),Bq K (.ref 108),isFn K (.ref 108),Bq K (.ref 196),Bq K (.ref 203),Bq K (.ref 208),Bq K (.ref 215),Bq K (.ref 222),Bq K (.ref 250),isFn K (.ref 250),Bq K (.ref 278),isFn K (.ref 278),Bq K (.ref 313),isFn K (.ref 313),Bq K (.ref 320),isFn K (.ref 320),Bq K (.ref 346),isFn K (.ref 346),Bq K (.ref 353),isFn K (.ref 353),Bq K (.ref 379),isFn K (.ref 379),Bq K (.ref 386),isFn K (.ref 386),Bq K (.ref 405),isFn K (.ref 405),Bq K (.ref 433),isFn K (.ref 433),Bq K (.ref 440),isFn K (.ref 440),Bq K (.ref 460),isFn K (.ref 460),Bq K (.ref 486),isFn K (.ref 486),Bq K (.ref 493),isFn K (.ref 493),Bq K (.ref 512),isFn K (.ref 512),Bq K (.ref 533),isFn K (.ref 533),Bq K (.ref 545),isFn K (.ref 545),Bq K (.ref 552),isFn K (.ref 552),Bq K (.ref 571),isFn K (.ref 571),Bq K (.ref 592),isFn K (.ref 592),Bq K (.ref 606),isFn K (.ref 606),Bq K (.ref 618),Bq K (.ref 633),isFn K (.ref 633),Bq K (.ref 645),Bq K (.ref 650),Bq K (.ref 665),isFn K (.ref 665),Bq K (.ref 672),isFn K (.ref 672),Bq K (.ref 726),isFn K (.ref 726),Bq K (.ref 738),Bq K (.ref 745),Bq K (.ref 750),Bq K (.ref 755),Bq K (.ref 762),Bq K (.ref 769),Bq K (.ref 776),Bq K (.ref 783),Bq K (.ref 790),Bq K (.ref 795),Bq K (.ref 800),Bq K (.ref 807),Bq K (.ref 821),isFn K (.ref 821),Bq K (.ref 835),isFn K (.ref 835),Bq K (.ref 849),Bq K (.ref 856),Bq K (.ref 863),Bq K (.ref 868),Bq K (.ref 875),Bq K (.ref 882),Bq K (.ref 889),Bq K (.ref 896),Bq K (.ref 903),Bq K (.ref 910),Bq K (.ref 915),Bq K (.ref 920),Bq K (.ref 927),Bq K (.ref 934),Bq K (.ref 939),Bq K (.ref 951),Bq K (.ref 958),Bq K (.ref 963),Bq K (.ref 970),Bq K (.ref 977),Bq K (.ref 982),Bq K (.ref 989),Bq K (.ref 994),Bq K (.ref 999),Bq K (.ref 1004),hdB K 644 642,rP K 4]
noncomputable def P8(K:Frag):List (Option Bool):=[Hr K 281 (.type "object"),Hr K 323 (.type "object"),Hr K 356 (.type "object"),Hr K 389 (.type "object"),Hr K 443 (.type "object"),Hr K 496 (.type "object"),Hr K 555 (.type "object"),Hr K 609 (.type "object"),Hr K 636 (.type "object"),Hr K 696 (.type "object"),Hr K 710 (.type "object"),Hr K 729 (.type "object"),Hr K 838 (.type "object"),takesIn K (.builtin "object.__class__"),exmOne K (.ref 111) (.ref 31),Hr K 111 (.type "object"),Hr K 111 (.type "BaseException"),Hr K 31 (.type "ValueError"),Bd K (.type "NoneType") (.type "bool"),Bd K (.type "NoneType") (.type "int"),Bd K (.type "NoneType") (.type "str"),Bd K (.type "NoneType") (.type "list"),Bd K (.type "NoneType") (.type "tuple"),Bd K (.type "bool") (.type "bool"),Bd K (.type "bool") (.type "int"),Bd K (.type "bool") (.type "str"),Bd K (.type "bool") (.type "list"),Bd K (.type "bool") (.type "tuple"),Bd K (.type "int") (.type "bool"),Bd K (.type "int") (.type "int"),Bd K (.type "int") (.type "str"),Bd K (.type "int") (.type "list"),Bd K (.type "int") (.type "tuple"),Bd K (.type "str") (.type "bool"),Bd K (.type "str") (.type "int"),Bd K (.type "str") (.type "str"),Bd K (.type "str") (.type "list"),Bd K (.type "str") (.type "tuple"),Bd K (.type "tuple") (.type "bool"),Bd K (.type "tuple") (.type "int"),Bd K (.type "tuple") (.type "str"),Bd K (.type "tuple") (.type "list"),Bd K (.type "tuple") (.type "tuple"),Bd K (.type "list") (.type "bool"),Bd K (.type "list") (.type "int"),Bd K (.type "list") (.type "str"),Bd K (.type "list") (.type "list"),Bd K (.type "list") (.type "tuple"),Bd K (.type "dict") (.type "bool"),Bd K (.type "dict") (.type "int"),Bd K (.type "dict") (.type "str"),Bd K (.type "dict") (.type "list"),Bd K (.type "dict") (.type "tuple"),Bd K (.type "NoneType") (.ref 281),Bd K (.type "NoneType") (.ref 323),Bd K (.type "NoneType") (.ref 356),Bd K (.type "NoneType") (.ref 389),Bd K (.type "NoneType") (.ref 443),Bd K (.type "NoneType") (.ref 496),Bd K (.type "NoneType") (.ref 555),Bd K (.type "NoneType") (.ref 609),Bd K (.type "NoneType") (.ref 636),Bd K (.type "str") (.ref 281),Bd K (.type "str") (.ref 323),Bd K (.type "str") (.ref 356),Bd K (.type "str") (.ref 389),Bd K (.type "str") (.ref 443),Bd K (.type "str") (.ref 496),Bd K (.type "str") (.ref 555),Bd K (.type "str") (.ref 609),Bd K (.type "str") (.ref 636),Bd K (.type "NoneType") (.ref 710),Bd K (.type "NoneType") (.ref 729),Bd K (.type "str") (.ref 710),Bd K (.type "str") (.ref 729),Bd K (.type "int") (.ref 710),Bd K (.type "int") (.ref 729),Bd K (.type "list") (.ref 710),Bd K (.type "list") (.ref 729),Bd K (.type "dict") (.ref 710),Bd K (.type "dict") (.ref 729),Bd K (.ref 281) (.ref 281),Bd K (.ref 281) (.ref 323),Bd K (.ref 281) (.ref 356),Bd K (.ref 281) (.ref 389),Bd K (.ref 281) (.ref 443),Bd K (.ref 281) (.ref 496),Bd K (.ref 281) (.ref 555),Bd K (.ref 281) (.ref 609),Bd K (.ref 323) (.ref 281),Bd K (.ref 323) (.ref 323),Bd K (.ref 323) (.ref 356),Bd K (.ref 323) (.ref 389),Bd K (.ref 323) (.ref 443),Bd K (.ref 323) (.ref 496),Bd K (.ref 323) (.ref 555),Bd K (.ref 323) (.ref 609),Bd K (.ref 356) (.ref 281),Bd K (.ref 356) (.ref 323),Bd K (.ref 356) (.ref 356),Bd K (.ref 356) (.ref 389),Bd K (.ref 356) (.ref 443),Bd K (.ref 356) (.ref 496),Bd K (.ref 356) (.ref 555),Bd K (.ref 356) (.ref 609),Bd K (.ref 389) (.ref 281),Bd K (.ref 389) (.ref 323),Bd K (.ref 389) (.ref 356),Bd K (.ref 389) (.ref 389),Bd K (.ref 389) (.ref 443),Bd K (.ref 389) (.ref 496),Bd K (.ref 389) (.ref 555),Bd K (.ref 389) (.ref 609),Bd K (.ref 443) (.ref 281),Bd K (.ref 443) (.ref 323),Bd K (.ref 443) (.ref 356),Bd K (.ref 443) (.ref 389),Bd K (.ref 443) (.ref 443),Bd K (.ref 443) (.ref 496),Bd K (.ref 443) (.ref 555),Bd K (.ref 443) (.ref 609),Bd K (.ref 496) (.ref 281),Bd K (.ref 496) (.ref 323),Bd K (.ref 496) (.ref 356),Bd K (.ref 496) (.ref 389),Bd K (.ref 496) (.ref 443),Bd K (.ref 496) (.ref 496),Bd K (.ref 496) (.ref 555),Bd K (.ref 496) (.ref 609),Bd K (.ref 555) (.ref 281),Bd K (.ref 555) (.ref 323),Bd K (.ref 555) (.ref 356),Bd K (.ref 555) (.ref 389),Bd K (.ref 555) (.ref 443),Bd K (.ref 555) (.ref 496),Bd K (.ref 555) (.ref 555),Bd K (.ref 555) (.ref 609),Bd K (.ref 609) (.ref 281),Bd K (.ref 609) (.ref 323),Bd K (.ref 609) (.ref 356),Bd K (.ref 609) (.ref 389),Bd K (.ref 609) (.ref 443),Bd K (.ref 609) (.ref 496),Bd K (.ref 609) (.ref 555),Bd K (.ref 609) (.ref 609),Bd K (.ref 696) (.ref 710),Bd K (.ref 696) (.ref 729),Bd K (.ref 710) (.ref 710),Bd K (.ref 710) (.ref 729),Bd K (.ref 729) (.ref 710),Bd K (.ref 729) (.ref 729),Bd K (.ref 636) (.ref 636),Bd K (.ref 111) (.ref 44),Bd K (.ref 111) (.ref 56),Bd K (.ref 111) (.ref 111),Bd K (.ref 111) (.ref 130),Bd K (.ref 111) (.ref 149),Bd K (.ref 111) (.ref 168),Bd K (.ref 111) (.ref 68),Bd K (.ref 111) (.ref 187),Bd K (.ref 111) (.ref 80),Bd K (.ref 111) (.ref 92),Bd K (.ref 111) (.type "ValueError")]
noncomputable def T4:List (Option Bool):=List.map some ([true,true,true,true,true,true,true,true,true,true,true,true,true,true,true,true,true,true,false,false,false,false,false,true,true,false,false,false,false,true,false,false,false,false,false,true,false,false,false,false,false,false,true,false,false,false,true,false,false,false,false,false,false,false,false,false,false,false,false,false,false,false,false,false,false,false,false,false,false,false,false,false,false,false,false,false,false,false,false,false,false,true,false,false,false,false,false,false,false,true,true,false,false,false,false,false,false,true,false,true,false,false,false,false,false,true,false,false,true,false,false,false,false,true,false,false,false,true,false,false,false,true,false,false,false,false,true,false,false,true,false,false,false,false,false,true,false,true,false,false,false,false,false,false,true,false,false,true,false,false,true,true,false,false,true,false,false,false,false,false,false,false,true]:List Bool)
noncomputable def yL(K:Frag):List (Option FV):=[fv K 108,fv K 196,fv K 203,fv K 208,fv K 215,fv K 222,fv K 250,fv K 278,fv K 313,fv K 320,fv K 346,fv K 353,fv K 379,fv K 386,fv K 405,fv K 433,fv K 440,fv K 460,fv K 486,fv K 493,fv K 512,fv K 533,fv K 545,fv K 552,fv K 571,fv K 592,fv K 606,fv K 618,fv K 633,fv K 645,fv K 650,fv K 665,fv K 672,fv K 726,fv K 738,fv K 745,fv K 750,fv K 755,fv K 762,fv K 769,fv K 776,fv K 783,fv K 790,fv K 795,fv K 800,fv K 807,fv K 821,fv K 835,fv K 849,fv K 856,fv K 863,fv K 868,fv K 875,fv K 882,fv K 889,fv K 896,fv K 903,fv K 910,fv K 915,fv K 920,fv K 927,fv K 934,fv K 939,fv K 951,fv K 958,fv K 963,fv K 970,fv K 977,fv K 982,fv K 989,fv K 994,fv K 999,fv K 1004]
noncomputable def zo(p:BG):List (Option FV):=[fx "__init__" "BadBook.__init__" (Cv (CS p 8) 0) .none,fx "is_whole" "is_whole" (CS p 16) .none,fx "is_among" "is_among" (CS p 17) .none,fx "is_made_of" "is_made_of" (CS p 18) .none,fx "is_name" "is_name" (CS p 19) .none,fx "is_sign" "is_sign" (CS p 28) .none,fx "is_plain" "Kind.is_plain" (Cv (CS p 29) 2) .none,fx "blank" "Kind.blank" (Cv (CS p 29) 6) .none,fx "suits" "Truth.suits" (Cv (CS p 30) 2) .none,fx "blank" "Truth.blank" (Cv (CS p 30) 3) .none,fx "suits" "Count.suits" (Cv (CS p 31) 1) .none,fx "blank" "Count.blank" (Cv (CS p 31) 2) .none,fx "suits" "Whole.suits" (Cv (CS p 32) 1) .none,fx "blank" "Whole.blank" (Cv (CS p 32) 2) .none,fx "__init__" "Upto.__init__" (Cv (CS p 33) 0) .none,fx "suits" "Upto.suits" (Cv (CS p 33) 4) .none,fx "blank" "Upto.blank" (Cv (CS p 33) 5) .none,fx "__init__" "Text.__init__" (Cv (CS p 34) 0) (.ref 453),fx "suits" "Text.suits" (Cv (CS p 34) 4) .none,fx "blank" "Text.blank" (Cv (CS p 34) 5) .none,fx "__init__" "List.__init__" (Cv (CS p 35) 0) .none,fx "is_plain" "List.is_plain" (Cv (CS p 35) 3) .none,fx "suits" "List.suits" (Cv (CS p 35) 5) .none,fx "blank" "List.blank" (Cv (CS p 35) 6) .none,fx "__init__" "Nested.__init__" (Cv (CS p 36) 0) .none,fx "is_plain" "Nested.is_plain" (Cv (CS p 36) 3) .none,fx "suits" "Nested.suits" (Cv (CS p 36) 5) .none,fx "own_default" "own_default" (CS p 38) .none,fx "__init__" "Field.__init__" (Cv (CS p 39) 0) (.ref 626),fx "own_fields" "own_fields" (CS p 40) .none,fx "own_numbers" "own_numbers" (CS p 41) .none,fx "__init__" "Form.__init__" (Cv (CS p 42) 0) (.ref 658),fx "is_choice" "Form.is_choice" (Cv (CS p 42) 1) .none,fx "is_choice" "Choice.is_choice" (Cv (CS p 44) 0) .none,fx "are_unlike" "are_unlike" (CS p 51) .none,fx "is_of_size" "is_of_size" (CS p 52) .none,fx "are_named_fields" "are_named_fields" (CS p 53) .none,fx "are_numbered" "are_numbered" (CS p 54) .none,fx "is_thing_kind" "is_thing_kind" (CS p 55) .none,fx "is_kind" "is_kind" (CS p 56) .none,fx "is_blank" "is_blank" (CS p 57) .none,fx "is_default" "is_default" (CS p 58) .none,fx "field_weight" "field_weight" (CS p 59) .none,fx "form_weight" "form_weight" (CS p 60) .none,fx "fault_of" "fault_of" (CS p 61) .none,fx "need_forms" "need_forms" (CS p 62) .none,fx "__init__" "Book.__init__" (Cv (CS p 63) 0) .none,fx "head" "Book.head" (Cv (CS p 63) 2) .none,fx "weight" "weight" (CS p 64) .none,fx "_law_number" "_law_number" (CS p 66) .none,fx "_law_mixed" "_law_mixed" (CS p 67) .none,fx "_law_names" "_law_names" (CS p 68) .none,fx "_law_plain" "_law_plain" (CS p 69) .none,fx "_law_kind" "_law_kind" (CS p 70) .none,fx "_law_blank" "_law_blank" (CS p 71) .none,fx "_law_default" "_law_default" (CS p 72) .none,fx "_law_field" "_law_field" (CS p 73) .none,fx "_law_load" "_law_load" (CS p 74) .none,fx "_law_weight" "_law_weight" (CS p 75) .none,fx "_law_spec" "_law_spec" (CS p 76) .none,fx "_law_kind_made" "_law_kind_made" (CS p 77) .none,fx "_law_field_made" "_law_field_made" (CS p 78) .none,fx "_law_form_made" "_law_form_made" (CS p 79) .none,fx "_law_alone" "_law_alone" (CS p 81) .none,fx "_law_short" "_law_short" (CS p 82) .none,fx "_law_free" "_law_free" (CS p 83) .none,fx "_law_bad_kind" "_law_bad_kind" (CS p 84) .none,fx "_law_bad_default" "_law_bad_default" (CS p 85) .none,fx "_law_more" "_law_more" (CS p 86) .none,fx "_law_said" "_law_said" (CS p 87) .none,fx "_law_first" "_law_first" (CS p 88) .none,fx "_law_heavy" "_law_heavy" (CS p 89) .none,fx "law" "law" (CS p 90) .none]
noncomputable def P7(K:Frag):List (Option Int):=[iv (nsIn K AT "MOST_LETTERS"),iv (nsIn K AT "MOST_NUMBER"),iv (nsIn K AT "MOST_WHOLE"),iv (nsIn K AT "MOST_SIGNS"),iv (nsIn K AT "MOST_THINGS"),iv (nsIn K AT "LEAST_SIGN"),iv (nsIn K AT "MOST_SIGN"),iv (nsIn K AT "PERCENT_SIGN"),iv (nsIn K AT "MOST_FORMS"),iv (nsIn K AT "MOST_FIELDS"),iv (nsIn K AT "MOST_GONE"),iv (nsIn K AT "MOST_FIELD_NUMBER"),iv (nsIn K AT "MOST_WEIGHT"),fcd K 645,iv ((KF K 453).map List.head?),(KF K 453).map (λl=>(l.length:Int)),(KF K 626).map wx,(KF K 658).map wx]
noncomputable def T3:List (Option Int):=[some 12,some 115792089237316195423570985008687907853269984665640564039457584007913129639935,some 57896044618658097711785492504343953926634992332820282019728792003956564819967,some 100,some 20,some 32,some 126,some 37,some 8,some 10,some 10,some 200,some 100,some 644,some 100,some 1,some 10,some 11]
noncomputable def P6(K:Frag):List (Option Bx):=[sv (nsIn K AT "LETTERS")]
noncomputable def T2:List (Option Bx):=[some "abcdefghijklmnopqrstuvwxyz"]
noncomputable def P5(K:Frag):List (Option HL.XV):=[HL.xv K 111]
noncomputable def T1:List (Option HL.XV):=[HL.xx 111 31 108]
abbrev ff:Ba:=642
abbrev rC:Ba:=644
noncomputable abbrev ul:List Nat:=[2,3,4,30,31,44,56,68,80,92,107,108,110,111,130,149,168,187,195,196,202,203,207,208,214,215,221,222,249,250,277,278,280,281,312,313,319,320,322,323,345,346,352,353,355,356,378,379,385,386,388,389,404,405,432,433,439,440,442,443,453,459,460,485,486,492,493,495,496,511,512,532,533,544,545,551,552,554,555,570,571,591,592,605,606,608,609,617,618,626,632,633,635,636,644,645,649,650,658,664,665,671,672,695,696,709,710,725,726,728,729,737,738,744,745,749,750,754,755,761,762,768,769,775,776,782,783,789,790,794,795,799,800,806,807,820,821,834,835,837,838,848,849,855,856,862,863,867,868,874,875,881,882,888,889,895,896,902,903,909,910,914,915,919,920,926,927,933,934,938,939,950,951,957,958,962,963,969,970,976,977,981,982,988,989,993,994,998,999,1003,1004]
abbrev S1:=List (Option (Option AY))
abbrev S2:=Bool×List (Option Bool)×List (Option FV)×List (Option Int)×List (Option HL.XV)×List (Option Bx)×Bool
def A0b(s:Bf):S1:=A09 (Np ul s.heap)
def A0P:S1:=A0N
def A0a(s:Bf):S2:=let K:=Np ul s.heap;((yM K).all id,P8 K,yL K,P7 K,P5 K,P6 K,xX s.heap 642)
def A0O(p:BG):S2:=(true,T4,zo p,T3,T1,T2,true)
def obs(s:Bf):S1×S2:=(A0b s,A0a s)
def exp(p:BG)(_:Cs):S1×S2:=(A0P,A0O p)
abbrev tp:BG:=Cu
noncomputable abbrev lo:List Bx:=(["_wall","FormError","BadNumber","BadRow","BadCheck","NoKey","BadVersion","BadBook","BadValue","BadText","BadWire","NotKin","LETTERS","MOST_LETTERS","is_whole","is_among","is_made_of","is_name","MOST_NUMBER","MOST_WHOLE","MOST_SIGNS","MOST_THINGS","LEAST_SIGN","MOST_SIGN","PERCENT_SIGN","is_sign","Kind","Truth","Count"]:List Bx) ++ (["Whole","Upto","Text","List","Nested","own_default","Field","own_fields","own_numbers","Form","Record","Choice","MOST_FORMS","MOST_FIELDS","MOST_GONE","MOST_FIELD_NUMBER","MOST_WEIGHT","are_unlike","is_of_size","are_named_fields","are_numbered","is_thing_kind","is_kind","is_blank","is_default","field_weight","form_weight","fault_of","need_forms"]:List Bx) ++ (["Book","weight","_law_number","_law_mixed","_law_names","_law_plain","_law_kind","_law_blank","_law_default","_law_field","_law_load","_law_weight","_law_spec","_law_kind_made","_law_field_made","_law_form_made","_law_made","_law_alone","_law_short","_law_free","_law_bad_kind","_law_bad_default","_law_more","_law_said","_law_first","_law_heavy"]:List Bx)
theorem h1:opening tp=plainProg tp.main.scope.names:=by kernel_rfl
theorem h2(s:Bf):fenceModules? tp s=some s:=by kernel_rfl
theorem hsz(P:UX): (boot_heap P).isNs AT=true/\(boot_heap P).objs.size=11/\(boot_heap P).nsMap AT "__annotations__"=Me:=⟨by kernel_rfl,by kernel_rfl,by kernel_rfl⟩
theorem Tv(w:Cs)(os:OsState):XD ko tp w 11 Me 12 (pL w os) (topStub tp)=some ((S0 w os).abs,⟨TC ko (code tp),code tp,Io,[topFrame Io]⟩):=by kernel_rfl
theorem mC(w:Cs)(s:Bf):SK ko tp w 11 Me 1 1 s (blockOf (behindTheImports tp) (env tp) (code tp) Io [topFrame Io])=some (.next,s,code tp,Io):=by kernel_rfl
abbrev V2:Pos:=⟨553,0,576,46⟩
theorem hr0(w:Cs)(os:OsState): (R tp 60000 w os).map (λx=>(x.1,x.2.2,VA tp (view tp keep) lo w.params x.2.1.abs))=some (.next,(code tp,V2),cn (view tp keep) lo):=by kernel_rfl
theorem Kr(w:Cs)(os:OsState): (R tp 60000 w os).map (λx=>(x.1,x.2.2,A0b x.2.1.abs))=some (.next,(code tp,V2),A0P):=by kernel_rfl
def fB(y:SharedT):=(yM (Np ul y.abs.heap)).all id
def fR(y:SharedT):=let K:=Np ul y.abs.heap;((yL K).take 36,P7 K,P5 K,P6 K,xX y.abs.heap 642)
def fC(y:SharedT):=let K:=Np ul y.abs.heap;((yL K).drop 36,P8 K)
theorem ra(w:Cs)(os:OsState): (R tp 60000 w os).map (λx=>(x.1,x.2.2,fB x.2.1))=some (.next,(code tp,V2),true):=by kernel_rfl
theorem rb(w:Cs)(os:OsState): (R tp 60000 w os).map (λx=>(x.1,x.2.2,fR x.2.1))=some (.next,(code tp,V2),((zo tp).take 36,T3,T1,T2,true)):=by kernel_rfl
theorem rc(w:Cs)(os:OsState): (R tp 60000 w os).map (λx=>(x.1,x.2.2,fC x.2.1))=some (.next,(code tp,V2),((zo tp).drop 36,T4)):=by kernel_rfl
theorem jn{e d:Type}{r:Option (Flow×SharedT×Code×Pos)}{F:SharedT->e}{G:SharedT->d}{c:Code×Pos}{a:e}{b:d}(h1:r.map (λx=>(x.1,x.2.2,F x.2.1))=some (.next,c,a))(h2:r.map (λx=>(x.1,x.2.2,G x.2.1))=some (.next,c,b)):r.map (λx=>(x.1,x.2.2,(F x.2.1,G x.2.1)))=some (.next,c,(a,b)):=by
 cases r with
 |none=>cases h1
 |some x=>
  have f:=AR h1;have g:=AR h2;have f1:F x.2.1=a:=A37 (λy=>y.2.2) f;have f2:G x.2.1=b:=A37 (λy=>y.2.2) g;show some (x.1,x.2.2,(F x.2.1,G x.2.1))=_;rw[f1,f2];exact A37 (λy=>some (y.1,y.2.1,(a,b))) f
theorem mp{e d:Type}{r:Option (Flow×SharedT×Code×Pos)}{F:SharedT->e}{G:SharedT->d}{c:Code×Pos}{a:e}{b:d}(h1:r.map (λx=>(x.1,x.2.2,F x.2.1))=some (.next,c,a))(h:∀y,F y=a->G y=b):r.map (λx=>(x.1,x.2.2,G x.2.1))=some (.next,c,b):=by
 cases r with
 |none=>cases h1
 |some x=>
  have f:=AR h1;show some (x.1,x.2.2,G x.2.1)=_;rw[h x.2.1 (A37 (λy=>y.2.2) f)];exact A37 (λy=>some (y.1,y.2.1,b)) f
theorem td{a:Type}{n:Nat}{l m:List a}(h1:l.take n=m.take n)(h2:l.drop n=m.drop n):l=m:=by
 rw[<-Ic n l,h1,h2,Ic]
theorem jo{A:Bool}{B d:List (Option Bool)}{C a:List (Option FV)}{n:Nat}{R R':List (Option Int)×List (Option HL.XV)×List (Option Bx)×Bool}(e: (A,(C.take n,R),(C.drop n,B))=(true,(a.take n,R'),(a.drop n,d))): (A,B,C,R)=(true,d,a,R'):=by
 have f:=(Prod.mk.inj e).1;have c:=Prod.mk.inj (Prod.mk.inj (Prod.mk.inj e).2).1;have b:=Prod.mk.inj (Prod.mk.inj (Prod.mk.inj e).2).2;rw[f,c.2,b.2,td c.1 b.1]
theorem vk(w:Cs)(os:OsState): (R tp 60000 w os).map (λx=>(x.1,x.2.2,A0a x.2.1.abs))=some (.next,(code tp,V2),A0O tp):=mp (F:=λy=>(fB y,fR y,fC y)) (jn (F:=fB) (G:=λy=>(fR y,fC y)) (ra w os) (jn (F:=fR) (G:=fC) (rb w os) (rc w os))) λy e=>jo (n:=36) e
theorem left:LeftO Cu (view Cu keep) lo (λs=>xlAt (view Cu keep) [] s&&recOk [] s) obs (exp Cu) 60100:=by
 exact vc (n:=60000) h1 h2 Tv mC hr0 Kr vk hsz rfl Aa
end K9
namespace L2
open PySem PySem.Spec PyProof.Rows
section
variable{X:Cx}
theorem lz{ys:List Bx}:∀{us:List AY},CQ (ys.map V.str) us->StrsAre us ys:=by
 induction ys with
 |nil=>intro us r;rw[Gs]at r;cases r;exact .nil
 |cons n ns c=>
  intro us r;rw[BV]at r;cases r with
  |cons b a=>
   obtain⟨t,e⟩:=b;subst e;exact .cons n t (c a)
theorem yT:MtR X "str.join" (λx xs H Q=>∃z p ys,x= .str z/\xs=[.ref p]/\Dk X.K H p (ys.map V.str)/\(ys.map (·.length)).sum+ys.length*z.length<=16777216/\Q (.str (Txt.join z ys)) H):=by
 intro pZ s σ H x xs v us Q I a d h;obtain⟨z,p,ys,rfl,rfl,g,f,q⟩:=h;obtain⟨t,rfl⟩:=a;obtain⟨u,rfl,c⟩:=CQ.one d;cases (show u= .ref p from c);obtain⟨e,b,pl,_⟩:=I.list g;exact join_list pl.isList (lz b) f λt' k=>(show EP X pZ σ Q (.str (Txt.join z ys) t') {s with toks:=k}from⟨.str _,H,I.tok _,⟨_,rfl⟩,q⟩)
def A1H:V->Option Int->Option Int->Hp->VK->Prop:=λx lo hi H Q=>∃z,x= .str z/\z.length<=sizeLine/\Q (.str (EF z lo hi)) H
theorem cj{v:AY}{o:Option Int}(p:IsPart v o):∃l:Option (Int×Tok),v=partValue l/\l.map (·.1)=o:=by
 cases p with
 |none=>exact⟨none,rfl,rfl⟩
 |int i t=>exact⟨some (i,t),rfl,rfl⟩
theorem XS:SlR X A1H:=by
 intro pZ s σ H x v e d lo hi sl Q I a hs pl b h;obtain⟨z,rfl,c,q⟩:=h;obtain⟨t,rfl⟩:=a;obtain⟨l,rfl,rfl⟩:=cj pl;obtain⟨u,rfl,rfl⟩:=cj b;refine⟨"str",_,F.slot_str_getitem.lookup,typeIs_str _ _ _,?_⟩;refine wpAny_getItem_str_slice (l:=l) (u:=u) (st:=none) ?_ rfl (post_val_or_str ⟨BF (Txt.slice_le z _ _) c,λt' k=>?_⟩)
 ·exact hs
 ·exact⟨.str _,H,I.tok _,⟨_,rfl⟩,q⟩
def Its(x:Bx):It:=⟨λi _=>i<x.length,λi H v H'=>H'=H/\∃c,x.cps[i]?=some c/\v= .str ⟨#[c]⟩,λi _=>x.length<=i,false⟩
def Nj(x:Bx):String:=if x.cps.all (·<128)then "str_ascii_iterator" else "str_iterator"
theorem iC{P:BG}{w:Cs}{K:Be}{tg:Expr}(x:Bx)(t:Tok)(it:Ba):rL P w K tg (Its x) [it] it (λi h=>h.IsStrIter it (Nj x) x t i) where
 mem:=by simp
 obj:=λi h st b a=>by
  have e:b=it:=by simpa using a
  subst e;obtain⟨o,e,c,d⟩:=st;exact⟨o,e,λv z=>by rw[d]at z;cases z⟩
 keep:=λi h h' st k=>by
  obtain⟨o,e,c,d⟩:=st;exact⟨o,k it (by simp) o e,c,d⟩
 item:=by
  intro X r hw B hc i pZ s σ H E I j st q;subst r hw B;have hi:i<x.cps.size:=q;have f:x.cps[i]?=some x.cps[i]:=Array.getElem?_eq_getElem hi;obtain⟨p,f1,f2,n,m,l⟩:=j it (by simp);have fin:∀h',h'.IsStrIter it (Nj x) x t (i+1)->NA it s.heap h'->∃u,some (LG ⟨#[x.cps[i]]⟩ s.toks)=some u/\Cc (model X.prog X.w) X.A (MY tg (.ref it) u) (λ_ s2=>∃y H',CL X pZ σ H' s2/\DA y u/\(Its x).yld i H y H'/\s2.heap.IsStrIter it (Nj x) x t (i+1)/\∀b∈ [it],H' b=none) E {s with heap:=h',toks:=s.toks+1}:=λh' g sb=>by
   have D:CL X pZ σ H {s with heap:=h',toks:=s.toks+1}:=I.turned (t':=s.toks+1) (λb o a e=>(sb.2 b a).trans e) p f1 n m l;obtain⟨o,e,c,d⟩:=id g;refine⟨_,rfl,ph (s:={s with heap:=h',toks:=s.toks+1}) e c d ?_ ⟨.str ⟨#[x.cps[i]]⟩,H,D,⟨_,rfl⟩,⟨rfl,_,f,rfl⟩,g,λb a=>(j b a).1⟩⟩;unfold Nj;split <;> decide
  by_cases ha:x.cps.all (·<128)=true
  ·have e:Nj x="str_ascii_iterator":=A36 ha;rw[e]at st fin ⊢;exact wpAny_pyNext_ascii_item st f fin
  ·have e:Nj x="str_iterator":=A35 ha;rw[e]at st fin ⊢;exact wpAny_pyNext_wide_item st f fin
 done:=by
  intro X r hw B hc i pZ s σ H E I j st q;subst r hw B;have f:x.cps[i]?=none:=Array.getElem?_eq_none q;obtain⟨p,f1,f2,n,m,l⟩:=j it (by simp);have hc:=hc.resolve_right λz=>Ej (show false=true from z.1);by_cases ha:x.cps.all (·<128)=true
  ·have e:Nj x="str_ascii_iterator":=A36 ha;rw[e]at st;exact wpAny_pyNext_ascii_end (I.ok.hd hc) st f λh' C=>⟨rfl,I.turned (t':=s.toks) (λb o a e=>C b o a e) p f1 n m l⟩
  ·have e:Nj x="str_iterator":=A35 ha;rw[e]at st;exact wpAny_pyNext_wide_end (I.ok.hd hc) st f λh' C=>⟨rfl,I.turned (t':=s.toks) (λb o a e=>C b o a e) p f1 n m l⟩
 self:=λ_ _ _ _ _ st h=>by
  by_cases ha:x.cps.all (·<128)=true
  ·have e:Nj x="str_ascii_iterator":=A36 ha;rw[e]at st;exact wpAny_pyIter_striter_ascii st h
  ·have e:Nj x="str_iterator":=A35 ha;rw[e]at st;exact wpAny_pyIter_striter_wide st h
def A2h(tl:TE):TI:=λσ H R=>tl σ H λx H1=>∃z,x= .str z/\R (Its z) H1
theorem ut{tg l:Expr}{tl:TE}(i:PE X l tl):PI X tg l (A2h tl):=by
 intro pZ s σ H R I h;refine ES (i pZ s σ H _ I h) λv s1 a=>?_;obtain⟨x,H1,c,f,g⟩:=a;obtain⟨z,e,q⟩:=g;subst e;obtain⟨t,rfl⟩:=f;have fp:∀b∈ [s1.heap.objs.size],Wq X pZ H1 b:=λb j=>by
  have e:b=s1.heap.objs.size:=by simpa using j
  subst e;exact c.fpOk (Bv _) (c.hok.fresh (Bv _))
 by_cases ha:z.cps.all (·<128)=true
 ·refine wpAny_pyIter_ascii ha ?_;exact⟨s1.heap.objs.size,[s1.heap.objs.size],_,_,H1,rfl,c.kept (t':=s1.toks) λb o e=>Bb _ e,iC z t _,⟨_,Ca _ rfl,by unfold Nj;rw[A36 ha],rfl⟩,fp,q⟩
 ·have d:z.cps.all (·<128)=false:=by simpa using ha
  refine wpAny_pyIter_wide d ?_;exact⟨s1.heap.objs.size,[s1.heap.objs.size],_,_,H1,rfl,c.kept (t':=s1.toks) λb o e=>Bb _ e,iC z t _,⟨_,Ca _ rfl,by unfold Nj;rw[A35 ha],rfl⟩,fp,q⟩
end
section
variable{X:Cx}
theorem xU{bs:List Bool}:∀{us:List AY},CQ (bs.map V.bl) us->us=bs.map Dm:=by
 induction bs with
 |nil=>intro us r;rw[Gs]at r;cases r;rfl
 |cons b bs d=>
  intro us r;rw[BV]at r;cases r with
  |cons c a=>
   cases (show _=Dm b from c);rw[d a,BV]
theorem rK(bs:List Bool): (Bz bs.length).all (λi=>bs.getD i true)=bs.all id:=by
 rw[Fw,BI,BI];constructor
 ·intro h b a;obtain⟨i,hi,e⟩:=List.mem_iff_getElem.mp a;have:=h i (DJ.mpr hi);rw[BD,AW hi,Option.getD_some,e]at this;exact this
 ·intro h i hi;rw[DJ]at hi;rw[BD,AW hi,Option.getD_some];exact h _ (OU hi)
theorem FX(hc:X.calm=true):IM X (.builtin "all") (λxs H Q=>∃(p:Ba) (bs:List Bool),xs=[.ref p]/\H p=some (.lst (bs.map V.bl))/\Q (.bl (bs.all id)) H):=by
 intro pZ s σ H xs us Q I r h;obtain⟨p,bs,rfl,g,q⟩:=h;obtain⟨u,rfl,k⟩:=CQ.one r;cases (show u= .ref p from k);obtain⟨l,j,pl,_⟩:=I.list (Dk.of g);have e:=xU j;subst e;have d:p≠s.heap.objs.size:=Ck (I.hok.lt g);refine call_all_walk (QI pl.isList ?_);refine⟨s.heap.objs.size,_,_,_,_,_,λi=>bs.getD i true,rfl,Walks.list (A:=X.A.in1) (I.ok.hd hc) s.heap.objs.size p d _,⟨⟨_,Ca _ rfl,rfl,rfl⟩,pl.isList.push _⟩,λi v s2 w x m n=>?_,λh' tk t=>?_⟩
 ·have a: (bs.map Dm)[i]?=some v:=by simpa using m
  rw[Bj]at a;cases f:bs[i]? with
  |none=>rw[f]at a;cases a
  |some b=>
   rw[f]at a;cases a;have c:w (bs.getD i true) s2:=n;rw[show bs.getD i true=b by rw[BD,f];rfl]at c;exact GS c
 ·refine⟨.bl (bs.all id),H,I.kept (t':=tk) λb o e=>t b o (λz=>?_) (Bb _ e),?_,q⟩
  ·have:b=s.heap.objs.size:=by simpa using z
   exact Ev _ (this ▸ BN e)
  ·show Dm _=Dm _;rw[<-rK];simp
namespace R8
end R8
end
end L2
namespace L2
open PySem PySem.Spec PyProof.Rows
section
variable{X:Cx}{pZ:List (Ba×Obj)}{σ:St}{H:Hp}{s:Bf}{h':CO}
theorem CL.turnedL{t':Nat}{fp:List Ba}(I:CL X pZ σ H s)(k:∀b o,b∉fp->s.heap.get? b=some o->h'.get? b=some o)(d:∀b∈fp,Wq X pZ H b):CL X pZ σ H {s with heap:=h',toks:=t'}:=by
 have a:∀b u,H b=some u->b∉fp:=λb u e z=>by rw[(d b z).1]at e;cases e
 refine I.step (g':=s.gens) (d':=s.drawn) (ch:=fp) (λb g=>?_) (λb o _ _ hc e _=>k b o hc e) (λb o _ _ hc e _=>⟨o.slots,k b o hc e⟩) (λ_ _ _ _ n=>n) (λb o hc e=>⟨o,k b o hc e⟩) (λ_ _ e=>e) (λ_ _ _ e=>e) (λb ps e=>⟨#[],by rw[e];simp⟩) (λm hm=>?_) (λb u e=>?_) I.bare
 ·obtain⟨l,f1,f2,j,i,h⟩:=d b g;exact⟨j,f1,i,h⟩
 ·obtain⟨o,es,ep,f,r⟩:=hm;exact⟨o,es,ep,k _ o (λz=>(d _ z).2.1 rfl) f,r⟩
 ·refine(I.hok b u e).stay (λc v hc q=>k c v ?_ q) (λ_ q=>q) λ_ _ q=>q;rcases hc with z|z
  ·rw[z];exact a b u e
  ·exact a c _ z
end
section
variable{X:Cx}
theorem xT{a:List String}:∀{us:List AY},CQ (a.map V.ty) us->us=a.map EB:=by
 induction a with
 |nil=>intro us r;rw[Gs]at r;cases r;rfl
 |cons b bs e=>
  intro us r;rw[BV]at r;cases r with
  |cons d c=>
   cases (show _=EB b from d);rw[e c,BV]
theorem YF{pZ:List (Ba×Obj)}{σ:St}{H:Hp}{s:Bf}{A:Do}{Q:AY->Bf->Prop}{E:AY->Bf->Prop}{b:Bool}{x:V}{u t:AY}{p:Ba}{k:List V}{g:List AY}(m:∀us,CQ k us->us=g)(I:CL X pZ σ H s)(d:DA x u)(ty:GK X.K H x t)(r:H p=some (.tup k))(e:EQ X.K t g=some b)(h:∀tk,Q (.bool b) {s with toks:=tk}):Cc (model X.prog X.w) A (call (.builtin "isinstance") [u,.ref p]) Q E s:=by
 obtain⟨_,j,l,o,v,hc,n,hd⟩:=(show DH X.prog X.w H s.heap p (.tup k)from I.hok p _ r);have B:=m _ l;subst B;have c:s.heap.get? p=some ⟨.type "tuple",o.dict,.seq j.toArray n,o.slots⟩:=by
  rw[v,<-hc,<-hd]
 cases ty with
 |non=>cases (show u=CM from d);exact EC PySem.W.kitx_none I.kIn Ef c e (λz=>nomatch z) h
 |bl y=>cases (show u=Dm y from d);exact EC PySem.W.kitx_bool I.kIn Ef c e (λz=>nomatch z) h
 |int i=>obtain⟨t,q⟩:=(show ∃t,u=HK i t from d);cases q;exact EC PySem.W.kitx_int I.kIn Ef c e (λz=>nomatch z) h
 |str y=>obtain⟨t,q⟩:=(show ∃t,u=LG y t from d);cases q;exact EC PySem.W.kitx_str I.kIn Ef c e (λz=>nomatch z) h
 |flt y=>obtain⟨t,q⟩:=(show ∃t,u=Value.float y t from d);cases q;exact EC PySem.W.kitx_float I.kIn Ef c e (λz=>nomatch z) h
 |@lst a xs f=>
  cases (show u=Value.ref a from d);obtain⟨_,_,n,_,h1⟩:=(show DH X.prog X.w H s.heap a (.lst xs)from I.hok a _ f);exact EC Nt I.kIn ⟨_,h1,rfl⟩ c e (λz=>nomatch z) h
 |@frz a ob xs f=>
  cases (show u=Value.ref a from d);obtain⟨_,_,_,n,_,h1⟩:=(show DH X.prog X.w H s.heap a (.frz ob (.lst xs))from I.hok a _ f);exact EC Nt I.kIn ⟨_,h1,rfl⟩ c e (λz=>nomatch z) h
 |@tup a xs f=>
  cases (show u=Value.ref a from d);obtain⟨_,_,_,p⟩:=(show DH X.prog X.w H s.heap a (.tup xs)from I.hok a _ f);obtain⟨o,h1,h2,_⟩:=p;exact EC PySem.W.kitx_tuple I.kIn ⟨o,h1,h2⟩ c e (λz=>nomatch z) h
 |@dK a kvs f=>
  cases (show u=Value.ref a from d);obtain⟨_,_,vs,_,p⟩:=(show DH X.prog X.w H s.heap a (.dK kvs)from I.hok a _ f);obtain⟨o,es,ep,h1,h2,_⟩:=p;exact EC Nu I.kIn ⟨o,h1,h2.1⟩ c e (λz=>nomatch z) h
 |@dT a kvs f=>
  cases (show u=Value.ref a from d);obtain⟨_,_,xs,_,o,es,ep,h1,h2,_⟩:=(show DH X.prog X.w H s.heap a (.dT kvs)from I.hok a _ f);exact EC Nu I.kIn ⟨o,h1,h2.1⟩ c e (λz=>nomatch z) h
 |@ins a C dx fs f cl ha hn htk hm=>
  cases (show u=Value.ref a from d);obtain⟨mA,O,_⟩:=Pm I.hok f;obtain⟨od,J,_⟩:=O.look;exact EC (PySem.W.kitx_own (cl.get _) cl.hd ha hn htk hm) I.kIn J c e (λz=>nomatch z) h
theorem TH(K:Be)(g:X.K=K):IM X (.builtin "isinstance") (λxs H Q=>∃(x:V) (p:Ba) (t:AY) (b:Bool) (a:List String),xs=[x,.ref p]/\H p=some (.tup (a.map V.ty))/\GK K H x t/\EQ K t (a.map EB)=some b/\Q (.bl b) H):=by
 subst g;intro pZ s σ H xs us Q I r h;obtain⟨x,p,t,b,a,rfl,f,ty,e,q⟩:=h;obtain⟨u,c,rfl,d,rc⟩:=CQ.two r;cases (show c= .ref p from rc);exact YF (λus r=>xT r) I d ty f e λtk=>⟨.bl b,H,I.tok tk,rfl,q⟩
theorem iA{as:List Ba}:∀{us:List AY},CQ (as.map V.ref) us->us=as.map Value.ref:=by
 induction as with
 |nil=>intro us r;rw[Gs]at r;cases r;rfl
 |cons b bs d=>
  intro us r;rw[BV]at r;cases r with
  |cons c a=>
   cases (show _=Value.ref b from c);rw[d a,BV]
theorem TJ(K:Be)(f:X.K=K):IM X (.builtin "isinstance") (λxs H Q=>∃(x:V) (p:Ba) (t:AY) (b:Bool) (as:List Ba),xs=[x,.ref p]/\H p=some (.tup (as.map V.ref))/\GK K H x t/\EQ K t (as.map Value.ref)=some b/\Q (.bl b) H):=by
 subst f;intro pZ s σ H xs us Q I r h;obtain⟨x,p,t,b,as,rfl,d,ty,e,q⟩:=h;obtain⟨u,a,rfl,c,rc⟩:=CQ.two r;cases (show a= .ref p from rc);exact YF (λus r=>iA r) I c ty d e λtk=>⟨.bl b,H,I.tok tk,rfl,q⟩
end
section
variable{X:Cx}
theorem QF(hc:X.calm=true):IM X (.builtin "sum") (λxs H Q=>∃(p:Ba) (ns:List Int),xs=[.ref p]/\H p=some (.lst (ns.map V.int))/\(∀j,j<ns.length->InLong (ns.getD j 0)/\InLong (preSum (λi=>ns.getD i 0) (j+1)))/\Q (.int (preSum (λi=>ns.getD i 0) ns.length)) H):=by
 intro pZ s σ H xs us Q I r h;obtain⟨p,ns,rfl,m,C,q⟩:=h;obtain⟨u,rfl,n⟩:=CQ.one r;cases (show u= .ref p from n);obtain⟨a,k,pl,_⟩:=I.list (Dk.of m);have c:=I.hok.lt m;have f:p≠s.heap.objs.size:=Ck c;have g:a.length=ns.length:=by rw[<-k.length,AV]
 refine call_sum_walk (QI pl.isList ?_);refine⟨s.heap.objs.size,_,_,_,_,_,λi=>ns.getD i 0,rfl,Walks.list (A:=X.A.in1) (I.ok.hd hc) s.heap.objs.size p f a.toArray,⟨⟨_,Ca _ rfl,rfl,rfl⟩,pl.isList.push _⟩,λb B=>?_,λi v w=>?_,λj y=>C j (by simpa [g]using y),λh' tk t' x=>?_⟩
 ·rw[KY];rcases BK.mp B with e|e
  ·rw[e];exact GV _
  ·rw[Bu.mp e];exact JL c
 ·have d:a[i]?=some v:=by simpa using w
  have hi:i<ns.length:=by rw[<-g];exact(Bi.mp d).1
  obtain⟨u,l,t,e⟩:=k.get (show(ns.map V.int)[i]?=some (V.int (ns.getD i 0))by rw[Bj,BD,AW hi];rfl);rw[d]at l;cases l;exact⟨t,e⟩
 ·have D:a.toArray.size=ns.length:=by simp[g]
  rw[D];exact⟨.int _,H,I.kept (t':=tk) λb o e=>x b o (λz=>by
   have:b=s.heap.objs.size:=by simpa using z
   exact Ev _ (this ▸ BN e)) (Bb _ e),⟨_,rfl⟩,q⟩
end
section
variable{X:Cx}{tg:Expr}
end
structure A1s(X:Cx)(scope:Scope)(x0:Bx):Prop where
 kind:scope.kind= .function
 clos:closureFor scope X.env=pure (Wp scope.names X.env)
 cell1:∀y∈scope.names,y.2= .cell->y.1=x0
 notf:∀y∈scope.names,y.2= .free->y.1≠x0
 own:∀n cl,cellsFrom n scope.names cl=(x0,n)::cl
 psh:∀h:CO,pushCells h scope.names=h.push {cls:=.type "cell",data:=.cell none}
 names:∀y∈scope.names,y.2= .local->scope.names.lookup y.1=some .local
 free:∀y∈scope.names,y.2= .free->(X.env.cells.lookup y.1).isSome=true
section
variable{x0:Bx}{X:Cx}{scope:Scope}{ts xs:List Bx}{js:List Nat}{target iter elt:Expr}{ifs:List Expr}{wi:TI}{g:TG}{tif:TT}{te:TE}{pos:Pos}
end
def mU(K:Be)(l:Ba):It:=⟨λi H=>∃xs x,Dk K H l xs/\xs[i]?=some x,λi H v H'=>∃T x,v= .ref T/\H T=none/\H'=upd H T (.tup [.int i,x])/\∀xs,Dk K H l xs->xs[i]?=some x,λi H=>∃xs,Dk K H l xs/\xs.length=i,false⟩
theorem lv{P:BG}{w:Cs}{K:Be}{D:List Expr}{x1}{pos:Pos}(l it e:Nat)(he:e=it+1):
  rL P w K (.Tuple D x1 pos) (mU K l) [it,e] e (λi h=>(∃old,IsEnum h e it (i:Nat) old)/\h.IsListIter it l i) where
 mem:=by simp
 obj:=λi h st c hc=>by
  obtain⟨⟨old,s1⟩,s2⟩:=st;simp only[BK,Cq,or_false]at hc;rcases hc with rfl|rfl
  ·obtain⟨o,e,c,d⟩:=s2;exact⟨o,e,λv z=>by rw[d]at z;cases z⟩
  ·exact⟨_,s1,λv z=>by cases z⟩
 keep:=λi h h' st k=>by
  obtain⟨⟨old,s1⟩,s2⟩:=st;exact⟨⟨old,k e (by simp) _ s1⟩,s2.at λo e=>k it (by simp) o e⟩
 item:=by
  intro X C hw T hc i pZ s σ H E I Q st N;subst C hw T;obtain⟨⟨old,s1⟩,s2⟩:=st;have hc:=hc.resolve_right λz=>Ej (show false=true from z.1);have n:e≠it:=by rw[he];exact Nat.succ_ne_self it
  obtain⟨xs,x,F,Z⟩:=N;obtain⟨a,G,p,hz⟩:=I.list F;obtain⟨u,hu,ru⟩:=G.get Z;have m:l≠it:=λz=>by
   obtain⟨o,U,V,_⟩:=s2;obtain⟨Y,j,f,_⟩:=p.isList;rw[z,U]at j;cases j;rw[V]at f;injection f with f;exact A38 f Aa
  have R:e≠l:=λz=>by
   obtain⟨Y,j,f,_⟩:=p.isList;rw[<-z,show s.heap.get? e=_ from s1]at j;cases j;injection f with f;exact A38 f Aa
  have L:i<a.toArray.size:=by
   rw[BY];exact(Bi.mp hu).1
  refine wpAny_pyNext_enum_itemD (Draws.list (A:=X.A.in1) (I.ok.hd hc) it l m a.toArray) s1 ⟨s2,p.isList⟩ L n (by simp[n,R]) λv h' tk C z1 z2 z3 z4 z5=>?_;have J:v=u:=by
   have h1:a[i]?=some v:=by simpa using C
   rw[hu]at h1;exact(AR h1).symm
  subst J;refine⟨_,rfl,wpAny_letOwnedTupleGo_enum z1 λg2 y1 sb=>?_⟩;have t:e<s.heap.objs.size:=BN s1;have M:it<s.heap.objs.size:=by obtain⟨o,q,_⟩:=s2;exact BN q
  have I1:CL X pZ σ (upd H s.heap.objs.size (.tup [.int i,x])) {s with heap:=s.heap.push {cls:=.type "tuple",data:=.seq #[.int i tk,v]},toks:=tk+1}:=I.laid (t':=tk+1) (λb u q=>Bb _ q) (Bv _) ⟨by rw[FE];simp,[.int i tk,v],.cons ⟨_,rfl⟩ (.cons ru .nil),⟨_,Ca _ rfl,rfl,_,rfl⟩⟩;have O:∀b∈ [it,e],b<s.heap.objs.size:=λb g=>by
   rcases BK.mp g with q|q
   ·rw[q];exact M
   ·rw[Bu.mp q];exact t
  have r:∀b∈ [it,e],Wq X pZ (upd H s.heap.objs.size (.tup [.int i,x])) b:=λb g=>by
   obtain⟨f0,f1⟩:=Q b g;exact⟨by rw[Bo (Ck (O b g))];exact f0,f1⟩
  have I2:CL X pZ σ (upd H s.heap.objs.size (.tup [.int i,x])) {s with heap:=g2,toks:=tk+1}:=CL.turnedL (s:={s with heap:=s.heap.push {cls:=.type "tuple",data:=.seq #[.int i tk,v]},toks:=tk+1}) (t':=tk+1) I1 (λb o g q=>?_) r
  ·refine⟨.ref s.heap.objs.size,_,I2,rfl,⟨s.heap.objs.size,x,rfl,I.fresh,rfl,λys hy=>by rw[I.list_inj hy F];exact Z⟩,⟨⟨_,y1⟩,?_⟩,λb g=>(r b g).1⟩;exact z2.1.at λo q=>(sb.2 _ (DP n)).trans q
  ·have S:b≠it:=λz=>g (by simp[z]);have B:b≠e:=λz=>g (by simp[z]);rw[sb.2 _ B];by_cases y:b=s.heap.objs.size
   ·subst y;rw[Ca _ rfl]at q;rw[z3];exact q
   ·exact z5 _ _ B S ((Heap.get?_push_ne _ _ _ y).symm.trans q)
 done:=by
  intro X C hw T hc i pZ s σ H E I Q st N;subst C hw T;obtain⟨⟨old,s1⟩,s2⟩:=st;have hc:=hc.resolve_right λz=>Ej (show false=true from z.1);obtain⟨xs,F,hi⟩:=N;obtain⟨a,G,p,hz⟩:=I.list F;have hl:=G.length;have hn:a.toArray.size=i:=by rw[BY];omega
  have m:l≠it:=λz=>by
   obtain⟨o,U,V,_⟩:=s2;obtain⟨Y,j,f,_⟩:=p.isList;rw[z,U]at j;cases j;rw[V]at f;injection f with f;exact A38 f Aa
  subst hn;exact wpAny_pyNext_enum_endD (Draws.list (A:=X.A.in1) (I.ok.hd hc) it l m a.toArray) s1 ⟨s2,p.isList⟩ λh' eb=>⟨rfl,CL.turnedL (t':=s.toks) I (λb o g q=>eb b o (λz=>g (by simp[z])) q) Q⟩
 self:=λ_ _ _ _ _ st h=>by
  obtain⟨⟨old,s1⟩,s2⟩:=st;exact wpAny_pyIter_enum s1 h
section
variable{X:Cx}
def S4(K:Be)(te:TE):TI:=λσ H R=>te σ H λv H1=>∃l,v= .ref l/\(∃xs,Dk K H1 l xs)/\R (mU K l) H1
theorem uv{b:List Expr}{o}{tpos:Pos}{d:Expr}{te:TE}{p pos:Pos}(x:Gl X "enumerate")(hm:X.mg "enumerate"=none)(y:PE X d te)(hs:Cn [d] X.env=(false,eval d X.env)::Cn [] X.env:=by rfl)(i: (FL pos (Cn [] X.env)).any (·.1)=false:=by rfl):PI X (.Tuple b o tpos) (.Call (.Name "enumerate" p) [d] [] pos) (S4 X.K te):=by
 intro pZ s σ H R I h;refine DD (MP I x hm (u:=.type "enumerate") Aa ?_ Aa Aa);refine FI (ES (AS y AZ hs pos pZ s σ H (λxs H1=>match xs with|[v]=>∃l,v= .ref l/\(∃xs,Dk X.K H1 l xs)/\R (mU X.K l) H1|_=>False) I h) λus s1 j=>?_) hs i;obtain⟨vs,H1,e,f,g⟩:=j
 match vs,g,f with
 |[v],g,f=>
 obtain⟨l,rfl,⟨xs,w⟩,q⟩:=g;obtain⟨u,rfl,r⟩:=CQ.one f;cases (show u= .ref l from r);obtain⟨t,B,pl,C⟩:=e.list w;refine call_enumerate_list pl.isList λh' k n A m=>?_;have z:CL X pZ σ H1 {s1 with heap:=h',toks:=s1.toks}:=e.kept (t':=s1.toks) m;refine wpAny_pyIter_enum k ?_;refine⟨s1.heap.objs.size+1,_,_,mU X.K l,H1,rfl,z,lv l s1.heap.objs.size _ rfl,⟨⟨_,k⟩,n⟩,λc hc=>?_,q⟩;have a:s1.heap.objs.size<=c:=by
  rcases BK.mp hc with q|q
  ·rw[q];exact Bv _
  ·rw[Bu.mp q];exact EV _
 exact e.fpOk a (e.hok.fresh a)
theorem nO:∀{xs:List V} {us:List AY},xs.length=us.length->(∀(i:Nat) x u,xs[i]?=some x->us[i]?=some u->DA x u)->CQ xs us
 |[],[],_,_=>.nil
 |[],_::_,h,_=>by simp at h
 |_::_,[],h,_=>by simp at h
 |x::xs,u::us,h,k=>.cons (k 0 x u rfl rfl) (nO (by simpa using h) λi y v b a=>k (i+1) y v (by simpa using b) (by simpa using a))
end
section
variable{X:Cx}
end
structure Kj(P:BG)(w:Cs)(K:Be)(mg:Bx->Option AY)(base:CO)(k:Nat)(m:Bx)(C:Ba)(sp:Sp):Prop where
 c:TZ K C
 ex:∃f fd ps,Jw K C m f/\Cm P w K mg base DS k f fd ps sp/\CC K fd ps []
section
variable{X:Cx}{k:Nat}{m:Bx}{pos apos:Pos}{e o:Expr}{es:List Expr}{ta:TE}{t:TA}
def tO(P:BG)(w:Cs)(K:Be)(mg:Bx->Option AY)(base:CO)(k:Nat)(m:Bx)(ta:TE)(t:TA):TE:=λσ H Q=>ta σ H λx H1=>∃a C dx fs sp,x= .ref a/\H1 a=some (.ins C dx fs)/\fs.lookup m=none/\Kj P w K mg base k m C sp/\t σ H1 λvs H2=>sp (x::vs) H2 Q E0
theorem Yr{P:BG}{w:Cs}{K:Be}{mg:Bx->Option AY}{base:CO}(M:X.prog=P)(hw:X.w=w)(N:X.K=K)(G:X.mg=mg)(O:X.base=base){pl:Sem Bool}(J:PE X o ta)(E:Fm k X.A)(z:JT DS X E0)(ha:PA X (e::es) t)(g:Cn (e::es) X.env=(false,eval e X.env)::Cn es X.env:=by rfl)(i: (FL pos (Cn es X.env)).any (·.1)=false:=by rfl)(B:eval (.Call (.Attribute o m apos) (e::es) [] pos) X.env=(do
   let j <-eval o X.env
   standAt apos.atName
   let (f,first) <-holding [j] (getMethod j m pl)
   callWith pos f first (FL pos (Cn (e::es) X.env)) (backToKw pos (JY [] X.env))):=by rfl):
  PE X (.Call (.Attribute o m apos) (e::es) [] pos) (tO P w K mg base k m ta t):=by
 subst M hw N G O;intro pZ s σ H Q I h;refine Ru (pl:=pl) (ES (J pZ s σ H _ I h) λu s1 d=>?_) B;obtain⟨x,H1,p,v,a,C,dx,fs,sp,ex,R,l,D,q⟩:=d;subst ex;obtain rfl:u=Value.ref a:=v;obtain⟨f,fd,ps,hm,F,L⟩:=D.ex;refine YH p R D.c hm l ?_;refine Jq (first:=[.ref a]) (h₀:=X.base) I.ok.mod.kin hm.kp (ES (ha pos pZ s1 σ H1 _ p q) λus s2 b=>?_) g i;obtain⟨vs,H2,n,r,y⟩:=b;refine⟨n.kIn,?_⟩;exact lL (us:=.ref a::us) (vs:=.ref a::vs) (dvs:=[]) (ds:=[]) F E L .nil z n (.cons rfl r) (by rw[De];exact y)
theorem HU{P:BG}{w:Cs}{K:Be}{mg:Bx->Option AY}{base:CO}(v:X.prog=P)(hw:X.w=w)(y:X.K=K)(p:X.mg=mg)(z:X.base=base){pl:Sem Bool}(r:PE X o ta)(n:Fm k X.A)(i:JT DS X E0)(j:eval (.Call (.Attribute o m apos) [] [] pos) X.env=(do
   let e <-eval o X.env
   standAt apos.atName
   let (f,first) <-holding [e] (getMethod e m pl)
   callWith pos f first (FL pos (Cn [] X.env)) (backToKw pos (JY [] X.env))):=by rfl):
  PE X (.Call (.Attribute o m apos) [] [] pos) (tO P w K mg base k m ta qv):=by
 subst v hw y p z;intro pZ s σ H Q I h;refine Ru (pl:=pl) (ES (r pZ s σ H _ I h) λu s1 b=>?_) j;obtain⟨x,H1,d,g,a,C,dx,fs,sp,ex,B,l,D,q⟩:=b;subst ex;obtain rfl:u=Value.ref a:=g;obtain⟨f,fd,ps,hm,F,t⟩:=D.ex;refine YH d B D.c hm l ?_;exact UV (first:=[.ref a]) d.kIn hm.kp (lL (us:=[.ref a]) (vs:=[.ref a]) (dvs:=[]) (ds:=[]) F n t .nil i d (.cons rfl .nil) q)
def M7(C:Ba):TE:=λ_ H Q=>∀x dx,H x=none->H dx=none->dx≠x->Q (.ref x) (upd (upd H dx (.own x)) x (.ins C dx []))
theorem Ti{C:Ba}{x:Bx}{p:Pos}(makes:Lb X.K C=true)(init:Dh X.K (.ref C) "__init__"=some (some (.builtin "object.__init__")))(kp:FY X.K (.ref C)=true)(g:Gl X x)(hm:X.mg x=some (.ref C))(a: (x==("__debug__" :Bx))=false:=by decide):PE X (.Call (.Name x p) [] [] pos) (M7 C):=by
 intro pZ s σ H Q I h;refine DD (JA I g hm ?_ a);refine UV I.kIn kp (Ho ?_);have j:=CL.made (C:=C) I;have f:=h (s.heap.objs.size+1) s.heap.objs.size (I.hok.fresh (EV _)) (I.hok.fresh (Bv _)) (Ck (GV _));have Y:=PySem.W.makes_of (M:=model X.prog X.w) I.kIn makes;refine qR I.kIn makes init (λself=>PySem.W.Looks.of_pure (PySem.W.oi_bind self)) ?_;have i: ((s.heap.push Dq).push (DE C s.heap.objs.size)).get? (s.heap.objs.size+1)=some (DE C s.heap.objs.size):=by
  have:=Ca (s.heap.push Dq) (o:=DE C s.heap.objs.size) rfl
  rwa [KY]at this
 have d:PySem.W.Looks (model X.prog X.w) ((s.heap.push Dq).push (DE C s.heap.objs.size)) (typeOf (.ref (s.heap.objs.size+1))) (.ref C):=(PySem.W.Looks.ld i).andThen .now;have c:PySem.W.Looks (model X.prog X.w) ((s.heap.push Dq).push (DE C s.heap.objs.size)) (OQ (.ref (s.heap.objs.size+1)) (.type "object")) true:=d.andThen (Y.top.keeps λb o e=>Bb _ (Bb _ e));refine GU PySem.W.oi_plain PySem.W.entry_oi (@PySem.W.check_slot (model X.prog X.w) _ _ _ "object.__init__" "object" "__init__" (.ref (s.heap.objs.size+1)) [] [] _ PySem.W.oi_kind PySem.W.oi_split c (PySem.W.oi_args (.ref (s.heap.objs.size+1))) ?_);rw[PySem.W.oi_run];exact BQ (And.intro rfl ⟨.ref (s.heap.objs.size+1),_,j,rfl,f⟩)
end
structure Wk(J:It)(H1:Hp)(xs:List V):Prop where
 go:∀H i,BC H1 H->i<xs.length->J.go i H
 stop:∀H i,BC H1 H->i=xs.length->J.stop i H
 yld:∀H i x H',BC H1 H->i<xs.length->J.yld i H x H'->H'=H/\xs[i]?=some x
theorem Wk.list{K:Be}{H1:Hp}{l:Ba}{xs:List V}(h:Dk K H1 l xs):Wk (A6 K l) H1 xs where
 go:=λH i s hi=>⟨_,xs[i],s.seq h,AW hi⟩
 stop:=λH i s hi=>⟨_,s.seq h,by omega⟩
 yld:=λH i x H' s hi y=>⟨y.1,y.2 _ (s.seq h)⟩
def tZ(z:Bx):List V:=z.cps.toList.map λc=>V.str ⟨#[c]⟩
theorem Ww(z:Bx): (tZ z).length=z.length:=by simp[tZ,PySem.Str.length]
theorem Wk.str{H1:Hp}(z:Bx):Wk (Its z) H1 (tZ z) where
 go:=λH i s hi=>by rw[Ww]at hi;exact hi
 stop:=λH i s hi=>by rw[Ww]at hi;exact Nat.le_of_eq hi.symm
 yld:=λH i x H' s hi y=>by
  obtain⟨e,c,hc,rfl⟩:=y;refine⟨e,?_⟩;have a:z.cps.toList[i]?=some c:=by rw[Array.getElem?_toList];exact hc
  rw[tZ,Bj,a];rfl
section
variable{J:It}{H1:Hp}{xs:List V}{σ0:St}{g:TG}{tif:TT}{te:TE}{Q:VK}
theorem vK(W:Wk J H1 xs)(t:xs.length<=1000)(p:V->Bool)(f:V->V)(hs:∀x∈xs,∀(H:Hp) (R:Bool->V->Hp->Prop),BC H1 H->(∀H',BC H H'->p x=true->R true (f x) H')->(∀H',BC H H'->p x=false->R false .non H')->g x j H λd H2=>Sub j d/\tif d H2 λb r=>if b=true then te d r (R true)else R false .non r)(hd:∀D H',H1 D=none->BC H1 H'->H' D=some (.lst ((xs.filter p).map f))->Q (.ref D) H'):QH J H1 j g tif te Q:=by
 intro D n;refine⟨λi m ys H=>m=xs.length - i/\i<=xs.length/\ys=((xs.take i).filter p).map f/\BC H1 H/\H D=some (.lst ys),⟨xs.length,by simp,CH _,rfl,BM n,AX⟩,?_⟩;rintro i m ys H ⟨rfl,hi,rfl,sm,a⟩;refine⟨a,?_⟩;by_cases c:i<xs.length
 ·refine .inr ⟨W.go H i sm c,λx H' y=>?_⟩;obtain⟨e,o⟩:=W.yld H i x H' sm c y;subst e;have q:xs.take (i+1)=xs.take i++[x]:=by rw[List.take_add_one,o];rfl
  have s: (((xs.take i).filter p).map f).length<sizeLine:=by
   rw[AV];refine Ea (BF (Ie _ _) ?_);rw[Bt];omega
  have key:=hs x (Bp o) H' (λb v h=>if b=true then h D=some (.lst (((xs.take i).filter p).map f))/\(((xs.take i).filter p).map f).length<sizeLine/\∃k,k<xs.length - i/\(k=xs.length - (i+1)/\i+1<=xs.length/\((xs.take i).filter p).map f++[v]=((xs.take (i+1)).filter p).map f/\BC H1 (upd h D (.lst (((xs.take i).filter p).map f++[v])))/\upd h D (.lst (((xs.take i).filter p).map f++[v])) D=some (.lst (((xs.take i).filter p).map f++[v])))
   else ∃k,k<xs.length - i/\(k=xs.length - (i+1)/\i+1<=xs.length/\((xs.take i).filter p).map f=((xs.take (i+1)).filter p).map f/\BC H1 h/\h D=some (.lst (((xs.take i).filter p).map f)))) sm
   (λh s4 l=>by
    rw[A36 rfl];refine⟨s4 _ _ a,s,xs.length - (i+1),by omega,rfl,c,?_,(sm.trans s4).put n,AX⟩;rw[q,Fg,CD l,Cr];rfl)
   (λh s4 l=>by
    rw[A35 BL];refine⟨xs.length - (i+1),by omega,rfl,c,?_,sm.trans s4,s4 _ _ a⟩;rw[q,Fg,Dd (by rw[l];exact BL),List.filter_nil,De])
  exact key
 ·have e:i=xs.length:=by omega
  subst e;refine .inl ⟨W.stop H _ sm rfl,hd D H n sm ?_⟩;rw[DU]at a;exact a
theorem Pp(W:Wk J H1 xs)(u:xs.length<=1000)(p:Nat->Bool)(f:Nat->V)(hs:∀(j:Nat) (x:V),xs[j]?=some x->∀(H:Hp) (R:Bool->V->Hp->Prop),BC H1 H->(∀H',BC H H'->p j=true->R true (f j) H')->(∀H',BC H H'->p j=false->R false .non H')->g x k H λd H2=>Sub k d/\tif d H2 λb r=>if b=true then te d r (R true)else R false .non r)(hd:∀D H',H1 D=none->BC H1 H'->H' D=some (.lst (((Bz xs.length).filter p).map f))->Q (.ref D) H'):QH J H1 k g tif te Q:=by
 intro D o;refine⟨λi m ys H=>m=xs.length - i/\i<=xs.length/\ys=((Bz i).filter p).map f/\BC H1 H/\H D=some (.lst ys),⟨xs.length,by simp,CH _,rfl,BM o,AX⟩,?_⟩;rintro i m ys H ⟨rfl,hi,rfl,sm,c⟩;refine⟨c,?_⟩;by_cases a:i<xs.length
 ·refine .inr ⟨W.go H i sm a,λx H' y=>?_⟩;obtain⟨e,s⟩:=W.yld H i x H' sm a y;subst e;have q:Bz (i+1)=Bz i++[i]:=List.range_succ;have t: (((Bz i).filter p).map f).length<sizeLine:=by
   rw[AV];refine Ea (BF (Ie _ _) ?_);rw[Bw];omega
  have key:=hs i x s H' (λb v h=>if b=true then h D=some (.lst (((Bz i).filter p).map f))/\(((Bz i).filter p).map f).length<sizeLine/\∃l,l<xs.length - i/\(l=xs.length - (i+1)/\i+1<=xs.length/\((Bz i).filter p).map f++[v]=((Bz (i+1)).filter p).map f/\BC H1 (upd h D (.lst (((Bz i).filter p).map f++[v])))/\upd h D (.lst (((Bz i).filter p).map f++[v])) D=some (.lst (((Bz i).filter p).map f++[v])))
   else ∃l,l<xs.length - i/\(l=xs.length - (i+1)/\i+1<=xs.length/\((Bz i).filter p).map f=((Bz (i+1)).filter p).map f/\BC H1 h/\h D=some (.lst (((Bz i).filter p).map f)))) sm
   (λh s4 n=>by
    rw[A36 rfl];refine⟨s4 _ _ c,t,xs.length - (i+1),by omega,rfl,a,?_,(sm.trans s4).put o,AX⟩;rw[q,Fg,CD n,Cr];rfl)
   (λh s4 n=>by
    rw[A35 BL];refine⟨xs.length - (i+1),by omega,rfl,a,?_,sm.trans s4,s4 _ _ c⟩;rw[q,Fg,Dd (by rw[n];exact BL),List.filter_nil,De])
  exact key
 ·have e:i=xs.length:=by omega
  subst e;refine .inl ⟨W.stop H _ sm rfl,hd D H o sm ?_⟩;exact c
theorem Du(W:Wk J H1 xs)(h:xs.length<=1000)(f:Nat->V)(hs:∀(j:Nat) (x:V),xs[j]?=some x->∀(H:Hp) (R:VK),BC H1 H->(∀H',BC H H'->R (f j) H')->g x e H λd H2=>Sub e d/\te d H2 R)(hd:∀D H',H1 D=none->BC H1 H'->H' D=some (.lst ((Bz xs.length).map f))->Q (.ref D) H'):QH J H1 e g XE te Q:=by
 refine Pp W h (λ_=>true) f (λj x i H R s h1 _=>?_) (λD H' a b c=>hd D H' a b ?_)
 ·exact hs j x i H (R true) s λH' s'=>h1 H' s' rfl
 ·rw[UY.mpr (λ_ _=>rfl)]at c;exact c
theorem UN(W:Wk J H1 xs)(h:xs.length<=1000)(f:V->V)(hs:∀x∈xs,∀(H:Hp) (R:VK),BC H1 H->(∀H',BC H H'->R (f x) H')->g x e H λd H2=>Sub e d/\te d H2 R)(hd:∀D H',H1 D=none->BC H1 H'->H' D=some (.lst (xs.map f))->Q (.ref D) H'):QH J H1 e g XE te Q:=by
 refine vK W h (λ_=>true) f (λx i H R s h1 _=>?_) (λD H' a b c=>hd D H' a b ?_)
 ·have k:=hs x i H (R true) s λH' s'=>h1 H' s' rfl;exact k
 ·rw[UY.mpr (λ_ _=>rfl)]at c;exact c
end
theorem Lj{X:Cx}(K:Be)(c:X.K=K){e:Expr}{f:Bx}{pos:Pos}{ta:TE}(a:PE X e ta)(b:Iy e f X.env (eval e X.env)=eval e X.env):PE X (.Attribute e f pos) (Y9 K ta f):=by
 subst c;exact DC a b
def O3:R2:=λx y H Q=>∃p q xs,x= .ref p/\y= .ref q/\H p=some (.lst xs)/\H q=some (.lst [])/\Q (.bl xs.isEmpty) H
section
variable{X:Cx}
theorem jm(j:X.A.units+64<cLine):Ny X (EE .Eq) O3:=by
 intro pZ s σ H x y v u Q I i g h;obtain⟨p,q,xs,rfl,rfl,f,e,k⟩:=h;cases i;cases g;cases xs with
 |nil=>
  refine lX j pZ s σ H (.ref p) (.ref q) _ _ Q I rfl rfl ⟨.list [],.list [],.lst (Dk.of f) .nil,.lst (Dk.of e) .nil,Aa,Aa,?_⟩;exact k
 |cons y ys=>
  obtain⟨_,b,n,r,m,l⟩:=I.lstM f;obtain⟨_,a,n2,w,d,c⟩:=I.lstM e;have o:a.length=0:=d.symm;have t:b.length=ys.length+1:=m.symm;refine PySem.SeqAt.eq_list_lengthsAt ⟨_,l,rfl,n,rfl⟩ ⟨_,c,rfl,n2,rfl⟩ ?_ (by omega) ⟨.bl _,H,I,rfl,k⟩;rw[BY,BY,t,o];rfl
end
section
variable{κ:Type} [DecidableEq κ]
def HF(kvs:List (κ×V))(k:κ):Option V:=(kvs.find? λa=>decide (a.1=k)).map (·.2)
def Jp(kvs:List (κ×V))(k:κ)(v:V):List (κ×V):=if (kvs.any λa=>decide (a.1=k))=true then kvs.map (λa=>if a.1=k then (a.1,v)else a)else kvs++[(k,v)]
theorem NY{p:κ×V}{r:List (κ×V)}{k:κ}(e:p.1=k):HF (p::r) k=some p.2:=by simp[HF,Jo,e]
theorem NZ{p:κ×V}{r:List (κ×V)}{k:κ}(e:¬p.1=k):HF (p::r) k=HF r k:=by simp[HF,Jo,e]
theorem XB(k:κ):∀kvs:List (κ×V),(kvs.any λa=>decide (a.1=k))=(HF kvs k).isSome
 |[]=>rfl
 |p::r=>by
  rw[Jk];by_cases e:p.1=k
  ·simp only[NY e,A32 e,Bool.true_or,Option.isSome_some]
  ·rw[NZ e,A33 e,Bool.false_or];exact XB k r
theorem OA(kvs:List (κ×V))(k:κ)(v:V): (Jp kvs k v).length<=kvs.length+1:=by
 unfold Jp;split
 ·rw[AV];omega
 ·rw[Bh,Cj,QL];omega
theorem uq{kvs:List (κ×V)}{k:κ}(v:V)(h:HF kvs k=none):Jp kvs k v=kvs++[(k,v)]:=by
 unfold Jp;rw[XB,h];exact A35 Aa
theorem La.isSome_eq{o:Option V}{u:Option AY}(r:La o u):o.isSome=u.isSome:=by
 cases o with
 |none=>cases u with
  |none=>rfl
  |some _=>exact(show False from r).elim
 |some _=>cases u with
  |none=>exact(show False from r).elim
  |some _=>rfl
theorem La.getD{o:Option V}{u:Option AY}{d:V}{d':AY}(r:La o u)(rd:DA d d'):DA (o.getD d) (u.getD d'):=by
 cases o with
 |none=>cases u with
  |none=>exact rd
  |some _=>exact(show False from r).elim
 |some _=>cases u with
  |none=>exact(show False from r).elim
  |some _=>exact r
theorem KV.val{kvs:List (κ×V)}{vs:List (κ×AY)}(r:KV kvs vs)(k:κ):La (HF kvs k) (valueAt vs k):=by
 unfold KV at r;induction r with
 |nil=>exact Ef
 |@cons p q ps qs h t c=>
  obtain⟨h1,h2⟩:=h;by_cases e:p.1=k
  ·have a:q.1=k:=h1.symm.trans e;have b:valueAt (q::qs) k=some q.2:=by simp[valueAt,Jo,a]
   rw[NY e,b];exact h2
  ·have a:¬q.1=k:=λz=>e (h1.trans z);have b:valueAt (q::qs) k=valueAt qs k:=by simp[valueAt,Jo,a]
   rw[NZ e,b];exact c
theorem KV.any{kvs:List (κ×V)}{vs:List (κ×AY)}(r:KV kvs vs)(k:κ): (kvs.any λa=>decide (a.1=k))=vs.any λa=>decide (a.1=k):=by
 unfold KV at r;induction r with
 |nil=>rfl
 |cons h t b=>rw[Jk,Jk,b,h.1]
theorem KV.repl{kvs:List (κ×V)}{vs:List (κ×AY)}(r:KV kvs vs)(k:κ){y:V}{u:AY}(b:DA y u):
  KV (kvs.map λa=>if a.1=k then (a.1,y)else a) (vs.map λa=>if a.1=k then (a.1,u)else a):=by
 unfold KV at r ⊢;induction r with
 |nil=>exact .nil
 |@cons p q ps qs h t c=>
  rw[BV,BV];refine .cons ?_ c;obtain⟨h1,h2⟩:=h;by_cases e:p.1=k
  ·rw[A36 e,A36 (h1.symm.trans e)];exact⟨h1,b⟩
  ·rw[A35 e,A35 (λz=>e (h1.trans z))];exact⟨h1,h2⟩
theorem KV.put{kvs:List (κ×V)}{vs:List (κ×AY)}(r:KV kvs vs)(k:κ){y:V}{u:AY}(a:DA y u):KV (Jp kvs k y) (stored vs k u):=by
 unfold Jp stored;rw[r.any k];by_cases e: (vs.any λb=>decide (b.1=k))=true
 ·rw[A36 e,A36 e];exact r.repl k a
 ·rw[A35 e,A35 e];exact Paired.snoc r ⟨rfl,a⟩
theorem KV.length{kvs:List (κ×V)}{vs:List (κ×AY)}(r:KV kvs vs):kvs.length=vs.length:=Paired.length r
end
theorem cf{P:BG}{w:Cs}{k:Gv}{u:AY}(r:DA (kV k) u): (EZ P w).is k u=true:=by
 cases k with
 |inl i=>obtain⟨t,e⟩:=(show ∃t,u=HK i t from r);subst e;exact jz P w i t
 |inr x=>obtain⟨t,e⟩:=(show ∃t,u=LG x t from r);subst e;exact jy P w x t
theorem ci{P:BG}{w:Cs}:∀{ks:List Gv} {us:List AY},CQ (ks.map kV) us->ItemsAre (EZ P w) ks us
 |[],_,r=>by rw[Gs]at r;cases r;exact .nil
 |k::ks,_,r=>by
  rw[BV]at r;cases r with
  |cons h t=>exact .cons (cf h) (ci t)
abbrev KT(H:Hp):List (List Gv×V)->List (List Gv×Ba×AY)->Prop:=Paired λp q=>p.1=q.1/\H q.2.1=some (.tup (p.1.map kV))/\DA p.2 q.2.2
theorem KT.val{H:Hp}{kvs:List (List Gv×V)}{xs:List (List Gv×Ba×AY)}(r:KT H kvs xs)(k:List Gv):La (HF kvs k) ((atKey xs k).map (·.2)):=by
 induction r with
 |nil=>exact Ef
 |@cons p q ps qs h t c=>
  obtain⟨h1,_,h2⟩:=h;by_cases e:p.1=k
  ·have a:q.1=k:=h1.symm.trans e;have b:atKey (q::qs) k=some q.2:=by simp[atKey,Jo,a]
   rw[NY e,b];exact h2
  ·have a:¬q.1=k:=λz=>e (h1.trans z);have b:atKey (q::qs) k=atKey qs k:=by simp[atKey,Jo,a]
   rw[NZ e,b];exact c
theorem KT.repl{H:Hp}{kvs:List (List Gv×V)}{xs:List (List Gv×Ba×AY)}(r:KT H kvs xs)(k:List Gv){y:V}{u:AY}(b:DA y u):
  KT H (kvs.map λa=>if a.1=k then (a.1,y)else a) (xs.map (putAt k u)):=by
 induction r with
 |nil=>exact .nil
 |@cons p q ps qs h t c=>
  rw[BV,BV];refine .cons ?_ c;obtain⟨h1,h2,h3⟩:=h;unfold putAt;by_cases e:p.1=k
  ·rw[A36 e,A36 (h1.symm.trans e)];exact⟨h1,h2,b⟩
  ·rw[A35 e,A35 (λz=>e (h1.trans z))];exact⟨h1,h2,h3⟩
theorem KT.put{H:Hp}{kvs:List (List Gv×V)}{xs:List (List Gv×Ba×AY)}(r:KT H kvs xs)(k:List Gv){b:Ba}{y:V}{u:AY}(d:H b=some (.tup (k.map kV)))(a:DA y u):
  KT H (Jp kvs k y) (storedH xs k b u):=by
 have e: (kvs.any λc=>decide (c.1=k))=(atKey xs k).isSome:=by
  rw[XB,(r.val k).isSome_eq,Option.isSome_map]
 unfold Jp storedH;rw[e];by_cases q: (atKey xs k).isSome=true
 ·rw[A36 q,A36 q];exact r.repl k a
 ·rw[A35 q,A35 q];exact Paired.snoc r ⟨rfl,d,a⟩
theorem KT.keeps{H H':Hp}{kvs:List (List Gv×V)}{xs:List (List Gv×Ba×AY)}(r:KT H kvs xs)(a:∀b ys,H b=some (.tup ys)->H' b=some (.tup ys)):KT H' kvs xs:=Paired.mapP r λ_ _ z=>⟨z.1,a _ _ z.2.1,z.2.2⟩
section
variable{P:BG}{w:Cs}{H:Hp}{h:CO}{a:Ba}
theorem zR{u:HO}(ok:JE P w H h)(e:Rd H a u):DH P w H h a u:=e.ok ok
theorem YN{kvs:List (Gv×V)}(ok:JE P w H h)(e:Rd H a (.dK kvs)):kvs.length<=sizeLine/\(a==Ip)=false/\∃vs,KV kvs vs/\h.DictOf (EZ P w) a vs:=show DH P w H h a (.dK kvs)from zR ok e
theorem pC{kvs:List (Gv×V)}(ok:JE P w H h)(e:H a=some (.dK kvs)):kvs.length<=sizeLine/\(a==Ip)=false/\∃vs,KV kvs vs/\h.DictOf (EZ P w) a vs:=YN ok (.inl e)
theorem YE{ks:List Gv}(ok:JE P w H h)(e:H a=some (.tup (ks.map kV))): (tupleKind (EZ P w)).is h ks a:=by
 obtain⟨_,b,r,o,h1,h2,n,h3⟩:=(show DH P w H h a (.tup (ks.map kV))from ok a _ e);exact⟨o,b.toArray,n,h1,h2,h3,by simpa using ci r⟩
theorem cz{kvs:List (List Gv×V)}(ok:JE P w H h)(e:Rd H a (.dT kvs)):kvs.length<=sizeLine/\(a==Ip)=false/\∃xs,KT H kvs xs/\h.DictOfH (tupleKind (EZ P w)) a xs:=by
 obtain⟨z,y,xs,r,o,es,ep,h1,h2,h3,g,f⟩:=(show DH P w H h a (.dT kvs)from zR ok e);refine⟨z,y,xs,r,o,es,ep,h1,h2,h3,g,λx b=>?_,f⟩;have all:∀{l:List (List Gv×V)} {m:List (List Gv×Ba×AY)},KT H l m->∀x∈m,(tupleKind (EZ P w)).is h x.1 x.2.1:=by
  intro l m q;induction q with
  |nil=>intro x b;exact nomatch b
  |@cons p q ps qs c t d=>
   intro x b;rcases BK.mp b with e|b
   ·subst e;exact YE ok (by rw[<-c.1];exact c.2.1)
   ·exact d x b
 exact all r x b
theorem A0R{kvs:List (List Gv×V)}(ok:JE P w H h)(e:H a=some (.dT kvs)):kvs.length<=sizeLine/\(a==Ip)=false/\∃xs,KT H kvs xs/\h.DictOfH (tupleKind (EZ P w)) a xs:=cz ok (.inl e)
end
def Go(H:Hp)(a:Ba)(y:V)(r:Option V):Prop:=(∃kvs k,Rd H a (.dK kvs)/\y=kV k/\r=HF kvs k)\/∃kvs k b,Rd H a (.dT kvs)/\y= .ref b/\H b=some (.tup (k.map kV))/\r=HF kvs k
def bp(H:Hp)(a:Ba)(y v:V)(H':Hp):Prop:=(∃kvs k,H a=some (.dK kvs)/\y=kV k/\kvs.length<sizeLine/\H'=upd H a (.dK (Jp kvs k v)))\/
 ∃kvs k b,H a=some (.dT kvs)/\y= .ref b/\H b=some (.tup (k.map kV))/\kvs.length<sizeLine/\H'=upd H a (.dT (Jp kvs k v))
theorem Go.k{H:Hp}{a:Ba}{kvs:List (Gv×V)}{k:Gv}(e:H a=some (.dK kvs)):Go H a (kV k) (HF kvs k):=.inl ⟨kvs,k,.inl e,rfl,rfl⟩
theorem bp.k{H:Hp}{a:Ba}{kvs:List (Gv×V)}{k:Gv}{v:V}(e:H a=some (.dK kvs))(b:kvs.length<sizeLine):bp H a (kV k) v (upd H a (.dK (Jp kvs k v))):=.inl ⟨kvs,k,e,rfl,b,rfl⟩
section
variable{X:Cx}{pZ:List (Ba×Obj)}{σ:St}{H:Hp}{s:Bf}{a:Ba}{y v:V}{u r:AY}{o:Option V}{A:Do}{E:AY->Bf->Prop}
theorem rA{Q:AY->Bf->Prop}(m:A.units+1<cLine)(I:CL X pZ σ H s)(g:Go H a y (some v))(j:DA y u)(h:∀d s',CL X pZ σ H s'->DA v d->Q d s'):
  Cc (model X.prog X.w) A (getItem (.ref a) u) Q E s:=by
 rcases g with⟨kvs,k,e,i,l⟩|⟨kvs,k,b,e,i,q,l⟩
 ·subst i;obtain⟨z,hd,vs,rel,dd⟩:=YN I.hok e;obtain⟨d,hw,c⟩:=La.some_of (v:=v) (o:=valueAt vs k) (by rw[l];exact rel.val k);exact wpAny_getItem_of (cf j) dd.mapOf hw (h d _ (I.tok _) c)
 ·subst i;cases (show u=Value.ref b from j);obtain⟨z,hd,xs,rel,dd⟩:=cz I.hok e;obtain⟨d,hw,c⟩:=La.some_of (v:=v) (o:=(atKey xs k).map (·.2)) (by rw[l];exact rel.val k);obtain⟨p,n,f⟩:=BS.mp hw;refine wpAny_getItem_heap (OP m) (YE I.hok q) dd n ?_;rw[f];exact h d _ (I.tok _) c
theorem A2l{Q:AY->Bf->Prop}(f:A.units+1<cLine)(I:CL X pZ σ H s)(g:Go H a y o)(d:DA y u)(h:∀s',CL X pZ σ H s'->Q (.bool o.isSome) s'):
  Cc (model X.prog X.w) A (EE .In u (.ref a)) Q E s:=by
 rcases g with⟨kvs,k,e,c,l⟩|⟨kvs,k,b,e,c,i,l⟩
 ·subst c;obtain⟨z,hd,vs,rel,dd⟩:=YN I.hok e;refine wpAny_in_of (cf d) hd dd.mapOf ?_;rw[<- (rel.val k).isSome_eq,<-l];exact h _ (I.tok _)
 ·subst c;cases (show u=Value.ref b from d);obtain⟨z,hd,xs,rel,dd⟩:=cz I.hok e;refine wpAny_in_heap (OP f) (YE I.hok i) hd dd ?_;have q:=(rel.val k).isSome_eq;rw[Option.isSome_map]at q;rw[<-q,<-l];exact h _ (I.tok _)
theorem fZ{h':CO}{t':Nat}{ob:HO}(I:CL X pZ σ H s)(c:Mut (H a))(hs:NA a s.heap h')(d:∃q,h'.get? a=some q)(new:DH X.prog X.w (upd H a ob) h' a ob):
  CL X pZ σ (upd H a ob) {s with heap:=h',toks:=t'}:=I.write (x:=a) (e:=a) c (.inl rfl) (λb q f z=>(hs.2 b f).trans z) d new
theorem vB{P:BG}{w:Cs}{H':Hp}{h':CO}{kvs:List (Gv×V)}{vs:List (Gv×AY)}(z:kvs.length<=sizeLine)(hd: (a==Ip)=false)(rel:KV kvs vs)(dd:h'.DictOf (EZ P w) a vs):
  DH P w H' h' a (.dK kvs):=⟨z,hd,vs,rel,dd⟩
theorem rz{H':Hp}{Q:Unit->Bf->Prop}(B:A.units+1<cLine)(I:CL X pZ σ H s)(g:bp H a y v H')(o:DA y u)(p:DA v r)(h:∀s',CL X pZ σ H' s'->Q () s'):
  Cc (model X.prog X.w) A (setItem (.ref a) u r) Q E s:=by
 rcases g with⟨kvs,k,e,m,l,n⟩|⟨kvs,k,b,e,m,x,l,n⟩
 ·subst m n;obtain⟨z,hd,vs,rel,dd⟩:=pC I.hok e;have i:vs.length<=sizeLine:=by rw[<-rel.length];exact z
  have j: (Jp kvs k v).length<=sizeLine:=by have:=OA kvs k v;omega
  refine wpAny_setItem_pairs (hsz:=i) (cf o) dd λh' d hs=>h _ ?_;have C:∃q,h'.get? a=some q:=let ⟨q,_,_,f,_⟩:=d;⟨q,f⟩;exact fZ I (by rw[e];exact Ef) hs C (vB j hd (rel.put k p) d)
 ·subst m n;cases (show u=Value.ref b from o);obtain⟨z,hd,xs,rel,dd⟩:=A0R I.hok e;have i:xs.length<=sizeLine:=by rw[<-Paired.length rel];exact z
  have j: (Jp kvs k v).length<=sizeLine:=by have:=OA kvs k v;omega
  refine wpAny_setItem_heap (hsz:=i) (OP B) (YE I.hok x) dd λh' d hs=>h _ ?_;obtain⟨q,es,ep,f,h2,h3,F,_,D⟩:=d;refine fZ I (by rw[e];exact Ef) hs ⟨q,f⟩ ⟨j,hd,_,(rel.put k x p).keeps λc ys t=>?_,q,es,ep,f,h2,h3,F,D⟩;rw[Bo (jw t e (λz=>nomatch z))];exact t
end
section
variable{X:Cx}{pZ:List (Ba×Obj)}{σ:St}{H:Hp}{s:Bf}{a:Ba}{kvs:List (Gv×V)}{k:Gv}{u:AY}{A:Do}{E:AY->Bf->Prop}
end
def A13(i:Expr):Prop:=∀a iv,subscripted i false a iv=operate [a,iv] (getItem a iv)
theorem yc{prog:BG}{w:Cs}{A:Do}{E:AY->Bf->Prop}{s:Bf}{env:Env}{value slice:Expr}{pos:Pos}{T id:String}{Q:AY->Bf->Prop}(j:typeLookup (.type T) "__getitem__"=pure (some (.builtin id)))(hs:A13 slice)(h:Cc (model prog w) A (eval value env) (λo d=>Cc (model prog w) A (eval slice env) (λi a=>a.TypeIs o T/\Cc (model prog w) A (getItem o i) Q E a) E d) E s):
  Cc (model prog w) A (eval (.Subscript value slice pos) env) Q E s:=by
 refine Subscript_ (FK h (λo d f=>FK f (λi a b=>?_) λ_ _ x=>x) λ_ _ x=>x);obtain⟨g,b⟩:=b;unfold subscriptTail;refine Bg ?_;rw[getitemInPython_of_ne g.not_modules];refine Bg (wpAny_specialOf g j ?_);have fin:Cc (model prog w) A (subscripted slice false o i) (λr c=>Cc (model prog w) A (letTemporaryGo value o r >>= λ_=>pure r) Q E c) E a:=by
  rw[hs o i];exact wpAny_operating (FK b (λr c e=>Bg (wpAny_letTemporaryGo (BQ e))) λ_ _ x=>x)
 first
  |exact BQ (Bg fin)
  |exact Bg (BQ (Bg fin))
  |exact Bg fin
theorem jT{X:Cx}{pZ:List (Ba×Obj)}{σ:St}{H:Hp}{s:Bf}{a:Ba}{y:V}{o:Option V}(I:CL X pZ σ H s)(g:Go H a y o):s.TypeIs (.ref a) "dict":=by
 rcases g with⟨kvs,k,e,_,_⟩|⟨kvs,k,b,e,_,_,_⟩
 ·obtain⟨_,_,vs,_,dd⟩:=YN I.hok e;exact dd.typeIs
 ·obtain⟨_,_,xs,_,dd⟩:=cz I.hok e;exact dd.typeIs
def Z2(td ty:TE):TE:=λσ H Q=>td σ H λx H1=>ty σ H1 λy H2=>∃a v,x= .ref a/\Go H2 a y (some v)/\Q v H2
def A1E(ty td:TE):TE:=λσ H Q=>ty σ H λy H1=>td σ H1 λx H2=>∃a o,x= .ref a/\Go H2 a y o/\Q (.bl o.isSome) H2
def i5(td ty tv:TE):TS:=λD σ H=>tv σ H λv H1=>td σ H1 λx H2=>ty σ H2 λy c=>∃a b,x= .ref a/\bp c a y v b/\D.nx σ b
section
variable{X:Cx}{o i e value:Expr}{pos pos' tpos:Pos}{td ty tv:TE}
theorem CT(m:X.A.units+1<cLine)(n:PE X o td)(hi:PE X i ty)(hs:A13 i):PE X (.Subscript o i pos) (Z2 td ty):=by
 intro pZ s σ H Q I h;refine yc PySem.F.slot_dict_getitem.lookup hs (ES (n pZ s σ H _ I h) λu s1 c=>?_);obtain⟨x,H1,q,j,l⟩:=c;refine ES (hi pZ s1 σ H1 _ q l) λiv s2 b=>?_;obtain⟨y,H2,e,f,a,v,ex,g,k⟩:=b;subst ex;obtain rfl:u=Value.ref a:=j;exact⟨jT e g,rA m e g f λr t p d=>⟨v,H2,p,d,k⟩⟩
theorem uC(l:X.A.units+1<cLine)(hi:PE X i ty)(m:PE X o td):PC X .In i o (A1E ty td):=by
 intro pZ s σ H Q I h;refine ES (hi pZ s σ H _ I h) λiv s1 c=>?_;obtain⟨y,H1,q,d,j⟩:=c;refine ES (m pZ s1 σ H1 _ q j) λu s2 b=>?_;obtain⟨x,H2,p,e,a,k,ex,g,f⟩:=b;subst ex;obtain rfl:u=Value.ref a:=e;exact A2l l p g d λr n=>⟨.bl k.isSome,H2,n,rfl,f⟩
theorem Pk(p:X.A.units+1<cLine)(q:PE X o td)(hi:PE X i ty)(n:PE X value tv)(hs:swapsWith value (some (.Subscript o i pos')) pos.line X.env=pure false):
  PS X (.Assign [.Subscript o i pos'] value pos) (i5 td ty tv):=by
 intro pZ s σ H D I h;refine wpAny_Assign_Subscript (ES (n pZ s σ H _ I h) λr s1 d=>?_) hs;obtain⟨v,H1,B,j,m⟩:=d;refine ES (q pZ s1 σ H1 _ B m) λu s2 c=>?_;obtain⟨x,H2,z,f,l⟩:=c;refine ES (hi pZ s2 σ H2 _ z l) λiv E b=>?_;obtain⟨y,F,w,e,a,C,ex,g,k⟩:=b;subst ex;obtain rfl:u=Value.ref a:=f;exact rz p w g e j λs4 t=>⟨σ,C,t,k⟩
end
section
variable{X:Cx}{pos:Pos}
end
def lw:List (TE×TE)->St->Hp->(List (V×V)->Hp->Prop)->Prop
 |[],_,H,Q=>Q [] H
 |(tk,tv)::r,σ,H,Q=>tk σ H λx H1=>tv σ H1 λy H2=>lw r σ H2 λps a=>Q ((x,y)::ps) a
abbrev VV:List (V×V)->List (AY×AY)->Prop:=Paired λp q=>DA p.1 q.1/\DA p.2 q.2
def PPs(X:Cx)(pos:Pos)(keys:List (Option Expr))(values:List Expr)(a:List (TE×TE)):Prop:=∀(pZ:List (Ba×Obj)) (s:Bf) (σ:St) (H:Hp) (Q:List (V×V)->Hp->Prop),CL X pZ σ H s->lw a σ H Q->Cc (model X.prog X.w) X.A (evalPairs (pairTrees keys values X.env pos)) (λvs s'=>∃ps H',CL X pZ σ H' s'/\VV ps vs/\Q ps H') X.xe s
theorem Wz{X:Cx}{pos:Pos}:PPs X pos [] [] []:=λpZ s σ H Q I h=>pairTrees_nil_walk ⟨[],H,I,.nil,h⟩
theorem EG{X:Cx}{pos:Pos}{k v:Expr}{ks:List (Option Expr)}{vs:List Expr}{tk tv:TE}{a:List (TE×TE)}(l:PE X k tk)(i:PE X v tv)(j:PPs X pos ks vs a):
  PPs X pos (some k::ks) (v::vs) ((tk,tv)::a):=λpZ s σ H Q I h=>
 pairTrees_cons_walk (ES (l pZ s σ H _ I h) λu s1 ⟨x,H1,o,d,g⟩=>ES (i pZ s1 σ H1 _ o g) λw2 s2 ⟨y,H2,n,c,f⟩=>
  ES (j pZ s2 σ H2 _ n f) λws q b=>(by obtain⟨ps,p,m,rel,e⟩:=b;exact⟨(x,y)::ps,p,m,.cons ⟨d,c⟩ rel,e⟩))
def Jv(kvs more:List (Gv×V)):List (Gv×V):=more.foldl (λa b=>Jp a b.1 b.2) kvs
theorem KV.merge:∀{more:List (Gv×V)} {a:List (Gv×AY)} {kvs:List (Gv×V)} {vs:List (Gv×AY)},KV more a->KV kvs vs->KV (Jv kvs more) (merged vs a):=by
 intro more a kvs vs r;unfold KV at r;induction r generalizing kvs vs with
 |nil=>intro q;exact q
 |@cons p q ps qs h t c=>
  intro b;have e:KV (Jp kvs p.1 p.2) (stored vs q.1 q.2):=by
   have:=b.put p.1 h.2;rw[<-h.1];exact this
  exact c e
theorem QD:∀(more kvs:List (Gv×V)),(Jv kvs more).length<=kvs.length+more.length
 |[],kvs=>by show kvs.length<=kvs.length+0;omega
 |p::r,kvs=>by
  have h1:=QD r (Jp kvs p.1 p.2);have h2:=OA kvs p.1 p.2;show(Jv (Jp kvs p.1 p.2) r).length<=_;rw[Cj];omega
theorem YQ{P:BG}{w:Cs}:∀{kvs:List (Gv×V)} {ws:List (AY×AY)},VV (kvs.map λe=>(kV e.1,e.2)) ws->∃d,Carries (EZ P w) ws d/\KV kvs d
 |[],_,r=>by rw[Gs]at r;cases r;exact⟨[],Ef,.nil⟩
 |p::kvs,_,r=>by
  rw[BV]at r;cases r with
  |@cons a b as bs h t=>
   obtain⟨d,c,q⟩:=YQ (P:=P) (w:=w) t;obtain⟨g,f⟩:=b;exact⟨(p.1,f)::d,⟨cf h.1,rfl,c⟩,.cons ⟨rfl,h.2⟩ q⟩
def Z1(a:List (TE×TE)):TE:=λσ H Q=>∀p,H p=none->lw a σ (upd H p (.dK [])) λps H2=>H2 p=some (.dK [])/\∃kvs:List (Gv×V),ps=kvs.map (λb=>(kV b.1,b.2))/\kvs.length<=15/\Q (.ref p) (upd H2 p (.dK (Jv [] kvs)))
theorem WB{X:Cx}{pos:Pos}{keys:List (Option Expr)}{values:List Expr}{b:List (TE×TE)}(h:PPs X pos keys values b)(f:keys.all (·.isSome)=true)(u:keys.length=values.length)(x:keys≠[])(i:keys.length<=15):PE X (.Dict keys values pos) (Z1 b):=by
 intro pZ s σ H Q I q;have hn:=I.hok.fresh (Bv s.heap.objs.size);have y:=I.laid (a:=s.heap.objs.size) (o:=.dK []) (h':=s.heap.push {cls:=.type "dict",data:=.dict #[]}) (t':=s.toks) (λ_ _ q=>Bb _ q) (Bv _) (jQ s.heap I.big);refine wpAny_Dict_walk (knd:=EZ X.prog X.w) f u x i (ES (h pZ _ σ _ _ y (q _ hn)) λws s2 d=>?_);obtain⟨ps,H2,j,rel,e,kvs,ep,lk,p⟩:=d;subst ep;obtain⟨l,c,m⟩:=YQ (P:=X.prog) (w:=X.w) rel;obtain⟨z,hd,k,n,dd⟩:=pC j.hok e;cases n;refine⟨l,c,dd,λh' g hs=>⟨.ref s.heap.objs.size,_,?_,rfl,p⟩⟩;have r: (Jv [] kvs).length<=sizeLine:=by
  have h1:=QD kvs [];rw[QL]at h1;rw[FE];omega
 have v:∃q,h'.get? s.heap.objs.size=some q:=let ⟨q,_,_,t,_⟩:=g;⟨q,t⟩;exact fZ j (by rw[e];exact Ef) hs v (vB r hd (m.merge .nil) g)
structure M1(X:Cx)(o:Expr)(m:Bx)(apos:Pos)(e:Expr)(cpos:Pos):Prop where
 base:Iy o m X.env (eval o X.env)=eval o X.env
 few: ((FL cpos (Cn [e] X.env)).all (λx=>!x.1) && (backToKw cpos (JY [] X.env)).all (λx=>x.1.isSome)
  &&decide (([e]:List Expr).length+ ([]:List Keyword).length+ (if ([]:List Keyword).isEmpty then 0 else 1) <30))=true
 line: (apos.endLine==cpos.line)=true
 trees:FL cpos (Cn [e] X.env)=[(false,eval e X.env)]
structure M2(X:Cx)(o:Expr)(m:Bx)(apos:Pos)(e f:Expr)(cpos:Pos):Prop where
 base:Iy o m X.env (eval o X.env)=eval o X.env
 few: ((FL cpos (Cn [e,f] X.env)).all (λx=>!x.1) && (backToKw cpos (JY [] X.env)).all (λx=>x.1.isSome)
  &&decide (([e,f]:List Expr).length+ ([]:List Keyword).length+ (if ([]:List Keyword).isEmpty then 0 else 1) <30))=true
 line: (apos.endLine==cpos.line)=true
 trees:FL cpos (Cn [e,f] X.env)=[(false,eval e X.env),(false,eval f X.env)]
def IsD(H:Hp)(a:Ba):Prop:=(∃kvs,Rd H a (.dK kvs))\/∃kvs,Rd H a (.dT kvs)
theorem S3{X:Cx}{pZ:List (Ba×Obj)}{σ:St}{H:Hp}{s:Bf}{a:Ba}(I:CL X pZ σ H s)(d:IsD H a):
  s.TypeIs (.ref a) "dict" /\(∀b,Value.ref a= .ref b->∃ob,s.heap.get? b=some ob/\ob.dict=none)/\(a==Ip)=false:=by
 rcases d with⟨kvs,e⟩|⟨kvs,e⟩
 ·obtain⟨_,hd,vs,_,dd⟩:=YN I.hok e;refine⟨dd.typeIs,λb q=>?_,hd⟩;cases q;obtain⟨ob,_,_,h1,h2,_⟩:=dd;exact⟨ob,h1,h2.2.1⟩
 ·obtain⟨_,hd,xs,_,dd⟩:=cz I.hok e;refine⟨dd.typeIs,λb q=>?_,hd⟩;cases q;obtain⟨ob,_,_,h1,h2,_⟩:=dd;exact⟨ob,h1,h2.2.1⟩
section
variable{X:Cx}{pZ:List (Ba×Obj)}{σ:St}{H:Hp}{s:Bf}{a:Ba}{y d:V}{u r:AY}{o:Option V}{A:Do}{E:AY->Bf->Prop}
theorem U1{Q:AY->Bf->Prop}(j:A.units+1<cLine)(I:CL X pZ σ H s)(g:Go H a y o)(i:DA y u)(rd:DA d r)(h:∀f s',CL X pZ σ H s'->DA (o.getD d) f->Q f s'):
  Cc (model X.prog X.w) A (call (.builtin "dict.get") [.ref a,u,r]) Q E s:=by
 rcases g with⟨kvs,k,e,c,l⟩|⟨kvs,k,b,e,c,m,l⟩
 ·subst c;obtain⟨z,hd,vs,rel,dd⟩:=YN I.hok e;refine call_meetsIn Rv dd.typeIs PySem.F.entry_dict_get (PySem.F.args_dict_get_3 _ _ _) (meets_dict_get_default (EZ X.prog X.w) a (cf i) hd r) ⟨_,dd.mapOf,h _ _ (I.tok _) ?_⟩;rw[l];exact(rel.val k).getD rd
 ·subst c;cases (show u=Value.ref b from i);obtain⟨z,hd,xs,rel,dd⟩:=cz I.hok e;refine call_meetsIn Rv dd.typeIs PySem.F.entry_dict_get (PySem.F.args_dict_get_3 _ _ _) (meetsH_dict_get_default (tupleKind (EZ X.prog X.w)) a b hd r) ⟨OP j,k,xs,YE I.hok m,dd,h _ _ (I.tok _) ?_⟩;rw[l];exact(rel.val k).getD rd
end
def M9(td ty tx:TE):TE:=λσ H Q=>td σ H λx H1=>∃a,x= .ref a/\IsD H1 a/\ty σ H1 λy H2=>tx σ H2 λz b=>∃o,Go b a y o/\Q (o.getD z) b
section
variable{X:Cx}{o e f:Expr}{apos cpos:Pos}{td ty tx:TE}
theorem ji(v:X.A.units+1<cLine)(w:PE X o td)(C:PE X e ty)(B:PE X f tx)(m:M2 X o "get" apos e f cpos):PE X (.Call (.Attribute o "get" apos) [e,f] [] cpos) (M9 td ty tx):=by
 intro pZ s σ H Q I h;refine wpAny_Call_method m.base m.few m.line PySem.F.plainAttrs_dict Rv PySem.F.type_dict_get (ES (w pZ s σ H _ I h) λu s1 b=>?_);obtain⟨x,H1,i,p,a,ex,d,t⟩:=b;subst ex;obtain rfl:u=Value.ref a:=p;obtain⟨k,j,_⟩:=S3 i d;refine⟨k,j,?_⟩;rw[m.trees];refine Calls.callWith_builtin rfl (YZ (JU (ES (C pZ s1 σ H1 _ i t) λiv s2 ⟨y,H2,G,n,r⟩=>
  JU (ES (B pZ s2 σ H2 _ G r) λfv L ⟨z,J,E,l,M,g,q⟩=>QN ?_))))
 exact U1 v E g n l λK s4 D c=>⟨_,J,D,c,q⟩
end
section
variable{X:Cx}
end
section
variable{X:Cx}{E:XK}
variable{cm:Bool}{k:Nat}{f C:Ba}{fd:Ek}{ps:List Bx}{sp:Sp}{m:Bx}{pos apos:Pos}{e o:Expr}{es:List Expr}{ta:TE}{t:TA}{pl:Sem Bool}
end
end L2
namespace L2
open PySem PySem.W PyProof PyProof.Rows
section
variable{X:Cx}
theorem qY{ns:List Int}{a:List AY}(h:IntsAre a ns):CQ (ns.map V.int) a:=by
 induction h with
 |nil=>exact .nil
 |cons n t h b=>exact .cons ⟨t,rfl⟩ b
theorem Md:IM X (.builtin "sorted") (λxs H Q=>∃(p:Ba) (ns:List Int),xs=[.ref p]/\Dk X.K H p (ns.map V.int)/\ns.length<64/\∀l,H l=none->Q (.ref l) (upd H l (.lst ((sortI ns).map V.int)))):=by
 intro pZ s σ H xs us Q I r h;obtain⟨p,ns,rfl,m,o,q⟩:=h;obtain⟨u,rfl,j⟩:=Ni r;cases j;obtain⟨b,d,pl,k⟩:=I.list m;have g:b.length=ns.length:=by rw[<-d.length,AV]
 refine sorted_ints pl.isList (YG d) (by omega) λa c x i v=>?_;obtain⟨e,n⟩:=sortedAll_at s.heap b a;have t:c=sortI ns:=eq_sortI i v;subst t;refine⟨.ref (s.heap.objs.size+1),_,I.laid (t':=s.toks) (λ_ _=>sortedAll_old) (EV _) (show DH X.prog X.w _ _ _ (.lst ((sortI ns).map V.int))from⟨?_,a.toList,e,qY x,by simpa using n⟩),rfl,q _ (I.hok.fresh (EV _))⟩;rw[AV,i.length_eq,<-AV (f:=V.int)];exact k
end
end L2
namespace L2
open PySem PySem.Spec PySem.W PyProof PyProof.Rows
def IA{κ:Type} [DecidableEq κ](val:Nat->κ):Nat->List κ
 |0=>[]
 |i+1=>if val i∈IA val i then IA val i else IA val i++[val i]
theorem WF{κ:Type} [DecidableEq κ](val:Nat->κ):∀i,(IA val i).length<=i
 |0=>Bv _
 |i+1=>by
  have:=WF val i;unfold IA;split
  ·omega
  ·rw[Bh];simp;omega
theorem YB{κ:Type} [DecidableEq κ](val:Nat->κ)(x:κ):∀i,x∈IA val i ↔ ∃j,j<i/\val j=x
 |0=>⟨(λh=>(by cases h)),(λf=>(by obtain⟨j,h,_⟩:=f;exact(by omega)))⟩
 |i+1=>by
  have l:=YB val x i;have g:=YB val (val i) i;unfold IA;split
  ·rename_i h;rw[l];refine⟨λd=>(by obtain⟨j,a,b⟩:=d;exact⟨j,by omega,b⟩),λc=>?_⟩;obtain⟨j,a,b⟩:=c;by_cases e:j=i
   ·subst e;obtain⟨k,k1,k2⟩:=g.mp h;exact⟨k,k1,k2.trans b⟩
   ·exact⟨j,by omega,b⟩
  ·rw[Cg,l];refine⟨λh=>?_,λ⟨j,a,b⟩=>?_⟩
   ·rcases h with⟨j,a,b⟩|h
    ·exact⟨j,by omega,b⟩
    ·exact⟨i,by omega,(Bu.mp h).symm⟩
   ·by_cases e:j=i
    ·subst e;exact .inr (Bu.mpr b.symm)
    ·exact .inl ⟨j,by omega,b⟩
theorem jA{κ:Type} [DecidableEq κ](val:Nat->κ):∀i,(IA val i).length=i ↔ ∀a b,a<b->b<i->val a≠val b
 |0=>⟨(λ_ a b _ h=>(by omega)),λ_=>rfl⟩
 |i+1=>by
  have d:=jA val i;have le:=WF val i;have mem:=YB val (val i) i;unfold IA;split
  ·rename_i h;refine⟨(λz=>(by omega)),λz=>?_⟩;obtain⟨j,a,b⟩:=mem.mp h;exact A38 b (z j i a (by omega))
  ·rename_i h;rw[Bh,List.length_singleton];refine⟨λz a b c f=>?_,λz=>?_⟩
   ·by_cases e:b=i
    ·subst e;exact λy=>h (mem.mpr ⟨a,c,y⟩)
    ·exact d.mp (by omega) a b c (by omega)
   ·have:=d.mpr λa b c f=>z a b c (by omega);omega
section
variable{prog:BG}{w:Cs}{A:Do}{R:Result->Bf->Prop}{I:Ba}{fp wr:List Ba}{G:Array GenState->Array GenState->Prop}{n:Nat}{P:Nat->AY->Prop}{St:Nat->Bf->Prop}{κ:Type} [DecidableEq κ]
theorem km{knd:Ku prog w κ}{h:CO}{a:Ba}{S b:κ->Bool}{n c:Nat}(d:h.SetOf knd a S n)(e:∀k,S k=b k)(f:n=c):h.SetOf knd a b c:=by
 cases (funext e:S=b);cases f;exact d
theorem A0m(knd:Ku prog w κ)(W:WalksS prog w A.in1 I fp wr G n P St)(S:Ba)(p:S∉fp)(val:Nat->κ)(j:∀i v,P i v->knd.is (val i) v=true/\v.scannable=true)(g:n+1<scanBound)(d:Nat):∀(i:Nat) (s:Bf),i+d=n->St i s->s.heap.SetOf knd S (λx=>decide (x∈IA val i)) (IA val i).length->(∀s',Moved (S::wr) G s s'->s'.heap.SetOf knd S (λx=>decide (x∈IA val n)) (IA val n).length->R (.ok (.ret .none)) s')->IN (model prog w) A (.builtin "set.update.loop" ⟨[.ref S,.ref I],[]⟩) R s:=by
 have u:S∉wr:=λh=>p (W.sub _ h);have keep:∀{s s':Bf} {T:κ->Bool} {m:Nat},Moved wr G s s'->s.heap.SetOf knd S T m->s'.heap.SetOf knd S T m:=λa l=>(by obtain⟨o,es,ep,t,J,r⟩:=l;exact⟨o,es,ep,t,a.heap S _ u J,r⟩);have wide:∀{s s':Bf},Moved wr G s s'->Moved (S::wr) G s s':=λa=>a.mono λb g=>CJ _ g;induction d with
 |zero=>
  intro i s hi f E q;cases (show i=n by omega);refine VG UW ?_;rw[Around.under_plainId IP _];refine Bg (m:=pyNext (.ref I)) (W.done s _ _ f λs' a=>?_);exact BQ (q s' (wide a) (keep a E))
 |succ d H=>
  intro i s hi f E q;refine VG UW ?_;rw[Around.under_plainId IP _];refine Bg (m:=pyNext (.ref I)) (W.item i s _ _ (by omega) f λv s' K k a=>?_);obtain⟨k1,k2⟩:=j i v K;refine Bg (m:=holding [v] (setAdd S v)) (El ?_);unfold setAdd;refine El (Bg (knd.pyHash k1 ?_));have room: (IA val i).length+1<scanBound:=by have:=WF val i;omega
  refine wpAny_setAddHashed_of (knd:=knd) (s:={s' with toks:=s'.toks+1}) k1 k2 (show s'.heap.SetOf knd S _ _ from keep a E) room λh' sb D=>?_;have C:h'.SetOf knd S (λx=>decide (x∈IA val (i+1))) (IA val (i+1)).length:=by
   refine km D (λx=>?_) ?_
   ·rw[show IA val (i+1)=if val i∈IA val i then IA val i else IA val i++[val i]from rfl]
    by_cases c:val i∈IA val i
    ·rw[A36 c];by_cases e:x=val i
     ·subst e;simp[c]
     ·simp[e]
    ·rw[A35 c];simp only[Cg,Bu,Bool.decide_or]
   ·rw[show IA val (i+1)=if val i∈IA val i then IA val i else IA val i++[val i]from rfl]
    by_cases c:val i∈IA val i
    ·simp[c]
    ·simp[c]
  refine BQ ⟨plainId_quiet IP _,H (i+1) _ (by omega) (W.frame _ s' _ _ k (EV _) λb g o e=>?_) C λs2 y B=>?_⟩
  ·rw[sb.2 b (λz=>p (by rw[<-z];exact g))];exact e
  ·refine q s2 (Moved.trans W.gtrans ((wide a).then_heap (EV _) λb o g e=>?_) y) B;rw[sb.2 b (λz=>g (by rw[z];exact Ds))];exact e
end
section
variable{prog:BG}{w:Cs}{A:Do}{E:AY->Bf->Prop}{s:Bf}{κ:Type} [DecidableEq κ]
def MF(led:Bool):Obj:={cls:=.type "set",dict:=none,data:=.set #[] 0 (.fresh 0 0 led)}
theorem ua(knd:Ku prog w κ){l:Ba}{items:Array AY}{led:Bool}(B:A.handled=none)(z:s.heap.IsList l items)(val:Nat->κ)(u:∀i v,items[i]?=some v->knd.is (val i) v=true/\v.scannable=true)(C:items.size+1<scanBound){R:Result->Bf->Prop}(h:∀(h':CO) (tk:Nat),h'.SetOf knd s.heap.objs.size (λx=>decide (x∈IA val items.size)) (IA val items.size).length->(∀b o,s.heap.get? b=some o->h'.get? b=some o)->R (.ok (.ret .none)) {s with heap:=h',toks:=tk}):
  Cc (model prog w) A (Builtin.«set.__init__» ⟨[.ref s.heap.objs.size,.ref l],[]⟩) (λf s'=>∃r,f= .done (.ret r)/\R (.ok (.ret r)) s') E {s with heap:=s.heap.push (MF led)}:=by
 obtain⟨o,g,hc,m,hd⟩:=z;have t: (s.heap.push (MF led)).get? s.heap.objs.size=some (MF led):=Ca _ rfl;have G:Shared.TypeIs {s with heap:=s.heap.push (MF led)} (.ref s.heap.objs.size) "set":=⟨_,t,rfl⟩;have a: (s.heap.push (MF led)).IsList l items:=⟨o,Bb _ g,hc,m,hd⟩;have D:Shared.TypeIs {s with heap:=s.heap.push (MF led)} (.ref l) "list":=⟨_,Bb _ g,hc⟩;have p:=F.sub_list_set;have q:=F.sub_list_frozenset;have y: (EB "list"==EB "dict")=false:=by decide
 unfold Builtin.«set.__init__» noKeywords Builtin.Frozenset.updateFrom;generalize k:pyIter=PI
 wp_walk
 subst k;refine QI a ?_;refine Bg (wpAny_runValue ?_);have lt:l<s.heap.objs.size:=BN g;have sz: (s.heap.push (MF led)).objs.size=s.heap.objs.size+1:=KY ..;refine A0m knd ((Walks.list (by simp[B]) _ l (by rw[sz];exact Ck (JL lt)) items).toS) s.heap.objs.size ?_ val u C items.size 0 _ (by omega) ⟨⟨_,Ca _ rfl,rfl,rfl⟩,a.push _⟩ ?_ λs' c j=>?_
 ·simp only[BK,Cq,or_false,not_or];exact⟨by rw[sz];exact Ck (GV _),LI lt⟩
 ·exact km ((setObjOf_fresh (knd:=knd) led).setOf (Bb _ t) (by unfold scanBound;omega)) (λ_=>rfl) rfl
 ·obtain⟨h',g',d',d,os'⟩:=s';cases (show g'=s.gens from c.gens);cases (show d'=s.drawn from c.drawn);cases (show os'=s.os from c.os);refine BQ (BQ ⟨_,rfl,h h' d j λb o e=>?_⟩);have n:=BN e;exact c.heap b o (by simp only[BK,Cq,or_false,not_or];exact⟨Ck n,by rw[sz];exact Ck (JL n)⟩) (Bb _ (Bb _ e))
theorem mN(knd:Ku prog w κ){l:Ba}{items:Array AY}{Q:AY->Bf->Prop}(q:A.handled=none)(p:s.heap.IsList l items)(val:Nat->κ)(m:∀i v,items[i]?=some v->knd.is (val i) v=true/\v.scannable=true)(z:items.size+1<scanBound)(h:∀(h':CO) (tk:Nat),h'.SetOf knd s.heap.objs.size (λx=>decide (x∈IA val items.size)) (IA val items.size).length->(∀b o,s.heap.get? b=some o->h'.get? b=some o)->Q (.ref s.heap.objs.size) {s with heap:=h',toks:=tk}):
  Cc (model prog w) A (call (.type "set") [.ref l]) Q E s:=by
 obtain⟨_,_,j⟩:=F.called_set.mro;have d:=F.called_set.made;have g:=F.called_set.sub;have h1:=F.called_set.notType;have h2:=F.called_set.canCreate;have u:=F.typeCall_set_1 (.ref l);have n:=F.called_set.init.lookup;have y:=F.called_set.init.bind (.ref s.heap.objs.size);refine Ho (codeAny_of_tree (BQ (a:=_) ⟨Code.quiet_builtin _ Ab,VG F.entry_type_call ?_⟩));rw[Around.under_plain (weight_type_call_type "set" [.ref l] []) rfl]
 repeat (any_goals (first|assumption|wp_step))
 refine GT (code_set_new_1 (.ref l) (E:=E) (Q₁:=λv t=>∃led:Bool,v= .ref s.heap.objs.size/\t={s with heap:=s.heap.push (MF led)}) λled=>⟨led,rfl,rfl⟩) λr t c=>?_
 match r,c with
 |.error e,c=>exact c
 |.ok (.ret v),c=>
  obtain⟨led,rfl,rfl⟩:=c;have B:Shared.TypeIs {s with heap:=s.heap.push (MF led)} (.ref s.heap.objs.size) "set":=⟨_,Ca _ rfl,rfl⟩
  repeat (any_goals (first|assumption|wp_step))
  refine GT (GU (R:=wants (λr t=>r= .none/\Q (.ref s.heap.objs.size) t) E) F.called_set.init.plain F.entry_set_init (check_set_init_1 B ?_)) λk C vk=>?_
  ·have fill:=ua (A:=A.in1.in1) (E:=E) (led:=led) knd (by simp[q]) p val m z (R:=wants (λr t=>r= .none/\Q (.ref s.heap.objs.size) t) E) λh' tk a b=>⟨rfl,h h' tk a b⟩;refine FK fill (λf t h=>?_) λe t h=>h;obtain⟨r,rfl,c⟩:=h;exact c
  ·match k,vk with
   |.error e,vk=>exact vk
   |.ok (.ret r),vk=>
    obtain⟨rfl,D⟩:=vk
    repeat (any_goals (first|assumption|wp_step))
end
section
variable{X:Cx}
def jS{κ:Type} [DecidableEq κ](d:κ)(ks:List κ):Nat:=(IA (λi=>ks.getD i d) ks.length).length
theorem zr{κ:Type} [DecidableEq κ](d:κ)(ks:List κ):jS d ks<=ks.length:=WF _ _
theorem jR{κ:Type} [DecidableEq κ](d:κ)(ks:List κ):jS d ks=ks.length ↔ ks.Nodup:=by
 unfold jS;rw[jA];have at_:∀{i:Nat} (hi:i<ks.length),ks.getD i d=ks[i]:=λ{i} hi=>by rw[BD,AW hi];rfl
 show _ ↔ ks.Pairwise (·≠ ·);rw[List.pairwise_iff_getElem];refine⟨λh i j hi f e=>?_,λh a b c g=>?_⟩
 ·rw[<-at_ hi,<-at_ f];exact h i j e f
 ·rw[at_ (LJ c g),at_ g];exact h a b _ _ c
def ya{κ:Type} [DecidableEq κ](K:Be)(mk:κ->V)(d:κ)(t:TE):TE:=λσ H Q=>t σ H λx H1=>∃(p:Ba) (ks:List κ),x= .ref p/\Dk K H1 p (ks.map mk)/\ks.length<=100/\Q (.int (jS d ks:Int)) H1
theorem bS{κ:Type} [DecidableEq κ]{mk:κ->V}(d:κ)(knd:Ku X.prog X.w κ)(O:∀k v,DA (mk k) v->knd.is k v=true/\v.scannable=true){e:Expr}{te:TE}{x y:Bx}{p1 p2 pos a:Pos}(hc:X.calm=true)(S:PE X e te)(P:Gl X x)(hm:X.mg x=none)(m:CP x=some (.builtin "len"))(A:Gl X y)(r:X.mg y=none)(l:CP y=some (.type "set"))(hn:x≠ "__name__":=by decide)(B: (x==("__debug__" :Bx))=false:=by decide)(n:y≠ "__name__":=by decide)(j: (y==("__debug__" :Bx))=false:=by decide)(hs:Cn [e] X.env=[(false,eval e X.env)]:=by rfl):
  PE X (.Call (.Name x p1) [.Call (.Name y p2) [e] [] a] [] pos) (ya X.K mk d te):=by
 intro pZ s σ H Q I h;refine DD (MP I P hm m ?_ hn B);refine Kk (e:=.Call (.Name y p2) [e] [] a) (rest:=[]) ?_;show Cc _ _ (spliced ((false,eval (.Call (.Name y p2) [e] [] a) X.env)::[])) _ _ s;refine JU ?_;refine DD (MP I A r l ?_ n j);refine FI (e:=e) (rest:=[]) ?_ (by rw[hs];rfl);rw[hs];show Cc _ _ (spliced ((false,eval e X.env)::[])) _ _ s;refine JU (ES (S pZ s σ H _ I h) λu s1 g=>?_);obtain⟨v,H1,D,J,p,ks,U,L,Y,q⟩:=g;refine QN ?_;subst U;cases J;obtain⟨c,E,pl,W⟩:=D.list L;have b:c.length=ks.length:=by rw[<-E.length,AV]
 have big: (102:Nat) <scanBound:=by decide
 refine mN knd (D.ok.hd hc) pl.isList (λi=>ks.getD i d) (λi v m=>?_) (by simp only[BY];omega) λh' tk T z=>?_
 ·have f:c[i]?=some v:=by simpa using m
  have hi:i<ks.length:=by rw[<-b];exact(Bi.mp f).1
  obtain⟨u,F,G⟩:=E.get (show(ks.map mk)[i]?=some (mk (ks.getD i d))by rw[Bj,BD,AW hi];rfl);rw[f]at F;cases F;exact O _ _ G
 obtain⟨o,es,ep,t,M,hex,hd,_,_,_,R,hsz⟩:=T;refine QN ?_;have C:es.size=jS d ks:=by
  rw[hsz];unfold jS;simp only[BY,b]
 have N:=zr d ks;refine call_len_set (s:={s1 with heap:=h',toks:=tk}) M hex hd R (by omega) ?_;exact⟨.int (jS d ks:Int),H1,D.kept (t':=tk+1+1) z,⟨tk+1,by rw[C]⟩,q⟩
theorem je{prog:BG}{w:Cs}(k:Int)(v:AY)(h:DA (.int k) v): (intKind prog w).is k v=true/\v.scannable=true:=by
 obtain⟨t,rfl⟩:=h;exact⟨intKind_is _ _ _ _,rfl⟩
theorem jd{prog:BG}{w:Cs}(k:Bx)(v:AY)(h:DA (.str k) v): (PySem.strKind prog w).is k v=true/\v.scannable=true:=by
 obtain⟨t,rfl⟩:=h;exact⟨strKind_is _ _ _ _,rfl⟩
end
section
variable{X:Cx}
theorem JB(hc:X.calm=true):IM X (.builtin "min") (λxs H Q=>∃(p:Ba) (ns:List Int),xs=[.ref p]/\Dk X.K H p (ns.map V.int)/\0<ns.length/\∀M,M∈ns->(∀a∈ns,M<=a)->Q (.int M) H):=by
 intro pZ s σ H xs us Q I r h;obtain⟨p,ns,rfl,l,c,q⟩:=h;obtain⟨u,rfl,f⟩:=Ni r;cases f;obtain⟨i,g,pl,o⟩:=I.list l;have hi:=YG g;have d:=pl.isList;obtain⟨ys,e⟩:=hi.allInts.items;have b:ns=ys.toList.map (·.1):=by rw[<-hi.numsOf,<-nums_intItems,<-e]
 have hsz:0<ys.size:=by
  have:=c;rw[b,AV,GN]at this;exact this
 rw[e]at d;refine min_intList (I.ok.hd hc) d hsz λv h' tk k m=>?_;obtain⟨t,rfl⟩:=intItems_at k;obtain⟨h1,h2⟩:=argBest_lt (numAt ys) (ys.size - 1);refine⟨.int _,H,I.kept (t':=tk) m,⟨t,rfl⟩,q _ ?_ λa ha=>?_⟩
 ·rw[b,numAt_eq];exact getD_mem (by rw[AV,GN];omega)
 ·rw[b]at ha;obtain⟨j,n,rfl⟩:=mem_getD ha;rw[AV,GN]at n;rw[<-numAt_eq];exact h2 j (by omega)
end
end L2
namespace L2
open PySem PySem.Spec PyProof.Rows
def mM(c:Ba)(q:Bx):HO:=.ext λh=>h.CodeRec (.ref c) q
def rf(f:Ba)(ob:Obj):HO:=.ext λh=>h.get? f=some ob
section
variable{P:BG}{w:Cs}{H:Hp}{h:CO}
theorem zt{c:Ba}{q:Bx}(x:h.CodeRec (.ref c) q):DH P w H h c (mM c q):=by
 refine⟨x,?_,?_⟩
 ·obtain⟨d,oc,vs,t,e,a,_⟩:=x;cases e;exact⟨_,a⟩
 ·rintro h1 h2 ⟨d,oc,vs,t,e,a,hd,b⟩ k;cases e;exact⟨_,oc,vs,t,rfl,k _ a,hd,b⟩
theorem pu{f:Ba}{ob:Obj}(x:h.get? f=some ob):DH P w H h f (rf f ob):=⟨x,⟨_,x⟩,λh1 h2 e k=>k _ e⟩
theorem vL{c:Ba}{q:Bx}(ok:JE P w H h)(e:H c=some (mM c q)):h.CodeRec (.ref c) q:=(show DH P w H h c (mM c q)from ok c _ e).1
theorem vo{f:Ba}{ob:Obj}(ok:JE P w H h)(e:H f=some (rf f ob)):h.get? f=some ob:=(show DH P w H h f (rf f ob)from ok f _ e).1
end
def Nq(H:Hp)(T:Ba)(pos:Pos)(q:Bx):Prop:=H T=some (.tbl #[])\/∃c,H T=some (.tbl #[MX pos.line,MX pos.col,.ref c])/\H c=some (mM c q)
def kn(T:Ba)(H H':Hp):Prop:=∀b o,b≠T->H b=some o->H' b=some o
section
variable{P:BG}{w:Cs}{H:Hp}{h h':CO}{T c f:Ba}{ps:Array AY}{oc of:HO}{fs:List Ba}
theorem L8(k:∀b o,b≠T->h.get? b=some o->h'.get? b=some o)(i:H T=some (.tbl #[]))(p:∃o,h'.get? T=some o)(hc:h.objs.size<=c)(m:h.objs.size<=f)(d:H c=none)(a:H f=none):
  Un fs [] H (upd (upd (upd H T (.tbl ps)) c oc) f of) h h':=by
 have j:∀b,H b=none->b≠T:=λb n e=>by rw[e,i]at n;cases n
 have new:∀b o,b≠T->H b=some o->upd (upd (upd H T (.tbl ps)) c oc) f of b=some o:=λb o n e=>by
  rw[Bo (Ce e a),Bo (Ce e d),Bo n];exact e
 have l:∀b o,H b=some o->(∀qs,o≠ .tbl qs)->b≠T:=λb o e n z=>by rw[z,i]at e;exact n _ (AR e).symm
 refine⟨λb o e n _ _=>k b o (j b n) e,λb o e n _ _=>⟨o.slots,k b o (j b n) e⟩,λb o e n _=>?_,λb o e _=>?_,λb xs e=>new b _ (l b _ e λ_ z=>by cases z) e,λb o u e=>new b _ (l b _ e λ_ z=>by cases z) e,λb qs e=>?_⟩
 ·have lt:=BN e;rw[Bo (Ck (Cz lt m)),Bo (Ck (Cz lt hc)),Bo (j b n)];exact n
 ·by_cases g:b=T
  ·rw[g];exact p
  ·exact⟨o,k b o g e⟩
 ·by_cases g:b=T
  ·subst g;rw[i]at e;cases e;refine⟨ps,?_⟩;rw[Bo (Ce i a),Bo (Ce i d),AX];simp
  ·exact⟨#[],by rw[new b _ g e];simp⟩
theorem ze(ok:JE P w H h)(p:∀b o,b≠T->h.get? b=some o->h'.get? b=some o)(s:H T=some (.tbl #[]))(t:h'.get? T=some {cls:=.none,data:=.fields ps})(k:H c=none)(j:H f=none)(r:c≠f)(g:∀H:Hp,DH P w H h' c oc)(d:∀H:Hp,DH P w H h' f of):JE P w (upd (upd (upd H T (.tbl ps)) c oc) f of) h':=λb o e=>by
 have new:∀b o,b≠T->H b=some o->upd (upd (upd H T (.tbl ps)) c oc) f of b=some o:=λb o n e=>by
  rw[Bo (Ce e j),Bo (Ce e k),Bo n];exact e
 have a:∀b o,H b=some o->(∀qs,o≠ .tbl qs)->b≠T:=λb o e n z=>by rw[z,s]at e;exact n _ (AR e).symm
 by_cases m:b=f
 ·subst m;rw[AX]at e;cases e;exact d _
 rw[Bo m]at e;by_cases hc:b=c
 ·subst hc;rw[AX]at e;cases e;exact g _
 rw[Bo hc]at e;by_cases l:b=T
 ·subst l;rw[AX]at e;cases e;exact t
 rw[Bo l]at e;refine(ok b o e).stay (λx u i q=>p x u ?_ q) (λx q=>new x _ (a x _ q λ_ z=>by cases z) q) λx xs q=>new x _ (a x _ q λ_ z=>by cases z) q;rcases i with rfl|i
 ·exact l
 ·exact a x _ i λ_ z=>by cases z
end
section
variable{X:Cx}{c T:Ba}{params:NE}{body:Expr}{scope:Scope}{pos:Pos}
def Y7(T:Ba)(pos:Pos)(q:Bx)(params:NE)(body:Expr)(scope:Scope)(pm:AY):TE:=λ_ H Q=>Nq H T pos q/\∀f a ctv H',H f=none->kn T H H'->Nq H' T pos q->H' a=some (mM a q)->H' f=some (rf f (Jm "<lambda>" q params body scope [] pm a ctv))->Q (.ref f) H'
theorem qH(u:defaultsOf params X.env=([],[]))(v:closureFor scope X.env=pure [])(f:X.env.code= .ref c)(C:Iu X.base c T)(R:X.base.BuiltinsAt X.mg T):
  PE X (.Lambda params body scope pos) (Y7 T pos (X.env.qual++ "<lambda>") params body scope ((X.mg "__name__").getD .none)):=by
 rintro pZ s σ H Q I ⟨O,q⟩;refine PySem.W.kla_eval u ?_;have E:s.heap.Ns AT X.mg:=I.ok.mod.glob.keeps I.bk;have K:Iu s.heap c T:=C.keeps I.bk;have J:s.heap.BuiltinsAt X.mg T:=let ⟨bm,o,h1,h2,h3,U,S,r⟩:=R;⟨bm,o,h1,h2,h3,U,I.bk _ _ S,r⟩;rcases O with i|⟨d,i,h⟩
 ·have x:s.heap.get? T=some (Mj #[]):=I.hok T _ i;have D:AT≠T:=λe=>by
   obtain⟨o,es,ep,G,hd,_⟩:=E;rw[e,x]at G;cases G;cases hd
  refine PySem.W.kla_makeFunction v I.ok.glob E f K x trivial rfl D J λd ctv h' tk M k m l A=>?_;have g:H d=none:=I.hok.fresh k;have p:s.heap.objs.size<=h'.objs.size:=BF k (Gp m);have a:H h'.objs.size=none:=I.hok.fresh p;have F:∀b o,b≠T->s.heap.get? b=some o->(h'.push (Jm "<lambda>" (X.env.qual++ "<lambda>") params body scope [] ((X.mg "__name__").getD .none) d ctv)).get? b=some o:=λb o n e=>Bb _ (M b o n e);have w:=Bb (Jm "<lambda>" (X.env.qual++ "<lambda>") params body scope [] ((X.mg "__name__").getD .none) d ctv) A;have j:d≠h'.objs.size:=Ck m;have y:T≠h'.objs.size:=Ce i a;have z:T≠d:=Ce i g;obtain⟨Y,oc,vs,t,V,B,hd,N⟩:=l;cases V;refine⟨.ref h'.objs.size,_,I.un (t':=tk) (L8 F i ⟨_,w⟩ k p g a) (ze I.hok F i w g a j (λ_=>zt (q:=X.env.qual++ "<lambda>") ⟨d,oc,vs,t,rfl,Bb _ B,hd,N⟩) (λ_=>pu (Ca _ rfl))),rfl,q _ d ctv _ a (λb o n e=>?_) (.inr ⟨d,?_,?_⟩) ?_ AX⟩
  ·rw[Bo (Ce e a),Bo (Ce e g),Bo n];exact e
  ·rw[Bo y,Bo z,AX];rfl
  ·rw[Bo j,AX]
  ·rw[Bo j,AX]
 ·have x:s.heap.get? T=some (Mj #[MX pos.line,MX pos.col,.ref d]):=I.hok T _ i;refine PySem.W.kla_makeFunctionHit (cv:=.ref d) v I.ok.glob E f K x trivial (by simp[codeAmong,MX]) J λctv h' tk P hsz=>?_;have a:H h'.objs.size=none:=I.hok.fresh hsz;have L:∀b o,s.heap.get? b=some o->(h'.push (Jm "<lambda>" (X.env.qual++ "<lambda>") params body scope [] ((X.mg "__name__").getD .none) d ctv)).get? b=some o:=λb o e=>Bb _ (P b o e);refine⟨.ref h'.objs.size,_,I.laid (t':=tk) L hsz (pu (Ca _ rfl)),rfl,q _ d ctv _ a (λb o n e=>?_) (.inr ⟨d,?_,?_⟩) ?_ AX⟩
  ·rw[Bo (Ce e a)];exact e
  ·rw[Bo (Ce i a)];exact i
  ·rw[Bo (Ce h a)];exact h
  ·rw[Bo (Ce h a)];exact h
end
theorem Paired.perm{g f:Type}{R:g->f->Prop}{m h:List f}(p:m.Perm h):∀{l:List g},Paired R l m->∃c,c.Perm l/\Paired R c h:=by
 induction p with
 |nil=>exact λ{l} r=>⟨l,.refl _,r⟩
 |cons x p o=>
  intro l r;cases r with
  |cons a t=>
   obtain⟨c,n,k⟩:=o t;exact⟨_::c,n.cons _,.cons a k⟩
 |swap x y t=>
  intro l r;cases r with
  |cons a r=>
   cases r with
   |cons b r=>exact⟨_::_::_,.swap ..,.cons b (.cons a r)⟩
 |trans p q e d=>
  intro l r;obtain⟨s,p1,j⟩:=e r;obtain⟨l2,p2,i⟩:=d j;exact⟨l2,p2.trans p1,i⟩
abbrev KP:Int×V->Int×AY->Prop:=λp q=>p.1=q.1/\DA p.2 q.2
theorem tI:∀(ks:List Int) {xs:List V} {vs:List AY},CQ xs vs->Paired KP (ks.zip xs) (ks.zip vs)
 |[],_,_,_=>.nil
 |_::_,_,_,.nil=>.nil
 |k::ks,_,_,.cons a r=>.cons ⟨rfl,a⟩ (tI ks r)
theorem oW:∀{qs:List (Int×V)} {ps:List (Int×AY)},Paired KP qs ps->CQ (qs.map Prod.snd) (ps.map Prod.snd)
 |_,_,.nil=>.nil
 |_,_,.cons a r=>.cons a.2 (oW r)
theorem ve:∀{qs:List (Int×V)} {ps:List (Int×AY)},Paired KP qs ps->qs.map Prod.fst=ps.map Prod.fst
 |_,_,.nil=>rfl
 |_,_,.cons a r=>by rw[BV,BV,a.1,ve r]
def TN(ks:List Int)(xs ys:List V):Prop:=∃qs:List (Int×V),qs.Perm (ks.zip xs)/\ys=qs.map Prod.snd/\qs.Pairwise λp q=>p.1<=q.1
theorem nN:∀{ks:List Int} {xs:List V},ks.length=xs.length->(ks.zip xs).map Prod.snd=xs
 |[],[],_=>rfl
 |k::ks,x::xs,h=>by rw[List.zip_cons_cons,BV,nN (HB h)]
theorem TN.perm{ks:List Int}{xs ys:List V}(h:TN ks xs ys)(a:ks.length=xs.length):ys.Perm xs:=by
 obtain⟨qs,p,rfl,_⟩:=h;have:=p.map Prod.snd;rw[nN a]at this;exact this
section
variable{X:Cx}{params:NE}{scope:Scope}{y fld q:Bx}{yp ap:Pos}{pm:AY}
abbrev V6(y fld:Bx)(yp ap:Pos):Expr:=.Attribute (.Name y yp) fld ap
structure A4(params:NE)(scope:Scope)(y fld q:Bx)(yp ap:Pos):Prop where
 bind:∀pm cd ctv v,bindArgs (PySem.W.kla_fn "<lambda>" q params (V6 y fld yp ap) scope [] pm cd ctv) ⟨[v],[]⟩=pure [(y,v)]
 co:scope.isCoroutine=false
 gen:scope.isGenerator=false
 kind:scope.kind= .function
 cell:∀x∈scope.names,x.2≠ .cell
 loc:scope.names.lookup y=some .local
 ab:∀env t,Iy (.Name y yp) fld env t=t
 nd: (y==("__debug__" :Bx))=false
theorem gc(G:A4 params scope y fld q yp ap)(M:X.A.depth<recursionLimit){pZ:List (Ba×Obj)}{σ:St}{H:Hp}{s:Bf}{Q:VK}{l f c:Ba}{xs:List V}{ks:List Int}{ctv:AY}(I:CL X pZ σ H s)(hl:H l=some (.lst xs))(b9:xs.length<64)(a2:ks.length=xs.length)(hx:∀(i:Nat) (v:V) (k:Int),xs[i]?=some v->ks[i]?=some k->∃a C dx fs,v= .ref a/\H a=some (.ins C dx fs)/\TZ X.K C/\HJ X.K C fld/\fs.lookup fld=some (.int k))(hf:H f=some (rf f (Jm "<lambda>" q params (V6 y fld yp ap) scope [] pm c ctv)))(hc:H c=some (mM c q))(h:∀D ys,H D=none->TN ks xs ys->Q (.ref D) (upd H D (.lst ys))):
  Cc (model X.prog X.w) X.A (call (.builtin "sorted") [.ref l] [(Str.ofString "key",.ref f)]) (EP X pZ σ Q) X.xe s:=by
 obtain⟨m,hn,_⟩:=id I.loc;obtain⟨b1,r,pl,hz⟩:=I.list (Dk.of hl);have j:=r.length;have J:∀{b:Ba} {o:HO},H b=some o->b≠X.env.locals:=λe=>Ce e I.free;have R:∀b o,X.base.get? b=some o->b≠X.env.locals:=λb o e=>Ck (Cz (BN e) (BF I.ok.bsz I.ok.above));have N:∀h':CO,(∀b o,b≠X.env.locals->s.heap.get? b=some o->h'.get? b=some o)->JE X.prog X.w H h':=λh' F b u e=>
  (I.hok b u e).stay (λx v d z=>F x v (by
   rcases d with rfl|d
   ·exact J e
   ·exact J d) z) (λ_ z=>z) λ_ _ z=>z
 refine PyProof.Rows.ksk_sorted (b:=false) (f:=.ref f) (m:=m) (L:=X.env.locals) (h₀:=Att.noObjs s.heap) (news:=Att.ledger s.heap X.env.locals X.env.locals) (vs:=b1) (kz:=ks) (Att.fr_all hn) (λp hp=>⟨(Att.mem_ledger.mp (show(p.1,p.2)∈_ from hp)).2.2,(Att.mem_ledger.mp (show(p.1,p.2)∈_ from hp)).1,Att.noObjs_get _ _⟩) pl.isList (by rw[a2,j]) (by rw[<-j];exact b9)
  (ksk_s1 _ _) (λx=>ksk_l1 _ _) (λx=>ksk_t1 _ _) (λi v k hv hk h1 tk own F1 N1=>?_) λD h1 tk P n F1 N1 b5 a0=>?_
 ·have F:∀b o,b≠X.env.locals->s.heap.get? b=some o->h1.get? b=some o:=λb o n e=>(N1 (b,o) (CF _ (Att.mem_ledger.mpr ⟨n,n,e⟩))).1;have B:=N h1 F;have U:X.K.In h1:=I.ok.mod.kin.keeps λb o e=>F b o (R b o e) (I.bk b o e);have S:h1.NoLimit:=I.ok.mod.nolimit.keeps λb o e=>F b o (R b o e) (I.bk b o e);have hi:i<xs.length:=by rw[j];exact(Bi.mp hv).1
  obtain⟨x,Y⟩:∃x,xs[i]?=some x:=⟨_,AW hi⟩;obtain⟨u0,Z,rx⟩:=r.get Y;rw[hv]at Z;cases Z;obtain⟨a,C,dx,fs,rfl,ha,cC,nA,b6⟩:=hx i x k Y hk;obtain rfl:v=Value.ref a:=rx;refine Ho (PySem.W.kla_callFunE M (vo B hf) rfl G.co G.gen rfl (vL B hc) ?_);rw[G.bind];refine BQ (wpAny_newFunctionEnv G.cell (λz hz=>?_) (λh2 b3 b2=>?_) G.kind)
  ·rw[Bu.mp hz];exact G.loc
  ·have E:∀b o,h1.get? b=some o->h2.get? b=some o:=λb o e=>b2.extBut b o (Ck (BN e)) (Bb _ e);refine⟨S.keeps E,PySem.W.kla_codeExpr (gh (G.ab _ _) (wpAny_Name (wpAny_loadName_local G.kind G.loc b3 (show _=some (Value.ref a)by simp[EY]) ?_) G.nd))⟩;obtain⟨mA,O,rO,_,_,_⟩:=Pm (B.kept E) ha;obtain⟨u,hu,ru⟩:=La.some_of (v:=.int k) (o:=mA fld) (by rw[<-b6];exact rO fld);obtain⟨t,rfl⟩:=(show ∃t,u=HK k t from ru);exact pk (U.keeps E) O (cC.get fld) cC.hd nA hu rfl ⟨h2,_,t,rfl,rfl,F1.kept E,N1.grown E⟩
 ·have F:∀b o,b≠X.env.locals->s.heap.get? b=some o->h1.get? b=some o:=λb o n e=>(N1 (b,o) (.tail _ (Att.mem_ledger.mpr ⟨n,n,e⟩))).1;have hD:=N1 (D,Kt "list" P n) (.head _);have a6:s.heap.get? D=none:=by
   cases e:s.heap.get? D with
   |none=>rfl
   |some o=>exact A38 (b5 (D,o) (Att.mem_ledger.mpr ⟨hD.2.1,hD.2.1,e⟩)) (Ev _)
  have g:H D=none:=by
   cases e:H D with
   |none=>rfl
   |some u=>
    obtain⟨o,z⟩:=(I.hok D u e).some_of;rw[a6]at z;cases z
  obtain⟨ps,pp,po,b0⟩:=a0;obtain⟨qs,pq,rq⟩:=Paired.perm pp.symm (tI ks r);have vq:=oW rq;have a9:qs.Pairwise λp q=>p.1<=q.1:=by
   have z: (ps.map Prod.fst).Pairwise (·<= ·):=JM.mpr (b0.imp λh=>by simpa using h);rw[<-ve rq]at z;exact JM.mp z
  have T: (qs.map Prod.snd).length=xs.length:=by
   rw[AV,pq.length_eq,List.length_zip,a2,Nat.min_self]
  refine⟨.ref D,upd H D (.lst (qs.map Prod.snd)),?_,rfl,h D _ g ⟨qs,pq,rfl,a9⟩⟩;refine I.step (g':=s.gens) (d':=s.drawn) (t':=tk) (ch:=[]) (λ_ z=>nomatch z) (λb o nl _ _ e _=>F b o nl e) (λb o nl _ _ e _=>⟨o.slots,F b o nl e⟩) (λb o _ e nb=>?_) (λb o _ e=>?_) (λb ys e=>by rw[Bo (Ce e g)];exact e) (λb o u e=>by rw[Bo (Ce e g)];exact e) (λb ps e=>⟨#[],by rw[Bo (Ce e g),e];simp⟩) (λm' b4=>?_) (λb u e=>?_) I.bare
  ·rw[Bo λz=>by rw[z,a6]at e;cases e];exact nb
  ·by_cases hb:b=X.env.locals
   ·obtain⟨o',_,_,e',_⟩:=F1.ns;exact⟨o',by rw[hb];exact e'⟩
   ·exact⟨o,F b o hb e⟩
  ·obtain⟨o,es,ep,ho,hd,hk,b7⟩:=hn;obtain⟨o',e1,e2,a1,a4,d9,a3⟩:=b4;rw[ho]at a1;cases a1;rw[hd]at a4;cases a4;have:m'=m:=funext λx=>(a3 x).symm.trans (b7 x);rw[this];exact F1.ns
  ·by_cases hb:b=D
   ·subst hb;rw[AX]at e;cases e;refine⟨by rw[T,FE];omega,P.toList,n,?_,?_⟩
    ·rw[po];exact vq
    ·have:=hD.1;simpa [Kt]using this
   ·rw[Bo hb]at e;refine(I.hok b u e).stay (λx v d z=>F x v ?_ z) (λx z=>by rw[Bo (Ce z g)];exact z) λx ys z=>by rw[Bo (Ce z g)];exact z
    rcases d with rfl|d
    ·exact J e
    ·exact J d
theorem Nq.tbl{H:Hp}{T:Ba}{pos:Pos}{q:Bx}(h:Nq H T pos q):∃ps,H T=some (.tbl ps):=by
 rcases h with h|⟨c,h,_⟩
 ·exact⟨_,h⟩
 ·exact⟨_,h⟩
theorem Nq.ne{H:Hp}{T:Ba}{pos:Pos}{q:Bx}(h:Nq H T pos q){b:Ba}{o:HO}(e:H b=some o)(n:∀ps,o≠ .tbl ps):b≠T:=λz=>by
 obtain⟨ps,h⟩:=h.tbl;rw[z,h]at e;exact n ps (AR e).symm
noncomputable def M5(K:Be)(T:Ba)(b:Pos)(q fld:Bx)(te:TE):TE:=λσ H Q=>te σ H λx H1=>Nq H1 T b q/\∃l xs ks,x= .ref l/\H1 l=some (.lst xs)/\xs.length<64/\ks.length=xs.length/\(∀(i:Nat) (v:V) (k:Int),xs[i]?=some v->ks[i]?=some k->∃a C dx fs,v= .ref a/\H1 a=some (.ins C dx fs)/\TZ K C/\HJ K C fld/\fs.lookup fld=some (.int k))/\∀D ys c,H1 D=none->kn T H1 c->Nq c T b q->c D=some (.lst ys)->TN ks xs ys->Q (.ref D) c
theorem lT{e:Expr}{te:TE}{T c:Ba}{p pos d kpos:Pos}(he:PE X e te)(hg:Gl X "sorted")(hm:X.mg "sorted"=none)(J:defaultsOf params X.env=([],[]))(U:closureFor scope X.env=pure [])(B:X.env.code= .ref c)(C:Iu X.base c T)(hB:X.base.BuiltinsAt X.mg T)(hL:A4 params scope y fld (X.env.qual++ "<lambda>") yp ap)(w:X.A.depth<recursionLimit)(G:Cn [e] X.env=[(false,eval e X.env)]:=by rfl):
  PE X (.Call (.Name "sorted" p) [e] [⟨some "key",.Lambda params (V6 y fld yp ap) scope d,kpos⟩] pos) (M5 X.K T d (X.env.qual++ "<lambda>") fld te):=by
 intro pZ s σ H Q I h;refine DD (MP I hg hm (show CP "sorted"=some (.builtin "sorted")by decide+kernel) ?_);have j:FL pos (Cn [e] X.env)=(false,eval e X.env)::FL pos (Cn [] X.env):=by rw[G];rfl
 refine PyProof.Rows.callWith_kw (e:=e) (rest:=[]) ?_ j (by rw[j];rfl);have a9:PA X [e] (nS te qv):=AS he AZ G;refine ES (a9 pos pZ s σ H (λvs H1=>match vs with
  |[x]=>Nq H1 T d (X.env.qual++ "<lambda>")/\∃l xs ks,x= .ref l/\H1 l=some (.lst xs)/\xs.length<64/\ks.length=xs.length/\(∀(i:Nat) (v:V) (k:Int),xs[i]?=some v->ks[i]?=some k->∃a C dx fs,v= .ref a/\H1 a=some (.ins C dx fs)/\TZ X.K C/\HJ X.K C fld/\fs.lookup fld=some (.int k))/\∀D ys M,H1 D=none->kn T H1 M->Nq M T d (X.env.qual++ "<lambda>")->M D=some (.lst ys)->TN ks xs ys->Q (.ref D) M
  |_=>False) I h) λus s1 ⟨vs,H1,I1,O,R⟩=>?_
 match vs,R,O with
 |[x],R,O=>
  obtain⟨u,rfl,rx⟩:=Ni O;obtain⟨m,l,xs,ks,rfl,hl,Z,S,hx,q⟩:=R;cases (show u=Value.ref l from rx);have a8:PK X [⟨some "key",.Lambda params (V6 y fld yp ap) scope d,kpos⟩] (nS (Y7 T d (X.env.qual++ "<lambda>") params (V6 y fld yp ap) scope ((X.mg "__name__").getD .none)) qv):=yw (qH J U B C hB) O6;refine ES (a8 pos pZ s1 σ H1 (λzs H2=>match zs with
   |[.ref f]=>∃E ctv,H1 f=none/\kn T H1 H2/\Nq H2 T d (X.env.qual++ "<lambda>")/\H2 E=some (mM E (X.env.qual++ "<lambda>"))/\H2 f=some (rf f (Jm "<lambda>" (X.env.qual++ "<lambda>") params (V6 y fld yp ap) scope [] ((X.mg "__name__").getD .none) E ctv))
   |_=>False) I1 ⟨m,λf E ctv H' a1 F g a4 a5=>⟨E,ctv,a1,F,g,a4,a5⟩⟩) λws s2 ⟨zs,H2,I2,N,P⟩=>?_
  match zs,P,N with
  |[.ref f],P,N=>
   obtain⟨u,rfl,ru⟩:=Ni N;cases (show u=Value.ref f from ru);obtain⟨E,ctv,a1,F,g,a4,a5⟩:=P;have kp:∀{b:Ba} {o:HO},H1 b=some o->(∀ps,o≠ .tbl ps)->H2 b=some o:=λe n=>F _ _ (m.ne e n) e;refine gc (ks:=ks) hL w I2 (kp hl λ_ z=>by cases z) Z S (λi v k h1 h2=>?_) a5 a4 λD ys t ho=>?_
   ·obtain⟨a,C,dx,fs,e1,e2,r⟩:=hx i v k h1 h2;exact⟨a,C,dx,fs,e1,kp e2 (λ_ z=>by cases z),r⟩
   ·have Y:H1 D=none:=by
     cases z:H1 D with
     |none=>rfl
     |some o=>
      by_cases L:D=T
      ·obtain⟨ps,ht⟩:=g.tbl;rw[L,ht]at t;cases t
      ·rw[F _ _ L z]at t;cases t
    refine q D ys _ Y (λb o n eb=>?_) ?_ AX ho
    ·rw[Bo (Ce (F b o n eb) t)];exact F b o n eb
    ·rcases g with g|⟨c2,g,a6⟩
     ·exact .inl (by rw[Bo (Ce g t)];exact g)
     ·exact .inr ⟨c2,by rw[Bo (Ce g t)];exact g,by rw[Bo (Ce a6 t)];exact a6⟩
end
end L2
namespace L2
open PySem PySem.W PyProof PyProof.Rows
def JX{c:Type}(N:Nat)(R:c->Prop):KasT c->Prop
 |.ret a=>R a
 |.ask i j k=>i<N/\j<N/\∀b,JX N R (k b)
theorem Ks{c d:Type}{N:Nat}{R:c->Prop}{S:d->Prop}{f:c->KasT d}(h:∀a,R a->JX N S (f a)):∀(t:KasT c),JX N R t->JX N S (t.bind f)
 |.ret a,x=>h a x
 |.ask _ _ k,⟨x,y,z⟩=>⟨x,y,λb=>Ks h (k b) (z b)⟩
theorem pA{c:Type}{N:Nat}{R:c->Prop}{cmp:Nat->Nat->(Bool->Bf->Prop)->Bf->Prop}{Q:c->Bf->Prop}{s:Bf}(hc:∀i j C,i<N->j<N->(∀b,C b s)->cmp i j C s)(d:∀a,R a->Q a s):∀(t:KasT c),JX N R t->t.kasWp cmp Q s
 |.ret a,x=>d a x
 |.ask i j k,⟨x,y,z⟩=>hc i j _ x y λb=>pA hc d (k b) (z b)
def TU(N:Nat)(p:Array Nat):Prop:=p.toList.Perm (Bz N)
theorem TU.get{N:Nat}{p:Array Nat}(h:TU N p)(a:0<N)(i:Nat):p.getD i 0<N:=by
 by_cases hi:i<p.size
 ·have e:p.getD i 0=p[i]:=by simp[Array.getD,hi]
  rw[e];have:p[i]∈p.toList:=Array.getElem_mem_toList hi;exact DJ.mp (h.mem_iff.mp this)
 ·have e:p.getD i 0=0:=by simp[Array.getD,hi]
  rw[e];exact a
theorem TU.rev{N:Nat}{p:Array Nat}(h:TU N p)(i j:Nat):TU N (kas_rev p i j):=(Array.perm_iff_toList_perm.mp (mirror_perm _ _ _ _)).trans h
theorem TU.bub{N:Nat}{p:Array Nat}(h:TU N p)(i j:Nat):TU N (bubble p i j):=(Array.perm_iff_toList_perm.mp (bubble_perm _ _ _)).trans h
section
variable{N:Nat}{p:Array Nat}
theorem Jg{a:Type}{R:a->Prop}{c:Prop} [Decidable c]{t u:KasT a}(h1:c->JX N R t)(h2:¬c->JX N R u):JX N R (if c then t else u):=by
 by_cases h:c
 ·rw[A36 h];exact h1 h
 ·rw[A35 h];exact h2 h
theorem YJ(h:TU N p)(a:0<N):∀(f n:Nat),JX N (λ_=>True) (kas_asc p f n)
 |0,_=>trivial
 |f+1,n=>⟨h.get a _,h.get a _,λb=>Jg (λ_=>trivial) λ_=>YJ h a f (n+1)⟩
theorem Pn(a:0<N):∀(f:Nat) (p:Array Nat) (n q:Nat),TU N p->JX N (λr=>TU N r.1) (kas_desc f p n q)
 |0,_,_,_,h=>h
 |f+1,p,n,q,h=>⟨h.get a _,h.get a _,λb=>Jg (λ_=>Jg (λ_=>Pn a f _ _ _ (h.rev _ _)) λ_=>Pn a f _ _ _ h)
   λ_=>⟨h.get a _,h.get a _,λd=>Jg (λ_=>h) λ_=>Pn a f _ _ _ h⟩⟩
theorem YI(h:TU N p)(a:0<N)(n r:Nat):JX N (λr=>TU N r.2) (kas_tail3 n r p):=by
 unfold kas_tail3;refine Ks (R:=λ_=>True) (λm _=>?_) _ (YJ (h.rev _ _) a _ _);exact h.rev _ _
theorem QE(h:TU N p)(b:0<N)(n r:Nat):JX N (λr=>TU N r.2) (kas_descPart n r p):=by
 unfold kas_descPart;refine Ks (R:=λr:Array Nat×Nat×Nat=>TU N r.1) (λa ha=>?_) _ (Pn b _ _ _ _ h);exact Jg (λ_=>YI (ha.rev _ _) b _ _) λ_=>YI ha b _ _
theorem mG(h:TU N p)(a:0<N)(r:Nat):JX N (λr=>TU N r.2) (kas_count r p):=by
 unfold kas_count;refine Ks (R:=λ_=>True) (λn _=>?_) _ (YJ h a _ _);exact Jg (λ_=>show TU N p from h) λ_=>Jg (λ_=>⟨h.get a _,h.get a _,λc=>Jg (λ_=>show TU N p from h) λ_=>QE (h.rev _ _) a _ _⟩) λ_=>QE h a _ _
theorem Ro(h:TU N p)(a:0<N)(k:Nat):∀(f l r:Nat),JX N (λ_=>True) (kas_place p k f l r)
 |0,_,_=>trivial
 |f+1,l,r=>Jg (λ_=>trivial) λ_=>⟨h.get a _,h.get a _,λc=>Jg (λ_=>Ro h a k f _ _) λ_=>Ro h a k f _ _⟩
theorem jK(a:0<N):∀(f:Nat) (p:Array Nat) (k:Nat),TU N p->JX N (TU N) (kas_bin f p k)
 |0,_,_,h=>h
 |f+1,p,k,h=>Ks (λ_ _=>jK a f _ _ (h.bub _ _)) _ (Ro h a _ _ _ _)
theorem rj(b:0<N):JX N (TU N) (kas_sort N):=by
 unfold kas_sort;refine Ks (R:=λr:Nat×Array Nat=>TU N r.2) (λa ha=>?_) _ (mG (show TU N (List.toArray (Bz N))from Mm _) b _);exact Jg (λ_=>jK b _ _ _ ha) λ_=>show TU N a.2 from ha
end
section
variable{prog:BG}{w:Cs}{A:Do}{E:AY->Bf->Prop}{s:Bf}
theorem lA{l:Ba}{vs:List AY}{Q:AY->Bf->Prop}(g:s.heap.IsList l vs.toArray)(h2:vs.length<2)(h:Q (.ref (s.heap.objs.size+1)) {s with heap:=sortedAll s.heap vs vs.toArray}):Cc (model prog w) A (call (.builtin "sorted") [.ref l]) Q E s:=by
 refine Calls.call_function_entry kind_sorted plain_sorted entry_sorted (args_sorted1 _) ?_;unfold Builtin.«sorted»;refine Bg (m:=checkCount "sorted" 1 1 _) (BQ ?_);refine Bg (collect_list g ?_ (by rw[FE];omega));refine Bg (wpAny_newList ?_ (by rw[FE];omega));have hsz: ((s.heap.push (Kt "list" #[] 0)).update s.heap.objs.size (FM (·++vs.toArray))).objs.size=s.heap.objs.size+1:=by
  rw[Heap.size_update,size_push']
 have a: (((s.heap.push (Kt "list" #[] 0)).update s.heap.objs.size (FM (·++vs.toArray))).push (Kt "list" vs.toArray 0)).get? (s.heap.objs.size+1)=some (Kt "list" vs.toArray 0):=by
  rw[<-hsz];exact Ca _ rfl
 show Cc _ _ _ _ _ {s with heap:=((s.heap.push (Kt "list" #[] 0)).update s.heap.objs.size (FM (·++vs.toArray))).push (Kt "list" vs.toArray 0)};rw[hsz];refine Bg (El (wpAny_call_entry slot_list_sort ⟨_,a,rfl⟩ entry_list_sort ?body (args_list_sort _)))
 case body=>
  generalize i: ((s.heap.push (Kt "list" #[] 0)).update s.heap.objs.size (FM (·++vs.toArray))).push (Kt "list" vs.toArray 0)=h1 at a ⊢;have ha:=BN a;rw[list_sort_plain];refine Bg (listItems_at a rfl ?_);refine Bg (listUpdate_at a rfl ?_ (by rw[BY,FE];omega) (CH _));obtain⟨e,c⟩:∃e,(h1.update (s.heap.objs.size+1) (FM λ_=>(#[]:Array AY))).get? (s.heap.objs.size+1)=some (Kt "list" #[] e):=⟨_,get?_update_seq a λ_=>#[]⟩;refine Bg (seqEpoch_at c rfl ?_);refine Bg (wpAny_newTuple ?_ (by show vs.length<=_;rw[FE];omega));refine Bg (wpAny_newList ?_ (CH _));refine El ?_;have b: (((h1.update (s.heap.objs.size+1) (FM λ_=>(#[]:Array AY))).push (Kt "tuple" vs.toArray 0)).push (Kt "list" #[] 0)).get? (s.heap.objs.size+1)=some (Kt "list" #[] e):=by
   rw[Heap.get?_push_ne _ _ _ (by rw[size_push',Heap.size_update];exact Ck (JL ha)),Heap.get?_push_ne _ _ _ (by rw[Heap.size_update];exact Ck ha)];exact c
  show Cc (model prog w) _ _ _ _ {s with heap:=((h1.update (s.heap.objs.size+1) (FM λ_=>(#[]:Array AY))).push (Kt "tuple" vs.toArray 0)).push (Kt "list" #[] 0)}
  dsimp only
  have d:vs.toArray.size<2:=by rw[BY];exact h2
  rw[A36 d,A36 d];refine Bg (BQ ?_);rw[StateT.run_pure];refine Bg (BQ ?_)
  dsimp only
  have em: (vs.toArray.zip vs.toArray).map (·.2)=vs.toArray:=by
   apply Array.toList_inj.mp;rw[Array.toList_map,Array.toList_zip];exact List.map_snd_zip (Bv _)
  refine Bg (seqEpoch_at b rfl ?_);refine Bg (listUpdate_at b rfl ?_ (CH _) (by show Array.size (Array.map (·.2) (vs.toArray.zip vs.toArray))<=_;rw[em,BY,FE];omega));simp only[bne_self_eq_false,Bool.false_eq_true,if_false];refine BQ ⟨_,rfl,BQ ⟨_,rfl,?_⟩⟩;unfold sortedAll sortedHeap at h;rw[i]at h;have j:∀x:Array AY,x=vs.toArray->Q (.ref (s.heap.objs.size+1)) {s with heap:=(((h1.update (s.heap.objs.size+1) (FM λ_=>(#[]:Array AY))).push (Kt "tuple" vs.toArray 0)).push (Kt "list" #[] 0)).update (s.heap.objs.size+1) (FM λ_=>x)}:=λx f=>by rw[f];exact h
  exact j _ em
def TR(h:CO)(vs:List AY):Prop:=∀v∈vs,∃(a:Ba) (o:Obj) (i j:Int) (t u:Tok) (n:Nat),v= .ref a/\h.get? a=some o/\o.cls= .type "tuple" /\o.data= .seq #[.int i t,.int j u] n
theorem yA{Q:Bool->Bf->Prop}{v u:AY}{vs:List AY}(e:TR s.heap vs)(m:v∈vs)(p:u∈vs)(h:∀b,Q b s):Cc (model prog w) A (keyLt' (tuples' true) v u) Q E s:=by
 obtain⟨a,o,i,j,g,f,n,rfl,r,_,x⟩:=e _ m;obtain⟨b,o',l,k,d,c,y,rfl,q,_,t⟩:=e _ p;refine kat_lt r x q t ?_;show KatLex prog w A true _ Q [(.int i g,.int l d),(.int j f,.int k c)] 0 s;refine kat_cons (wpAny_eqBool_int (kat_go (λ_=>kat_yes ?_) λ_=>kat_no ?_))
 ·refine kat_cons (wpAny_eqBool_int (kat_go (λ_=>kat_yes (kat_nil (h _))) λ_=>kat_no ?_));show Cc _ _ (oneLt' false _ _) _ _ _;exact kat_one _ _ (PyProof.Rows.lt_int (h _))
 ·show Cc _ _ (oneLt' true _ _) _ _ _;exact oneLt_int (h _)
def vw(h:CO)(vs:List AY)(fs:List AY):Prop:=KatTups h vs fs/\∀v∈fs,∃i t,v=HK i t
theorem cs{h:CO}:∀(vs:List AY),TR h vs->∃fs,fs.length=vs.length/\vw h vs fs
 |[],_=>⟨[],rfl,KatTups.nil,λ_ z=>nomatch z⟩
 |v::vs,d=>by
  obtain⟨fs,e,f,g⟩:=cs vs λv b=>d v (.tail _ b);obtain⟨a,o,i,j,c,p,n,rfl,k,m,l⟩:=d v (.head _);exact⟨.int i c::fs,by simp[e],KatTups.cons k m l rfl f,λv b=>by
   rcases BK.mp b with rfl|b
   ·exact⟨i,c,rfl⟩
   ·exact g v b⟩
theorem lU{M:Model}{Q:SortKind->Bf->Prop}{vs:List AY}(b:TR s.heap vs)(f:0<vs.length)(h:Q (tuples' true) s):Cc M A (keyKind' vs.toArray) Q E s:=by
 obtain⟨fs,e,c,d⟩:=cs vs b;refine kat_kind (T:=.type "int") c (by omega) (λv a=>?_) rfl h;obtain⟨i,t,rfl⟩:=d v a;exact Looks.of_pure rfl
end
theorem uF{vs:List AY}{p:Array Nat}(h:TU vs.length p): (p.toList.map λi=>vs.getD i CM).Perm vs:=by
 have e: (Bz vs.length).map (λi=>vs.getD i CM)=vs:=by
  apply List.ext_getElem
  ·simp
  ·intro i h1 h2;simp[h2]
 have:=List.Perm.map (λi=>vs.getD i CM) (show p.toList.Perm (Bz vs.length)from h);rw[e]at this;exact this
section
variable{X:Cx}
theorem TF:IM X (.builtin "sorted") (λxs H Q=>∃(l:Ba) (ts:List Ba),xs=[.ref l]/\H l=some (.lst (ts.map V.ref))/\(∀t∈ts,∃i j,H t=some (.tup [.int i,.int j]))/\ts.length<64/\∀(D:Ba) (f:List Ba),H D=none->f.Perm ts->Q (.ref D) (upd H D (.lst (f.map V.ref)))):=by
 intro pZ s σ H xs us Q I r h;obtain⟨l,ts,rfl,hl,G,a8,q⟩:=h;obtain⟨u,rfl,rx⟩:=Ni r;cases (show u=Value.ref l from rx);obtain⟨m,hn,_⟩:=id I.loc;obtain⟨d,r,pl,hz⟩:=I.list (Dk.of hl);have Z:d=ts.map Value.ref:=iA r;have M:ts.length=d.length:=by rw[Z,AV]
 have J:TR s.heap d:=λv K=>by
  rw[Z]at K;obtain⟨t,ht,rfl⟩:=Bm.mp K;obtain⟨i,j,B⟩:=G t ht;obtain⟨_,vs,a2,o,e,hc,n,hd⟩:=I.hok t _ B
  match vs,a2,hd with
  |[a,b],.cons ⟨t1,e1⟩ (.cons ⟨t2,e2⟩ .nil),hd=>
   subst e1 e2;exact⟨t,o,_,_,t1,t2,n,rfl,e,hc,hd⟩
 by_cases h2:d.length<2
 ·obtain⟨e,he⟩:=sortedAll_at s.heap d d.toArray;refine lA pl.isList h2 ⟨.ref (s.heap.objs.size+1),_,I.laid (t':=s.toks) (λ_ _=>sortedAll_old) (EV _) (show DH X.prog X.w _ _ _ (.lst (ts.map V.ref))from⟨hz,d,e,r,by simpa using he⟩),rfl,q _ ts (I.hok.fresh (EV _)) (Mm _)⟩
 ·have E:∀{b:Ba} {o:HO},H b=some o->b≠X.env.locals:=λe=>Ce e I.free;refine kat_sorted (m:=m) (L:=X.env.locals) (h₀:=Att.noObjs s.heap) (news:=Att.ledger s.heap X.env.locals X.env.locals) (vs:=d) (Att.fr_all hn) (λp B=>⟨(Att.mem_ledger.mp (show(p.1,p.2)∈_ from B)).2.2,(Att.mem_ledger.mp (show(p.1,p.2)∈_ from B)).1,Att.noObjs_get _ _⟩) pl.isList (by omega) (by omega) λD e1 h1 F1 N1 S=>?_;have a1:∀b o,b≠X.env.locals->s.heap.get? b=some o->h1.get? b=some o:=λb o n e=>(N1 (b,o) (.tail _ (Att.mem_ledger.mpr ⟨n,n,e⟩))).1;have y:TR h1 d:=λv K=>by
   obtain⟨a,o,i,j,t,u,n,rfl,e,r⟩:=J v K;refine⟨a,o,i,j,t,u,n,rfl,a1 a o ?_ e,r⟩;rw[Z]at K;obtain⟨t',ht,e'⟩:=Bm.mp K;cases e';obtain⟨i,j,B⟩:=G _ ht;exact E B
  refine lU (s:={s with heap:=h1}) y (by omega) ?_;refine pA (N:=d.length) (R:=TU d.length) (λi j C hi hj hC=>?_) (λp B=>?_) _ (rj (by omega))
  ·unfold kas_ask;have g:∀k,k<d.length->d.getD k CM∈d:=λk hk=>by
    have:d.getD k CM=d[k]:=by simp[hk]
    rw[this];exact OU hk
   exact yA (s:={s with heap:=h1}) y (g i hi) (g j hj) hC
  ·refine KasFin.intro F1 N1 (.head λp B=>Ck (S p B)) λh2 c F2 N2=>?_;have kk:∀b o,b≠X.env.locals->s.heap.get? b=some o->h2.get? b=some o:=λb o n e=>(N2 (b,o) (.tail _ (Att.mem_ledger.mpr ⟨n,n,e⟩))).1;have hD:=N2 (D,listOf (List.toArray (p.toList.map λi=>d.getD i CM)) c) (.head _);have Y:s.heap.get? D=none:=by
    cases e:s.heap.get? D with
    |none=>rfl
    |some o=>exact A38 (S (D,o) (Att.mem_ledger.mpr ⟨hD.2.1,hD.2.1,e⟩)) (Ev _)
   have A:H D=none:=by
    cases e:H D with
    |none=>rfl
    |some u=>
     obtain⟨o,z⟩:=(I.hok D u e).some_of;rw[Y]at z;cases z
   have pm:=uF B;obtain⟨f,pt,et⟩:∃f:List Ba,f.Perm ts/\(p.toList.map λi=>d.getD i CM)=f.map Value.ref:=by
    have r1:Paired (λ(a:Ba) (v:AY)=>v= .ref a) ts d:=by
     rw[Z];clear pm G q hl r a8 M hz Z;induction ts with
     |nil=>exact .nil
     |cons a r O=>exact .cons rfl O
    obtain⟨f,p1,p2⟩:=L2.Paired.perm pm.symm r1;refine⟨f,p1,?_⟩;clear p1 pm;generalize (p.toList.map λi=>d.getD i CM)=ys at p2;induction p2 with
    |nil=>rfl
    |cons a r O=>rw[BV,a,O]
   refine⟨.ref D,upd H D (.lst (f.map V.ref)),?_,rfl,q D f A pt⟩;show CL X pZ σ (upd H D (.lst (f.map V.ref))) {s with heap:=h2,gens:=s.gens,drawn:=s.drawn,toks:=s.toks};refine I.step (s:=s) (g':=s.gens) (d':=s.drawn) (t':=s.toks) (ch:=[]) (λ_ z=>nomatch z) (λb o nl _ _ e _=>kk b o nl e) (λb o nl _ _ e _=>⟨o.slots,kk b o nl e⟩) (λb o _ e nb=>?_) (λb o _ e=>?_) (λb ys e=>by rw[Bo (Ce e A)];exact e) (λb o u e=>by rw[Bo (Ce e A)];exact e) (λb ps e=>⟨#[],by rw[Bo (Ce e A),e];simp⟩) (λm' a4=>?_) (λb u e=>?_) I.bare
   ·rw[Bo λz=>by rw[z,Y]at e;cases e];exact nb
   ·by_cases W:b=X.env.locals
    ·obtain⟨o',_,_,e',_⟩:=F2.ns;exact⟨o',by rw[W];exact e'⟩
    ·exact⟨o,kk b o W e⟩
   ·obtain⟨o,es,ep,ho,hd,hk,a6⟩:=hn;obtain⟨o',c8,c9,P,U,c4,T⟩:=a4;rw[ho]at P;cases P;rw[hd]at U;cases U;have:m'=m:=funext λx=>(T x).symm.trans (a6 x);rw[this];exact F2.ns
   ·by_cases W:b=D
    ·subst W;rw[AX]at e;cases e;refine⟨by rw[AV,pt.length_eq,FE];omega,f.map Value.ref,c,?_,?_⟩
     ·clear pt et;induction f with
      |nil=>exact .nil
      |cons a r O=>exact .cons rfl O
     ·have:=hD.1;rw[et]at this;exact this
    ·rw[Bo W]at e;refine(I.hok b u e).stay (λx v F z=>kk x v ?_ z) (λx z=>by rw[Bo (Ce z A)];exact z) λx ys z=>by rw[Bo (Ce z A)];exact z
     rcases F with rfl|F
     ·exact E e
     ·exact E F
end
theorem JE.untrL{P:BG}{w:Cs}{H:Hp}{h:CO}{D:Ba}{ys:List V}(ok:JE P w H h)(a:H D=some (.lst ys)):JE P w (L2.untr H D) h:=λb o q=>by
 have d:b≠D:=by rintro rfl;rw[Hi]at q;cases q
 rw[Em d]at q;refine(ok b o q).stay (λ_ _ _ z=>z) (λc z=>?_) λc xs z=>?_
 ·rw[Em (by rintro rfl;rw[a]at z;cases z)];exact z
 ·rw[Em (by rintro rfl;rw[a]at z;cases z)];exact z
section
variable{X:Cx}{pZ:List (Ba×Obj)}{σ:St}{H:Hp}{s:Bf}
theorem CL.hide{D:Ba}{ys:List V}(I:CL X pZ σ H s)(f:H D=some (.lst ys)):∃(a:List AY) (n:Nat),CQ ys a/\ys.length<=sizeLine/\CL X (pZ++[(D,{cls:=.type "list",data:=.seq a.toArray n})]) σ (untr H D) s:=by
 obtain⟨t,a,n,r,e⟩:=I.hok D _ f;have l:D≠X.env.locals:=λz=>by rw[z,I.free]at f;cases f
 have q:D∉X.fs:=λz=>by
  obtain⟨_,o,w,_⟩:=I.ok.funs.mem z;have:=I.base.free D o w (I.ok.frf D z) λy=>I.ok.exfs D y z;rw[f]at this;cases this
 have g:∀{b:Ba},H b=none->untr H D b=none:=λ{b} h=>by
  unfold untr;split
  ·rfl
  ·exact h
 refine⟨a,n,r,t,I.ok,I.os,I.bare,⟨I.base.keep,I.base.slot,λb o e n u=>g (I.base.free b o e n u),I.base.there,λb xs e=>?_,λb o xs e=>?_,λb ps e=>?_⟩,I.loc,I.cell,g I.free,λx c e=>g (I.freeC x c e),λp d=>?_,I.hok.untrL f,I.len⟩
 ·have:=I.base.tups b xs e;rw[Em (by rintro rfl;rw[f]at this;cases this)];exact this
 ·have:=I.base.frzs b o xs e;rw[Em (by rintro rfl;rw[f]at this;cases this)];exact this
 ·obtain⟨m,this⟩:=I.base.tbls b ps e;exact⟨m,by rw[Em (by rintro rfl;rw[f]at this;cases this)];exact this⟩
 ·rcases Cg.mp d with d|d
  ·obtain⟨k,j,i⟩:=I.pin p (CF _ d);exact⟨k,g j,i⟩
  ·rcases Cg.mp d with d|d
   ·obtain⟨k,j,i⟩:=I.pin p (BU _ d);exact⟨k,g j,i⟩
   ·rw[Bu.mp d];exact⟨e,Hi,l,q,λv z=>by cases z⟩
theorem CL.show{D:Ba}{ys:List V}{d:List AY}{n:Nat}{H':Hp}{s':Bf}{f:St}(I:CL X pZ σ H s)(k:H D=some (.lst ys))(r:CQ ys d)(w:ys.length<=sizeLine)(a:CL X (pZ++[(D,{cls:=.type "list",data:=.seq d.toArray n})]) f H' s'):
  H' D=none/\CL X pZ f (upd H' D (.lst ys)) s':=by
 obtain⟨e,u,v,C,_⟩:=a.pin (D,{cls:=.type "list",data:=.seq d.toArray n}) (BU _ (BU _ (Bu.mpr rfl)));have up:∀{b:Ba} {o:HO},H' b=some o->upd H' D (.lst ys) b=some o:=λe=>JH e u;refine⟨u,a.ok,a.os,a.bare,⟨a.base.keep,a.base.slot,λb o e n l=>?_,a.base.there,λb xs e=>up (a.base.tups b xs e),λb o xs e=>up (a.base.frzs b o xs e),λb ps e=>?_⟩,a.loc,a.cell,?_,λx c e=>?_,λp t=>?_,λb o q=>?_,a.len⟩
 ·have g:b≠D:=λz=>by
   have:=I.base.free b o e n l;rw[z,k]at this;cases this
  rw[Bo g];exact a.base.free b o e n l
 ·obtain⟨m,z⟩:=a.base.tbls b ps e;exact⟨m,up z⟩
 ·rw[Bo (DP v)];exact a.free
 ·have hc:c≠D:=λz=>by
   have:=I.freeC x c e;rw[z,k]at this;cases this
  rw[Bo hc];exact a.freeC x c e
 ·have i:p.1≠D:=λz=>by
   have:=(I.pin p t).2.1;rw[z,k]at this;cases this
  have j:p∈X.pn++ (pZ++[(D,{cls:=.type "list",data:=.seq d.toArray n})]):=by
   rcases Cg.mp t with h|h
   ·exact CF _ h
   ·exact BU _ (CF _ h)
  obtain⟨B,A,y⟩:=a.pin p j;exact⟨B,by rw[Bo i];exact A,y⟩
 ·by_cases g:b=D
  ·subst g;rw[AX]at q;cases q;exact⟨w,d,n,r,e⟩
  ·rw[Bo g]at q;exact(a.hok b o q).stay (λ_ _ _ z=>z) (λc z=>up z) λc xs z=>up z
def Y8(t:TE):TE:=λσ H Q=>∃D ys,H D=some (.lst ys)/\t σ (untr H D) λv H'=>H' D=none->Q v (upd H' D (.lst ys))
theorem Jz{e:Expr}{t:TE}(i:PE X e t):PE X e (Y8 t):=by
 intro pZ s σ H Q I h;obtain⟨D,ys,b,q⟩:=h;obtain⟨f,n,r,g,m⟩:=I.hide b;refine ES (i _ s σ (untr H D) _ m q) λu s' a=>?_;obtain⟨v,H',l,c,d⟩:=a;obtain⟨j,k⟩:=I.show b r g l;exact⟨v,_,k,c,d j⟩
end
end L2
namespace L2
open PySem PySem.W PyProof PyProof.Rows PySem.SeqAt
def V1(v:AY):Bool:=match v with|.bool b=>b|_=>false
theorem Rq:∀{bs:List Bool} {us:List AY},CQ (bs.map V.bl) us->us=bs.map Dm
 |[],_,.nil=>rfl
 |b::bs,_,.cons r t=>by
  rw[BV,<-Rq t];rw[show _=Dm b from r]
theorem vy{A:Do}{s:Bf}{bs:List Bool}:∀y∈ (bs.map Dm).toArray,EqAt A s y (.bool true) (V1 y):=λy c=>by
 have a:y∈bs.map Dm:=by simpa using c
 obtain⟨b,_,rfl⟩:=Bm.mp a;have:=EqAt.bool_bool (A:=A) (s:=s) b true;rw[show(b==true)=V1 (.bool b)by cases b <;> rfl]at this;exact this
section
variable{X:Cx}
theorem qP:MtR X "list.count" (λx xs H Q=>∃(l:Ba) (bs:List Bool),x= .ref l/\xs=[.bl true]/\H l=some (.lst (bs.map V.bl))/\Q (.int (bs.countP id:Nat)) H):=by
 intro pZ s σ H x xs v us Q I a b h;obtain⟨l,bs,rfl,rfl,g,q⟩:=h;cases (show v=Value.ref l from a);obtain⟨u,rfl,c⟩:=CQ.one b;cases (show u=Dm true from c);obtain⟨_,d,n,r,e⟩:=I.hok l _ g;have i:=Rq r;subst i;refine call_meets PySem.F.slot_list_count ⟨_,e,rfl⟩ PySem.F.entry_list_count (PySem.F.args_list_count_2 _ _) (list_countAt l _ n none #[] (.bool true) V1) ⟨e,λy f=>vy y f,?_⟩;have j: (bs.map Dm).toArray.toList.countP V1=bs.countP id:=by
  rw[show(bs.map Dm).toArray.toList=bs.map Dm from rfl,List.countP_map];rfl
 rw[j];exact⟨.int _,H,I.tok _,⟨_,rfl⟩,q⟩
theorem qO:MtR X "list.index" (λx xs H Q=>∃(l:Ba) (bs:List Bool) (j:Nat),x= .ref l/\xs=[.bl true]/\H l=some (.lst (bs.map V.bl))/\bs[j]?=some true/\j<=1000/\(∀i,i<j->bs[i]?=some false)/\Q (.int (j:Nat)) H):=by
 intro pZ s σ H x xs v us Q I k m h;obtain⟨l,bs,j,rfl,rfl,w,f,z,c,q⟩:=h;cases (show v=Value.ref l from k);obtain⟨u,rfl,o⟩:=CQ.one m;cases (show u=Dm true from o);obtain⟨_,p,n,r,e⟩:=I.hok l _ w;have A:=Rq r;subst A;have d:j<bs.length:=(Bi.mp f).1;have at_:∀(i:Nat) (hi:i< (bs.map Dm).toArray.size) (b:Bool),bs[i]?=some b->V1 ((bs.map Dm).toArray[i])=b:=λi hi b g=>by
  have a:i<bs.length:=by simpa using hi
  have: (bs.map Dm).toArray[i]=Dm (bs[i]'a):=by simp
  rw[this];show bs[i]'a=b;rw[AW a]at g;exact AR g
 refine call_meets PySem.F.slot_list_index ⟨_,e,rfl⟩ PySem.F.entry_list_index (PySem.F.args_list_index_2 _ _) (list_indexAt l _ n none #[] (.bool true) V1 j (by simpa using d) (by omega) (at_ j _ true f) (λi hi h=>at_ i hi false (c i h))) ⟨e,λy t=>vy y t,?_⟩;exact⟨.int _,H,I.tok _,⟨_,rfl⟩,q⟩
end
end L2
namespace L2
open PySem PySem.W PyProof PyProof.Rows
theorem ux{X:Cx}{cm:Bool}{k:Nat}{C f:Ba}{fd:Ek}{ps:List Bx}{sp:Sp}{dvs:List V}{ds:List AY}{E:XK}{x:Bx}{p pos:Pos}{e:Expr}{es:List Expr}{t:TA}(M:Mk X.K C f)(F:Cm X.prog X.w X.K X.mg X.base (XC X.prog X.w cm) k f fd ps sp)(D:Fm (k+1) X.A)(J:Gl X x)(hm:X.mg x=some (.ref C))(N:CC X.K fd ps ds)(hd:CQ dvs ds)(i:cm=true->X.calm=true)(ha:PA X.nox (e::es) t)(g: (x==("__debug__" :Bx))=false:=by decide)(L:Cn (e::es) X.env=(false,eval e X.env)::Cn es X.env:=by rfl)(d: (FL pos (Cn es X.env)).any (·.1)=false:=by rfl):
  PEX X E (.Call (.Name x p) (e::es) [] pos) (tP C sp dvs E t):=by
 intro pZ o σ R Q j h;refine DD (JA j J hm ?_ g);refine Jq (h₀:=X.base) j.ok.mod.kin M.kp (FK (ha pos pZ o σ R _ (j.wish _) h) (λus s b=>?_) λ_ _ z=>CG z) L d;obtain⟨vs,H,n,r,q⟩:=b;refine⟨n.unwish.kIn,?_⟩;have I:=n.unwish;have m:=q (s.heap.objs.size+1) s.heap.objs.size (I.hok.fresh (EV _)) (I.hok.fresh (Bv _)) (Ck (GV _));have c:=CL.made (C:=C) I;have l:CQ (V.ref (s.heap.objs.size+1):: (vs++dvs)) (Value.ref (s.heap.objs.size+1):: (us++ds)):=.cons rfl (r.append hd);have G: (Value.ref (s.heap.objs.size+1)::us++ds).length=ps.length:=by
  have e:=l.length;rw[F.len _ _ _ _ m]at e;exact e.symm
 refine Ho (jB (f:=f) I.kIn M.makes M.init (beq_iff_eq.mp M.fn) (GT (F.run _ X.stack _ _ ⟨Value.ref (s.heap.objs.size+1)::us,[]⟩ (Value.ref (s.heap.objs.size+1):: (us++ds)) _ _ E (D.make C us []) (λz=>I.ok.hd (i z)) (λz=>Ej z) (c.env0.make C us []) (N _ (Value.ref (s.heap.objs.size+1)::us) c.kIn G) l m) λr s' a=>?_));cases r with
 |error e=>exact⟨_,_,c,a⟩
 |ok fl=>
  cases fl with
  |ret u=>
   obtain⟨v,H',P,y,O,B⟩:=c.after a;subst O;exact⟨y,⟨V.ref (s.heap.objs.size+1),H',P,rfl,B⟩⟩
  |next=>exact CG a
  |brk=>exact CG a
  |cont=>exact CG a
theorem zV{P:BG}{w:Cs}{k:Gv}{u:AY}(h: (EZ P w).is k u=true):DA (kV k) u:=by
 rcases Fv h with⟨i,t,rfl,rfl⟩|⟨x,t,rfl,rfl⟩
 ·exact⟨t,rfl⟩
 ·exact⟨t,rfl⟩
theorem KV.at':∀{kvs:List (Gv×V)} {vs:List (Gv×AY)},KV kvs vs->∀(i:Nat) k u,vs[i]?=some (k,u)->∃v,kvs[i]?=some (k,v)
 |_,_,.nil,i,k,u,e=>by simp at e
 |_,_,.cons (a:=p) a r,0,k,u,e=>by
  simp at e;obtain⟨p1,p2⟩:=p;exact⟨p2,by rw[e]at a;rw[List.getElem?_cons_zero];congr 1;exact Prod.ext a.1 rfl⟩
 |_,_,.cons a r,i+1,k,u,e=>by
  simp at e;obtain⟨v,h⟩:=KV.at' r i k u e;exact⟨v,by simpa using h⟩
section
variable{X:Cx}
theorem YR(hc:X.calm=true):IM X (.type "list") (λxs H Q=>∃(a:Ba) (kvs:List (Gv×V)),xs=[.ref a]/\Rd H a (.dK kvs)/\∀l,H l=none->Q (.ref l) (upd H l (.lst (kvs.map λd=>kV d.1)))):=by
 intro pZ s σ H xs us Q I r h;obtain⟨a,kvs,rfl,ha,q⟩:=h;obtain⟨u,rfl,t⟩:=CQ.one r;cases (show u= .ref a from t);obtain⟨y,e,vs,rel,dd⟩:=YN I.hok ha;obtain⟨ep,n⟩:=dd.dictAt;have g:kvs.length=vs.length:=rel.length;refine kdl_call (kdl_dict (knd:=EZ X.prog X.w) (kvs:=vs) (ep:=ep) e) (I.ok.hd hc) n (by omega) λh' tk c D A B b=>?_;have f:CQ (kvs.map λd=>kV d.1) c.toList:=by
  refine nO ((AV _).trans (g.trans (b.1.symm.trans GN.symm))) λi x u o C=>?_;obtain⟨k,p,j,m⟩:=b.2 i u (by simpa using C);obtain⟨v,z⟩:=KV.at' rel i k p j;rw[Bj,z]at o;obtain rfl:kV k=x:=AR o;exact zV m
 exact⟨.ref s.heap.objs.size,_,I.laid (t':=tk) A (Bv _) (show DH X.prog X.w _ h' _ (.lst (kvs.map λd=>kV d.1))from⟨by rw[AV];exact y,c.toList,D,f,B⟩),rfl,q _ (I.hok.fresh (Bv _))⟩
theorem CL.freeze{pZ:List (Ba×Obj)}{σ:St}{H:Hp}{s:Bf}{a:Ba}{o:Obj}{kvs:List (Gv×V)}(I:CL X pZ σ H s)(ha:H a=some (.dK kvs))(k:s.heap.get? a=some o):CL X pZ σ (upd H a (.frz o (.dK kvs))) s:=by
 have d:∀{b:Ba},H b=none->upd H a (.frz o (.dK kvs)) b=none:=λ{b} h=>by
  rw[Bo (λz=>by rw[z,ha]at h;cases h)];exact h
 have up:∀{b:Ba} {u:HO},H b=some u->(∀g,u≠ .dK g)->upd H a (.frz o (.dK kvs)) b=some u:=λe n=>by
  rw[Bo (λz=>by rw[z,ha]at e;exact n _ (AR e).symm)];exact e
 refine⟨I.ok,I.os,I.bare,⟨I.base.keep,I.base.slot,λb o e n i=>d (I.base.free b o e n i),I.base.there,λb xs e=>up (I.base.tups b xs e) (λ_ z=>by cases z),λb o xs e=>up (I.base.frzs b o xs e) (λ_ z=>by cases z),λb ps e=>?_⟩,I.loc,I.cell,d I.free,λx c e=>d (I.freeC x c e),λp j=>?_,λb u e=>?_,I.len⟩
 ·obtain⟨m,z⟩:=I.base.tbls b ps e;exact⟨m,up z (λ_ z=>by cases z)⟩
 ·obtain⟨r,q,l⟩:=I.pin p j;exact⟨r,d q,l⟩
 ·have st:∀{b:Ba} {u:HO},DH X.prog X.w H s.heap b u->DH X.prog X.w (upd H a (.frz o (.dK kvs))) s.heap b u:=λh=>h.stay (λ_ _ _ z=>z) (λc z=>up z (λ_ z=>by cases z)) λc xs z=>up z (λ_ z=>by cases z);by_cases f:b=a
  ·subst f;rw[AX]at e;cases e;exact⟨k,st (I.hok b _ ha)⟩
  ·rw[Bo f]at e;exact st (I.hok b u e)
def U7(a:Ba)(o:Obj)(kvs:List (Gv×V)):It:=⟨λi H=>H a=some (.frz o (.dK kvs))/\i<kvs.length,λi H x H'=>H'=H/\∃k v,kvs[i]?=some (k,v)/\x=kV k,λi H=>H a=some (.frz o (.dK kvs))/\kvs.length<=i,false⟩
theorem qu{P:BG}{w:Cs}{K:Be}{tg:Expr}(a it:Ba){o:Obj}{kvs:List (Gv×V)}{vs:List (Gv×AY)}{ep:Nat}(rel:KV kvs vs)(m:∀h:CO,h.get? a=some o->h.DictAt (EZ P w) a vs ep):
  rL P w K tg (U7 a o kvs) [it] it (λi h=>h.IsKeyIter it a i vs.length ep) where
 mem:=by simp
 obj:=λi h st b g=>by
  have e:b=it:=by simpa using g
  subst e;obtain⟨o,e,c,d⟩:=st;exact⟨o,e,λv z=>by rw[d]at z;cases z⟩
 keep:=λi h h' st k=>st.at λo e=>k it (by simp) o e
 item:=by
  intro X t hw u hc i pZ s σ H E I n st q;subst t hw u;obtain⟨f,hi⟩:=q;obtain⟨p,_⟩:=(show s.heap.get? a=some o/\_ from I.hok a _ f);have l:kvs.length=vs.length:=rel.length;have C:vs[i]?=some ((vs[i]'(by omega)).1,(vs[i]'(by omega)).2):=AW _;obtain⟨v,D⟩:=KV.at' rel i _ _ C;obtain⟨B,f1,f2,A,y,x⟩:=n it (by simp);refine wpAny_pyNext_dict_item st (m _ p) C λkey h' F j sb=>?_;have J:CL X pZ σ H {s with heap:=h'}:=I.turned (t':=s.toks) (λb o g e=>(sb.2 b g).trans e) B f1 A y x;obtain⟨o',e,c,d⟩:=id j;exact⟨key,rfl,ph (s:={s with heap:=h'}) e c d Aa ⟨kV _,H,J,zV F,⟨rfl,_,v,D,rfl⟩,j,λb g=>(n b g).1⟩⟩
 done:=by
  intro X t hw u hc i pZ s σ H E I n st q;subst t hw u;obtain⟨f,hi⟩:=q;obtain⟨p,_⟩:=(show s.heap.get? a=some o/\_ from I.hok a _ f);have l:kvs.length=vs.length:=rel.length;obtain⟨B,f1,f2,A,y,x⟩:=n it (by simp);have r:X.calm=true:=hc.resolve_right λz=>by cases z.1
  exact wpAny_pyNext_dict_end (I.ok.hd r) st (m _ p) (CW (by omega)) λh' G=>⟨rfl,I.turned (t':=s.toks) (λb o g e=>G b o g e) B f1 A y x⟩
 self:=λ_ _ _ _ _ st h=>wpAny_pyIter_keyiter st h
def A0E(te:TE):TI:=λσ H R=>te σ H λx H1=>∃a kvs,x= .ref a/\((H1 a=some (.dK kvs)/\∀o,R (U7 a o kvs) (upd H1 a (.frz o (.dK kvs))))\/∃o,H1 a=some (.frz o (.dK kvs))/\R (U7 a o kvs) H1)
theorem oN{tg l:Expr}{tl:TE}(r:PE X l tl):PI X tg l (A0E tl):=by
 intro pZ s σ H R I h;refine ES (r pZ s σ H _ I h) λv s1 d=>?_;obtain⟨x,H1,k,m,p⟩:=d;obtain⟨a,kvs,e,q⟩:=p;subst e;cases m;have main:∀(o:Obj) (H2:Hp),CL X pZ σ H2 s1->H2 a=some (.frz o (.dK kvs))->R (U7 a o kvs) H2->Cc (model X.prog X.w) X.A (pyIter (.ref a)) (zD X pZ σ tg R) X.xe s1:=λo H2 g j n=>by
  obtain⟨i,y,c,vs,rel,dd⟩:=(show s1.heap.get? a=some o/\kvs.length<=sizeLine/\(a==Ip)=false/\∃vs,KV kvs vs/\s1.heap.DictOf (EZ X.prog X.w) a vs from g.hok a _ j);obtain⟨ep,f⟩:=dd.dictAt;refine wpAny_pyIter_dict c f ?_;refine⟨s1.heap.objs.size,[s1.heap.objs.size],_,_,H2,rfl,g.kept (t':=s1.toks) λb o e=>Bb _ e,qu a _ rel (ep:=ep) (λh t=>f.at' λo' e=>by rw[i]at e;cases e;exact t),⟨_,Ca _ rfl,rfl,rfl⟩,λb u=>?_,n⟩;have e:b=s1.heap.objs.size:=by simpa using u
  subst e;exact g.fpOk (Bv _) (g.hok.fresh (Bv _))
 rcases q with⟨ha,q⟩|⟨o,ha,q⟩
 ·obtain⟨_,_,vs,_,o,es,ep,i,_⟩:=pC k.hok ha;exact main o _ (k.freeze ha i) AX (q o)
 ·exact main o _ k ha q
end
section
variable{X:Cx}
def yb(t:TS):TS:=λD σ H=>∃a kvs,H a=some (.dK kvs)/\∀o,t D σ (upd H a (.frz o (.dK kvs)))
theorem lP{b:List Dn}{t:TS}(h:WH X b t):WH X b (yb t):=by
 intro pZ s σ H D I q;obtain⟨a,kvs,ha,q⟩:=q;obtain⟨_,_,vs,_,o,es,ep,c,_⟩:=pC I.hok ha;exact h pZ s σ _ D (I.freeze ha c) (q o)
end
theorem jI{a:Ba}{o:Obj}{kvs:List (Gv×V)}{g:TG}{tb:TS}{D:Wt}{σ:St}{H:Hp}(Pv:Nat->St->Hp->Prop)(n:Pv 0 σ H)(j:∀i σ H,i<=kvs.length->Pv i σ H->H a=some (.frz o (.dK kvs)))(hs:∀i k v σ H,kvs[i]?=some (k,v)->Pv i σ H->g (kV k) σ H λb H2=>tb {D with nx:=Pv (i+1),ct:=Pv (i+1),bk:=D.nx} b H2)(hd:∀σ H,Pv kvs.length σ H->D.nx σ H):
  ∃W:Nat->Nat->St->Hp->Prop,(∃m,W 0 m σ H)/\∀i m σ H,W i m σ H->((U7 a o kvs).stop i H/\D.nx σ H)\/((U7 a o kvs).go i H/\∃N:St->Hp->Prop,(∀c H',N c H'->∃f,f<m/\W (i+1) f c H')/\∀x H',(U7 a o kvs).yld i H x H'->g x σ H' λb H2=>tb {D with nx:=N,ct:=N,bk:=D.nx} b H2):=by
 refine⟨λi m σ H=>m=kvs.length - i/\i<=kvs.length/\Pv i σ H,⟨kvs.length,by simp,CH _,n⟩,?_⟩;rintro i m σ H ⟨rfl,hi,p⟩;have q:=j i σ H hi p;by_cases d:i<kvs.length
 ·refine .inr ⟨⟨q,d⟩,Pv (i+1),λc H' h=>⟨kvs.length - (i+1),by omega,rfl,d,h⟩,λx H' y=>?_⟩;obtain⟨e,k,v,l,rfl⟩:=y;subst e;exact hs i k v σ _ l p
 ·have e:i=kvs.length:=by omega
  subst e;exact .inl ⟨⟨q,Bv _⟩,hd σ H p⟩
end L2
namespace L2
open PySem PySem.Spec PyProof.Rows
def cI(T:Ba)(H:Hp):Prop:=H T=some (.tbl #[])/\∀b,H b=none\/(∃o xs,H b=some (.frz o (.lst xs)))\/b=T
theorem qT{T c:Ba}{P:BG}{w:Cs}{K:Be}{mg mb:Bx->Option AY}{CX:gu}{k:Nat}{fa a:Ba}{fd:Ek}{x:Bx}{sp:Sp}{f:Bf}{vs:List AY}{ns:List Int}(B:f.heap.get? T=some (Mj #[]))(Z:K.lookup T=none)(a1:Iu f.heap c T)(KX:K.In f.heap)(E:f.heap.Ns AT mg)(g:f.heap.Ns OR mb)(X:∀x:Bx,x≠ "__name__" ->mb x=CP x)(G:f.heap.NoLimit)(hg:f.gens=#[])(ha:f.heap.get? a=some {cls:=.type "list",data:=.seq vs.toArray})(hi:IntsAre vs ns)(hl:ns.length<=sizeLine)(hr:Fm k callerA)(F:∀base:CO,K.In base->base.Ns AT mg->Cm P w K mg base CX k fa fd [x] sp)(y:∀(s:Bf) (u:AY),BindsTo s fd ⟨[u],[]⟩ [(x,u)])(R:∀H:Hp,cI T H->Dk K H a (ns.map V.int)->sp [.ref a] H (λv _=>v= .bl true) λ_ _ _=>False)(a0:∀H e s',CX.cx [] H f (λ_ _ _=>False) e s'->False)(S:CX.sm=false):
  IN (model P w) callerA (.call (.ref fa) ⟨[.ref a],[]⟩) (λr s'=>r= .ok (.ret (.bool true))/\OldK f.heap s'.heap/\s'.os=f.os/\AllBare s'.gens) f:=by
 have rv:=bG hi;have D:=hi.length;have core:∀H:Hp,cI T H->Dk K H a (ns.map V.int)->JE P w H f.heap->(∀b,H b≠none->b=a\/b=T)->(H a≠none->K.lookup a=none)->IN (model P w) callerA (.call (.ref fa) ⟨[.ref a],[]⟩) (λr s'=>r= .ok (.ret (.bool true))/\OldK f.heap s'.heap/\s'.os=f.os/\AllBare s'.gens) f:=by
  intro H Y hS hok hA hK;have j:∀{b:Ba} {o:Obj},f.heap.get? b=some o->H b=none->(fV f.heap H).get? b=some o:=λe n=>vm e n;have Q:∀{b:Ba} {o:Obj} {es:Array DictEntry} {ep:Nat},f.heap.get? b=some o->o.data= .dict es ep->H b=none:=λ{b o es ep} e d=>by
   cases q:H b with
   |none=>rfl
   |some u=>
    rcases hA b (by rw[q];simp)with A|A
    ·subst A;rw[ha]at e;cases e;have d':Data.seq vs.toArray _=Data.dict es ep:=d;cases d'
    ·subst A;rw[B]at e;cases e;cases d
  have p:∀{b:Ba} {m:Bx->Option AY},f.heap.Ns b m->(fV f.heap H).Ns b m:=λ{b m} I=>(by obtain⟨o,es,ep,e,d,r⟩:=I;exact⟨o,es,ep,j e (Q e d),d,r⟩);have L:K.In (fV f.heap H):=λb o e=>j (KX b o e) (by
   cases q:H b with
   |none=>rfl
   |some u=>
    rcases hA b (by rw[q];simp)with A|A
    ·subst A;rw[hK (by rw[q];simp)]at e;cases e
    ·rw[A,Z]at e;cases e)
  have hM:Mod K mg (fV f.heap H):=⟨L,p E,⟨mb,p g,X⟩,let ⟨mc,h1,h2⟩:=G;⟨mc,p h1,h2⟩⟩;have e0:mW P w K mg (fV f.heap H) callerA [] f H:=⟨rfl,hM,λb o e=>yK e,Nat.le_of_eq (qZ _ _),trivial,λb g=>A38 (show b∈ ([]:List Ba)from g) (by simp),hok,.of_eq hg⟩;refine GT ((F _ L (p E)).run callerA [] f H ⟨[.ref a],[]⟩ [.ref a] [.ref a] _ _ hr (λ_=>rfl) (λz=>by rw[S]at z;cases z) e0 (y f (.ref a)) (.cons rfl .nil) (R H Y hS)) λr s' h=>?_;cases r with
  |error e=>exact(a0 H e s' h).elim
  |ok fl=>
   cases fl with
   |next=>exact CG h
   |brk=>exact CG h
   |cont=>exact CG h
   |ret u=>
    obtain⟨v,H',os,bare,un,t,r',q⟩:=h;have q':v= .bl true:=q;subst q';obtain rfl:u=Dm true:=r';refine⟨rfl,⟨λb o e=>?_,λb o e=>un.there b o e (by simp)⟩,os,bare⟩;cases q:H b with
    |none=>exact .inl (un.keep b o e q (by intro z;exact A38 (show b∈ ([]:List Ba)from z) (by simp)) (by simp))
    |some u=>
     rcases Y.2 b with z|⟨ob,xs,z⟩|z
     ·rw[q]at z;cases z
     ·have N:=un.frzs b ob _ z;obtain⟨e1,_⟩:=hok b _ z;obtain⟨e2,_⟩:=t b _ N;rw[e]at e1;cases e1;exact .inl e2
     ·subst z;obtain⟨more,N⟩:=un.tbls b _ Y.1;have e2:s'.heap.get? b=some {cls:=.none,data:=.fields (#[] ++more)}:=t b _ N;rw[B]at e;cases e;exact .inr (.inl ⟨(a1.tab B).isCodeTable,rfl,#[],more,rfl,e2⟩)
 have J:a≠T:=λz=>by rw[z,B]at ha;cases ha
 cases U:K.lookup a with
 |some o=>
  have e:=KX a o U;rw[ha]at e;cases e;refine core (λb=>if b=T then some (.tbl #[])else none) ⟨A36 rfl,λb=>?_⟩ (.inr ⟨_,vs.toArray,_,U,rfl,rfl,rfl,by rw[BY,D];exact hl,by simpa using rv⟩) (λb u z=>?_) (λb z=>?_) λz=>A38 (A35 J) z
  ·by_cases g:b=T
   ·exact .inr (.inr g)
   ·exact .inl (A35 g)
  ·by_cases g:b=T
   ·have l:=(A36 g).symm.trans z;cases l;rw[g];exact B
   ·have l:=(A35 g).symm.trans z;cases l
  ·by_cases g:b=T
   ·exact .inr g
   ·exact A38 (A35 g) z
 |none=>
  refine core (λb=>if b=a then some (.frz {cls:=.type "list",data:=.seq vs.toArray} (.lst (ns.map V.int)))else if b=T then some (.tbl #[])else none) ⟨?_,λb=>?_⟩ (.inl (.inr ⟨{cls:=.type "list",data:=.seq vs.toArray},A36 rfl⟩)) (λb u z=>?_) (λb z=>?_) λ_=>U
  ·show(if T=a then _ else if T=T then _ else _)=_
   rw[A35 (DP J),A36 rfl]
  ·by_cases g:b=a
   ·exact .inr (.inl ⟨_,_,A36 g⟩)
   ·by_cases i:b=T
    ·exact .inr (.inr i)
    ·exact .inl ((A35 g).trans (A35 i))
  ·by_cases g:b=a
   ·have l:=(A36 g).symm.trans z;cases l;subst g;exact⟨ha,by rw[AV];exact hl,vs,_,rv,ha⟩
   ·by_cases i:b=T
    ·have l:=((A35 g).trans (A36 i)).symm.trans z;cases l;rw[i];exact B
    ·have l:=((A35 g).trans (A35 i)).symm.trans z;cases l
  ·by_cases g:b=a
   ·exact .inl g
   ·by_cases i:b=T
    ·exact .inr i
    ·exact A38 ((A35 g).trans (A35 i)) z
theorem tJ{T c:Ba}{l:PySem.W.OpenLaw}{n k:Nat}{q:BG}{loose:List Bx}{XP: (Bx->Option AY)->CO->Prop}{YP:Cs->CO->Prop}{d:DefRec}{K:UX->Be}{CX:Cs->gu}{sp:Cs->Sp}{x:Bx}(hn:l.most=some n)(B:n<=sizeLine)(D:d.params.defaults=[])(M:Fm k callerA)(Q:∀(w:Cs) (h:CO),YP w h->(K w.params).In h/\h.get? T=some (Mj #[])/\Iu h c T/\(K w.params).lookup T=none)(F:∀(w:Cs) (mg:Bx->Option AY) (y:Ba) (h:CO),(K w.params).In h->h.Ns AT mg->mg d.name=some (.ref y)->∃fd:Ek,(∀(s:Bf) (u:AY),BindsTo s fd ⟨[u],[]⟩ [(x,u)])/\∀base:CO,(K w.params).In base->base.Ns AT mg->Cm l.prog w (K w.params) mg base (CX w) k y fd [x] (sp w))(z:∀(w:Cs) (H:Hp) (a:Ba) (ns:List Int),ns.length<=n->(∀i∈ns,Ff i<=1048576)->cI T H->Dk (K w.params) H a (ns.map V.int)->sp w [.ref a] H (λv _=>v= .bl true) λ_ _ _=>False)(I:∀(w:Cs) (H:Hp) (s:Bf) (e:AY) (s':Bf),(CX w).cx [] H s (λ_ _ _=>False) e s'->False)(A:∀w,(CX w).sm=false):
  PySem.W.WalkO q loose XP YP l.row.toRowW d [] (λf vs=>PySem.call f vs):=by
 refine Att.attach_call hn D λw s_ r mg mb y o pm cd doc a vs ns G Y Z hd O C t m j N p=>?_;obtain⟨L,R,J,E⟩:=Q w _ Y;obtain⟨fd,P,X⟩:=F w mg y _ L G.T.g C;exact qT R E J L G.T.g G.T.b G.T.builtins G.T.nolimit N t m (BF j B) M X P (λH U S=>z w H a ns j p U S) (λH e s'=>I w H r e s') (A w)
theorem qr{T c:Ba}{l:PySem.W.OpenLaw}{n k:Nat}{q:BG}{loose:List Bx}{XP: (Bx->Option AY)->CO->Prop}{YP:Cs->CO->Prop}{d:DefRec}{K:UX->Be}{CX:gu}{sp:Be->Sp}{x:Bx}(hn:l.most=some n)(j:n<=sizeLine)(m:d.params.defaults=[])(r:Fm k callerA)(y:∀(w:Cs) (h:CO),YP w h->(K w.params).In h/\h.get? T=some (Mj #[])/\Iu h c T/\(K w.params).lookup T=none)(F:∀(w:Cs) (mg:Bx->Option AY) (p:Ba) (h:CO),(K w.params).In h->h.Ns AT mg->mg d.name=some (.ref p)->∃fd:Ek,(∀(s:Bf) (u:AY),BindsTo s fd ⟨[u],[]⟩ [(x,u)])/\∀base:CO,(K w.params).In base->base.Ns AT mg->Cm l.prog w (K w.params) mg base CX k p fd [x] (sp (K w.params)))(b:∀(K:Be) (H:Hp) (a:Ba) (ns:List Int),ns.length<=n->(∀i∈ns,Ff i<=1048576)->cI T H->Dk K H a (ns.map V.int)->sp K [.ref a] H (λv _=>v= .bl true) λ_ _ _=>False)(o:∀(H:Hp) (s:Bf) (e:AY) (s':Bf),CX.cx [] H s (λ_ _ _=>False) e s'->False)(g:CX.sm=false):
  PySem.W.WalkO q loose XP YP l.row.toRowW d [] (λf vs=>PySem.call f vs):=tJ (T:=T) (c:=c) (K:=K) (CX:=λ_=>CX) (sp:=λw=>sp (K w.params)) hn j m r y F (λw H a ns h1 t h2 h3=>b (K w.params) H a ns h1 t h2 h3) (λ_ H s e s'=>o H s e s') λ_=>g
end L2
namespace K9
open PySem PySem.W HL L2
theorem Fu:CP "len"=some (.builtin "len"):=by decide+kernel
theorem Cb:CP "isinstance"=some (.builtin "isinstance"):=by decide+kernel
theorem vR:CP "max"=some (.builtin "max"):=by decide+kernel
theorem gd:CP "min"=some (.builtin "min"):=by decide+kernel
theorem vO:CP "sum"=some (.builtin "sum"):=by decide+kernel
theorem MT:CP "all"=some (.builtin "all"):=by decide+kernel
theorem U3:CP "ord"=some (.builtin "ord"):=by decide+kernel
theorem UO:CP "sorted"=some (.builtin "sorted"):=by decide+kernel
theorem vS:CP "int"=some (.type "int"):=by decide+kernel
theorem gg:CP "bool"=some (.type "bool"):=by decide+kernel
theorem Gi:CP "list"=some (.type "list"):=by decide+kernel
theorem YS:CP "tuple"=some (.type "tuple"):=by decide+kernel
theorem vP:CP "str"=some (.type "str"):=by decide+kernel
theorem vQ:CP "set"=some (.type "set"):=by decide+kernel
theorem bn:CP "ValueError"=some (.type "ValueError"):=by decide+kernel
abbrev Om:Dn:=Cv (top 8) 0
theorem Wi:Cd Ac Ac (BA Om):=HA
abbrev Yi:Dn:=top 16
theorem iV:Cd Ad Ad (BA Yi):=HA
abbrev Yk:Dn:=top 17
theorem iX:Cd Ae Ae (BA Yk):=HA
abbrev SR:Dn:=top 18
theorem aK:Cd Af Af (BA SR):=HA
abbrev bO:Dn:=top 19
theorem lI:Cd Ad Ad (BA bO):=HA
abbrev bN:Dn:=top 28
theorem lH:Cd ["number"] ["number"] (BA bN):=HA
abbrev Nn:Dn:=Cv (top 29) 2
theorem UC:Cd Ag Ag (BA Nn):=HA
abbrev Tc:Dn:=Cv (top 29) 6
theorem aS:Cd Ag Ag (BA Tc):=HA
abbrev Qv:Dn:=Cv (top 30) 2
theorem Yb:Cd Ah Ah (BA Qv):=HA
abbrev Qw:Dn:=Cv (top 30) 3
theorem Yc:Cd Ag Ag (BA Qw):=HA
abbrev Qy:Dn:=Cv (top 31) 1
theorem Ye:Cd Ah Ah (BA Qy):=HA
abbrev Qz:Dn:=Cv (top 31) 2
theorem Yg:Cd Ag Ag (BA Qz):=HA
abbrev Qt:Dn:=Cv (top 32) 1
theorem XY:Cd Ah Ah (BA Qt):=HA
abbrev Qu:Dn:=Cv (top 32) 2
theorem XZ:Cd Ag Ag (BA Qu):=HA
abbrev Vt:Dn:=Cv (top 33) 0
theorem fy:Cd Ai Ai (BA Vt):=HA
abbrev SW:Dn:=Cv (top 33) 4
theorem aM:Cd Ah Ah (BA SW):=HA
abbrev SX:Dn:=Cv (top 33) 5
theorem aN:Cd Ag Ag (BA SX):=HA
abbrev Vu:Dn:=Cv (top 34) 0
theorem fz:Cd Ai Ai (BA Vu):=HA
abbrev SY:Dn:=Cv (top 34) 4
theorem aO:Cd Ah Ah (BA SY):=HA
abbrev SZ:Dn:=Cv (top 34) 5
theorem aP:Cd Ag Ag (BA SZ):=HA
abbrev Vv:Dn:=Cv (top 35) 0
theorem fA:Cd ["self","item"] ["self","item"] (BA Vv):=HA
abbrev Nm:Dn:=Cv (top 35) 3
theorem UB:Cd Ag Ag (BA Nm):=HA
abbrev Ta:Dn:=Cv (top 35) 5
theorem aQ:Cd Ah Ah (BA Ta):=HA
abbrev Tb:Dn:=Cv (top 35) 6
theorem aR:Cd Ag Ag (BA Tb):=HA
abbrev Qx:Dn:=Cv (top 36) 0
theorem Yd:Cd ["self","name"] ["self","name"] (BA Qx):=HA
abbrev Lh:Dn:=Cv (top 36) 3
theorem Rf:Cd Ag Ag (BA Lh):=HA
abbrev Ol:Dn:=Cv (top 36) 5
theorem Wh:Cd Ah Ah (BA Ol):=HA
abbrev Qq:Dn:=top 38
theorem XW:Cd Aj Aj (BA Qq):=HA
abbrev Td:Dn:=Cv (top 39) 0
theorem aT:Cd Ak Ak (BA Td):=HA
abbrev MH:Dn:=top 40
theorem aJ:Cd Al Al (BA MH):=HA
abbrev Qp:Dn:=top 41
theorem XU:Cd ["numbers"] ["numbers"] (BA Qp):=HA
abbrev Vw:Dn:=Cv (top 42) 0
theorem fD:Cd Am Am (BA Vw):=HA
abbrev LX:Dn:=Cv (top 42) 1
theorem SN:Cd Ag Ag (BA LX):=HA
abbrev KI:Dn:=Cv (top 44) 0
theorem Px:Cd Ag Ag (BA KI):=HA
abbrev SV:Dn:=top 51
theorem Qo:Cd ["things"] ["things"] (BA SV):=HA
abbrev SQ:Dn:=top 52
theorem Qm:Cd ["form","least"] ["form"] (BA SQ):=HA
abbrev KH:Dn:=top 53
theorem Pw:Cd Al Al (BA KH):=HA
abbrev Oj:Dn:=top 54
theorem Nk:Cd ["form","numbers"] ["form"] (BA Oj):=HA
abbrev Nl:Dn:=top 55
theorem UA:Cd An An (BA Nl):=HA
abbrev bP:Dn:=top 56
theorem lJ:Cd An An (BA bP):=HA
abbrev Yj:Dn:=top 57
theorem iW:Cd Aj Aj (BA Yj):=HA
abbrev SS:Dn:=top 58
theorem aL:Cd Ao Ao (BA SS):=HA
abbrev Oi:Dn:=top 59
theorem Wg:Cd Ap Ap (BA Oi):=HA
abbrev Qr:Dn:=top 60
theorem XX:Cd Aq Aq (BA Qr):=HA
abbrev Yl:Dn:=top 61
theorem iY:Cd Aq Aq (BA Yl):=HA
abbrev SO:Dn:=top 62
theorem Iq:Cd ["forms","weights","place","form","fault"] ["forms"] (BA SO):=HA
abbrev Vx:Dn:=Cv (top 63) 0
theorem fE:Cd Ar Ar (BA Vx):=HA
abbrev Vy:Dn:=Cv (top 63) 2
theorem fF:Cd Ag Ag (BA Vy):=HA
abbrev iZ:Dn:=top 64
theorem qC:Cd As As (BA iZ):=HA
abbrev ja:Dn:=top 66
theorem Ph:Cd ["_law_script","_law_k","_law_cell","_law_more_here"] At (BA ja):=HA
abbrev oB:Dn:=top 67
theorem ud:Cd Au Au (BA oB):=HA
abbrev oA:Dn:=top 68
theorem KG:Cd ["_law_number_here","_law_many","_law_letters","_law_step","_law_base","_law_border","_law_at","_law_signs"] Av (BA oA):=HA
abbrev oz:Dn:=top 69
theorem Oe:Cd ["_law_number_here","_law_most","_law_signs","_law_plain_here"] Aw (BA oz):=HA
abbrev uj:Dn:=top 70
theorem fw:Cd ["_law_number_here","_law_ahead","_law_kind_here"] Ax (BA uj):=HA
abbrev oG:Dn:=top 71
theorem ue:Cd Ay Ay (BA oG):=HA
abbrev bQ:Dn:=top 72
theorem lK:Cd Az Az (BA bQ):=HA
abbrev oF:Dn:=top 73
theorem Og:Cd ["_law_number_here","_law_mark","_law_name","_law_ahead","_law_weights","_law_is_choice","_law_kind_here","_law_must","_law_field_here"] AA (BA oF):=HA
abbrev ui:Dn:=top 74
theorem yl:Cd AB AB (BA ui):=HA
abbrev Yh:Dn:=top 75
theorem iU:Cd AC AC (BA Yh):=HA
abbrev uf:Dn:=top 76
theorem FU:Cd ["_law_script","_law_base","_law_most","_law_many","_law_names_here","_law_spec_here","_law_weights","_law_k","_law_one","_law_is_choice","_law_count","_law_marks","_law_told","_law_rows","_law_j","_law_field_here","_law_form"] AD (BA uf):=HA
abbrev Vr:Dn:=top 77
theorem fu:Cd AE AE (BA Vr):=HA
abbrev SU:Dn:=top 78
theorem Qn:Cd ["_law_field_here","_law_spec_here","_law_kind_here"] AF (BA SU):=HA
abbrev Vs:Dn:=top 79
theorem MG:Cd ["_law_form","_law_spec_here","_law_bit","_law_fields","_law_gone"] AG (BA Vs):=HA
abbrev oH:Dn:=top 81
theorem Oh:Cd ["_law_e","_law_told","_law_words"] ["_law_e"] (BA oH):=HA
abbrev oy:Dn:=top 82
theorem XT:Cd ["_law_script","_law_spec_here","_law_form"] AH (BA oy):=HA
abbrev uk:Dn:=top 83
theorem ox:Cd ["_law_form","_law_j","_law_marks"] AI (BA uk):=HA
abbrev Ym:Dn:=top 84
theorem Lg:Cd ["_law_spec_here","_law_at","_law_number_here","_law_kinds"] AJ (BA Ym):=HA
abbrev Qs:Dn:=top 85
theorem Fe:Cd ["_law_mark","_law_is_choice","_law_number_here","_law_rows","_law_kind_here","_law_must","_law_default_here"] AK (BA Qs):=HA
abbrev uh:Dn:=top 86
theorem Ix:Cd ["_law_spec_here","_law_at","_law_ways","_law_number_here","_law_form","_law_fields","_law_name","_law_gone","_law_ahead","_law_odd","_law_twice"] AL (BA uh):=HA
abbrev ug:Dn:=top 87
theorem ow:Cd ["_law_forms","_law_e"] ["_law_forms"] (BA ug):=HA
abbrev oE:Dn:=top 88
theorem SM:Cd ["_law_wrong","_law_ranks","_law_words","_law_place"] ["_law_wrong"] (BA oE):=HA
abbrev oC:Dn:=top 89
theorem Of:Cd ["_law_number_here","_law_small","_law_many","_law_fields","_law_book"] Aw (BA oC):=HA
abbrev zP:Dn:=top 90
theorem IY:Cd ["_law_script","_law_spec_here","_law_number_here","_law_wrong","_law_k","_law_one","_law_place","_law_handed","_law_good","_law_kept","_law_turned","_law_odd"] AH (BA zP):=HA
structure Tx(K:Frag)(mg:Bx->Option AY):Prop where
 A:A09 K=A0N
 B: (yM K).all id=true
 C:P8 K=T4
 D:yL K=zo Cu
 I:P7 K=T3
 X:P5 K=T1
 S:P6 K=T2
 g:∀x v,nsIn K AT x=some v->mg x=v
section
variable{K:Frag}{mg:Bx->Option AY}(T:Tx K mg)
include T
theorem Tx.W5:nsIn K AT "len"=some none:=AR (AU T.A 0)
theorem Tx.wz:nsIn K AT "range"=some none:=AR (AU T.A 1)
theorem Tx.cL:nsIn K AT "isinstance"=some none:=AR (AU T.A 2)
theorem Tx.W4:nsIn K AT "max"=some none:=AR (AU T.A 3)
theorem Tx.W3:nsIn K AT "min"=some none:=AR (AU T.A 4)
theorem Tx.V9:nsIn K AT "sum"=some none:=AR (AU T.A 5)
theorem Tx.W7:nsIn K AT "all"=some none:=AR (AU T.A 6)
theorem Tx.W2:nsIn K AT "ord"=some none:=AR (AU T.A 7)
theorem Tx.rQ:nsIn K AT "sorted"=some none:=AR (AU T.A 8)
theorem Tx.gv:nsIn K AT "enumerate"=some none:=AR (AU T.A 9)
theorem Tx.W6:nsIn K AT "int"=some none:=AR (AU T.A 10)
theorem Tx.B1:nsIn K AT "bool"=some none:=AR (AU T.A 11)
theorem Tx.B0:nsIn K AT "list"=some none:=AR (AU T.A 12)
theorem Tx.wy:nsIn K AT "tuple"=some none:=AR (AU T.A 13)
theorem Tx.W0:nsIn K AT "str"=some none:=AR (AU T.A 14)
theorem Tx.W1:nsIn K AT "set"=some none:=AR (AU T.A 15)
theorem Tx.cM:nsIn K AT "ValueError"=some none:=AR (AU T.A 16)
theorem Tx.lb:nsIn K AT "is_whole"=some (some (.ref 196)):=AR (AU T.A 17)
theorem Tx.lh:nsIn K AT "is_among"=some (some (.ref 203)):=AR (AU T.A 18)
theorem Tx.eT:nsIn K AT "is_made_of"=some (some (.ref 208)):=AR (AU T.A 19)
theorem Tx.qj:nsIn K AT "is_name"=some (some (.ref 215)):=AR (AU T.A 20)
theorem Tx.qi:nsIn K AT "is_sign"=some (some (.ref 222)):=AR (AU T.A 21)
theorem Tx.aD:nsIn K AT "own_default"=some (some (.ref 618)):=AR (AU T.A 22)
theorem Tx.eQ:nsIn K AT "own_fields"=some (some (.ref 645)):=AR (AU T.A 23)
theorem Tx.aC:nsIn K AT "own_numbers"=some (some (.ref 650)):=AR (AU T.A 24)
theorem Tx.eW:nsIn K AT "are_unlike"=some (some (.ref 738)):=AR (AU T.A 25)
theorem Tx.eS:nsIn K AT "is_of_size"=some (some (.ref 745)):=AR (AU T.A 26)
theorem Tx.Rb:nsIn K AT "are_named_fields"=some (some (.ref 750)):=AR (AU T.A 27)
theorem Tx.XA:nsIn K AT "are_numbered"=some (some (.ref 755)):=AR (AU T.A 28)
theorem Tx.We:nsIn K AT "is_thing_kind"=some (some (.ref 762)):=AR (AU T.A 29)
theorem Tx.qk:nsIn K AT "is_kind"=some (some (.ref 769)):=AR (AU T.A 30)
theorem Tx.lg:nsIn K AT "is_blank"=some (some (.ref 776)):=AR (AU T.A 31)
theorem Tx.eU:nsIn K AT "is_default"=some (some (.ref 783)):=AR (AU T.A 32)
theorem Tx.Xz:nsIn K AT "field_weight"=some (some (.ref 790)):=AR (AU T.A 33)
theorem Tx.aE:nsIn K AT "form_weight"=some (some (.ref 795)):=AR (AU T.A 34)
theorem Tx.li:nsIn K AT "fault_of"=some (some (.ref 800)):=AR (AU T.A 35)
theorem Tx.eR:nsIn K AT "need_forms"=some (some (.ref 807)):=AR (AU T.A 36)
theorem Tx.tF:nsIn K AT "weight"=some (some (.ref 849)):=AR (AU T.A 37)
theorem Tx.tG:nsIn K AT "_law_number"=some (some (.ref 856)):=AR (AU T.A 38)
theorem Tx.xK:nsIn K AT "_law_mixed"=some (some (.ref 863)):=AR (AU T.A 39)
theorem Tx.xJ:nsIn K AT "_law_names"=some (some (.ref 868)):=AR (AU T.A 40)
theorem Tx.xI:nsIn K AT "_law_plain"=some (some (.ref 875)):=AR (AU T.A 41)
theorem Tx.L1:nsIn K AT "_law_kind"=some (some (.ref 882)):=AR (AU T.A 42)
theorem Tx.xO:nsIn K AT "_law_blank"=some (some (.ref 889)):=AR (AU T.A 43)
theorem Tx.ql:nsIn K AT "_law_default"=some (some (.ref 896)):=AR (AU T.A 44)
theorem Tx.xN:nsIn K AT "_law_field"=some (some (.ref 903)):=AR (AU T.A 45)
theorem Tx.L0:nsIn K AT "_law_load"=some (some (.ref 910)):=AR (AU T.A 46)
theorem Tx.la:nsIn K AT "_law_weight"=some (some (.ref 915)):=AR (AU T.A 47)
theorem Tx.K5:nsIn K AT "_law_spec"=some (some (.ref 920)):=AR (AU T.A 48)
theorem Tx.iu:nsIn K AT "_law_kind_made"=some (some (.ref 927)):=AR (AU T.A 49)
theorem Tx.eV:nsIn K AT "_law_field_made"=some (some (.ref 934)):=AR (AU T.A 50)
theorem Tx.iw:nsIn K AT "_law_form_made"=some (some (.ref 939)):=AR (AU T.A 51)
theorem Tx.xP:nsIn K AT "_law_alone"=some (some (.ref 951)):=AR (AU T.A 52)
theorem Tx.xH:nsIn K AT "_law_short"=some (some (.ref 958)):=AR (AU T.A 53)
theorem Tx.L3:nsIn K AT "_law_free"=some (some (.ref 963)):=AR (AU T.A 54)
theorem Tx.lj:nsIn K AT "_law_bad_kind"=some (some (.ref 970)):=AR (AU T.A 55)
theorem Tx.aF:nsIn K AT "_law_bad_default"=some (some (.ref 977)):=AR (AU T.A 56)
theorem Tx.K8:nsIn K AT "_law_more"=some (some (.ref 982)):=AR (AU T.A 57)
theorem Tx.K6:nsIn K AT "_law_said"=some (some (.ref 989)):=AR (AU T.A 58)
theorem Tx.xM:nsIn K AT "_law_first"=some (some (.ref 994)):=AR (AU T.A 59)
theorem Tx.xL:nsIn K AT "_law_heavy"=some (some (.ref 999)):=AR (AU T.A 60)
theorem Tx.X0:nsIn K AT "law"=some (some (.ref 1004)):=AR (AU T.A 61)
theorem Tx.hQ:nsIn K AT "FormError"=some (some (.ref 31)):=AR (AU T.A 62)
theorem Tx.hU:nsIn K AT "BadNumber"=some (some (.ref 44)):=AR (AU T.A 63)
theorem Tx.sF:nsIn K AT "BadRow"=some (some (.ref 56)):=AR (AU T.A 64)
theorem Tx.kE:nsIn K AT "BadCheck"=some (some (.ref 68)):=AR (AU T.A 65)
theorem Tx.wU:nsIn K AT "NoKey"=some (some (.ref 80)):=AR (AU T.A 66)
theorem Tx.dL:nsIn K AT "BadVersion"=some (some (.ref 92)):=AR (AU T.A 67)
theorem Tx.pX:nsIn K AT "BadBook"=some (some (.ref 111)):=AR (AU T.A 68)
theorem Tx.kD:nsIn K AT "BadValue"=some (some (.ref 130)):=AR (AU T.A 69)
theorem Tx.pW:nsIn K AT "BadText"=some (some (.ref 149)):=AR (AU T.A 70)
theorem Tx.pV:nsIn K AT "BadWire"=some (some (.ref 168)):=AR (AU T.A 71)
theorem Tx.sC:nsIn K AT "NotKin"=some (some (.ref 187)):=AR (AU T.A 72)
theorem Tx.E1:nsIn K AT "Kind"=some (some (.ref 281)):=AR (AU T.A 73)
theorem Tx.wT:nsIn K AT "Truth"=some (some (.ref 323)):=AR (AU T.A 74)
theorem Tx.wW:nsIn K AT "Count"=some (some (.ref 356)):=AR (AU T.A 75)
theorem Tx.wS:nsIn K AT "Whole"=some (some (.ref 389)):=AR (AU T.A 76)
theorem Tx.D7:nsIn K AT "Upto"=some (some (.ref 443)):=AR (AU T.A 77)
theorem Tx.D8:nsIn K AT "Text"=some (some (.ref 496)):=AR (AU T.A 78)
theorem Tx.D9:nsIn K AT "List"=some (some (.ref 555)):=AR (AU T.A 79)
theorem Tx.sD:nsIn K AT "Nested"=some (some (.ref 609)):=AR (AU T.A 80)
theorem Tx.wV:nsIn K AT "Field"=some (some (.ref 636)):=AR (AU T.A 81)
theorem Tx.E7:nsIn K AT "Form"=some (some (.ref 696)):=AR (AU T.A 82)
theorem Tx.sB:nsIn K AT "Record"=some (some (.ref 710)):=AR (AU T.A 83)
theorem Tx.sE:nsIn K AT "Choice"=some (some (.ref 729)):=AR (AU T.A 84)
theorem Tx.E8:nsIn K AT "Book"=some (some (.ref 838)):=AR (AU T.A 85)
theorem Tx.ik:Bl K (.ref 281) "__init__"=some (some (.builtin "object.__init__")):=AR (AU T.A 86)
theorem Tx.ey:Bl K (.ref 281) "blank"=some (some (.ref 278)):=AR (AU T.A 87)
theorem Tx.B9:Bl K (.ref 281) "__setattr__"=some (some (.builtin "object.__setattr__")):=AR (AU T.A 88)
theorem Tx.K0:Bl K (.ref 281) "__class__"=some (some (.builtin "object.__class__")):=AR (AU T.A 89)
theorem Tx.J3:Ei K 281 Db=true:=Bn (f:=id) 0 T.B rfl
theorem Tx.G9:Dx K 281=true:=Bn (f:=id) 1 T.B rfl
theorem Tx.D4:DL K 281=true:=Bn (f:=id) 2 T.B rfl
theorem Tx.C7:Hr K 281 (.type "object")=some true:=AR (AU T.C 0)
theorem Tx.Dv:Bl K (.ref 323) "__init__"=some (some (.builtin "object.__init__")):=AR (AU T.A 90)
theorem Tx.Up:Bl K (.ref 323) "is_plain"=some (some (.ref 250)):=AR (AU T.A 91)
theorem Tx.aj:Bl K (.ref 323) "suits"=some (some (.ref 313)):=AR (AU T.A 92)
theorem Tx.ak:Bl K (.ref 323) "blank"=some (some (.ref 320)):=AR (AU T.A 93)
theorem Tx.wG:Bl K (.ref 323) "__setattr__"=some (some (.builtin "object.__setattr__")):=AR (AU T.A 94)
theorem Tx.xy:Bl K (.ref 323) "__class__"=some (some (.builtin "object.__class__")):=AR (AU T.A 95)
theorem Tx.xr:Ei K 323 Db=true:=Bn (f:=id) 3 T.B rfl
theorem Tx.xn:Dx K 323=true:=Bn (f:=id) 4 T.B rfl
theorem Tx.wP:DL K 323=true:=Bn (f:=id) 5 T.B rfl
theorem Tx.wL:Hr K 323 (.type "object")=some true:=AR (AU T.C 1)
theorem Tx.IV:Bl K (.ref 356) "__init__"=some (some (.builtin "object.__init__")):=AR (AU T.A 96)
theorem Tx.Uq:Bl K (.ref 356) "is_plain"=some (some (.ref 250)):=AR (AU T.A 97)
theorem Tx.ao:Bl K (.ref 356) "suits"=some (some (.ref 346)):=AR (AU T.A 98)
theorem Tx.aq:Bl K (.ref 356) "blank"=some (some (.ref 353)):=AR (AU T.A 99)
theorem Tx.wI:Bl K (.ref 356) "__setattr__"=some (some (.builtin "object.__setattr__")):=AR (AU T.A 100)
theorem Tx.xA:Bl K (.ref 356) "__class__"=some (some (.builtin "object.__class__")):=AR (AU T.A 101)
theorem Tx.xu:Ei K 356 Db=true:=Bn (f:=id) 6 T.B rfl
theorem Tx.xp:Dx K 356=true:=Bn (f:=id) 7 T.B rfl
theorem Tx.wR:DL K 356=true:=Bn (f:=id) 8 T.B rfl
theorem Tx.wN:Hr K 356 (.type "object")=some true:=AR (AU T.C 2)
theorem Tx.Sa:Bl K (.ref 389) "__init__"=some (some (.builtin "object.__init__")):=AR (AU T.A 102)
theorem Tx.Uo:Bl K (.ref 389) "is_plain"=some (some (.ref 250)):=AR (AU T.A 103)
theorem Tx.ag:Bl K (.ref 389) "suits"=some (some (.ref 379)):=AR (AU T.A 104)
theorem Tx.ai:Bl K (.ref 389) "blank"=some (some (.ref 386)):=AR (AU T.A 105)
theorem Tx.wF:Bl K (.ref 389) "__setattr__"=some (some (.builtin "object.__setattr__")):=AR (AU T.A 106)
theorem Tx.xw:Bl K (.ref 389) "__class__"=some (some (.builtin "object.__class__")):=AR (AU T.A 107)
theorem Tx.xq:Ei K 389 Db=true:=Bn (f:=id) 9 T.B rfl
theorem Tx.xm:Dx K 389=true:=Bn (f:=id) 10 T.B rfl
theorem Tx.wO:DL K 389=true:=Bn (f:=id) 11 T.B rfl
theorem Tx.wJ:Hr K 389 (.type "object")=some true:=AR (AU T.C 3)
theorem Tx.IE:Bl K (.ref 443) "__init__"=some (some (.ref 405)):=AR (AU T.A 108)
theorem Tx.VZ:Bl K (.ref 443) "is_plain"=some (some (.ref 250)):=AR (AU T.A 109)
theorem Tx.eh:Bl K (.ref 443) "suits"=some (some (.ref 433)):=AR (AU T.A 110)
theorem Tx.en:Bl K (.ref 443) "blank"=some (some (.ref 440)):=AR (AU T.A 111)
theorem Tx.NG:Bl K (.ref 443) "most"=some none:=AR (AU T.A 112)
theorem Tx.B2:Bl K (.ref 443) "__setattr__"=some (some (.builtin "object.__setattr__")):=AR (AU T.A 113)
theorem Tx.J6:Bl K (.ref 443) "__class__"=some (some (.builtin "object.__class__")):=AR (AU T.A 114)
theorem Tx.J0:Ei K 443 Db=true:=Bn (f:=id) 12 T.B rfl
theorem Tx.F8:Dx K 443=true:=Bn (f:=id) 13 T.B rfl
theorem Tx.C9:DL K 443=true:=Bn (f:=id) 14 T.B rfl
theorem Tx.C4:Hr K 443 (.type "object")=some true:=AR (AU T.C 4)
theorem Tx.FS:Bl K (.ref 496) "__init__"=some (some (.ref 460)):=AR (AU T.A 115)
theorem Tx.Wa:Bl K (.ref 496) "is_plain"=some (some (.ref 250)):=AR (AU T.A 116)
theorem Tx.eo:Bl K (.ref 496) "suits"=some (some (.ref 486)):=AR (AU T.A 117)
theorem Tx.er:Bl K (.ref 496) "blank"=some (some (.ref 493)):=AR (AU T.A 118)
theorem Tx.NH:Bl K (.ref 496) "most"=some none:=AR (AU T.A 119)
theorem Tx.B7:Bl K (.ref 496) "__setattr__"=some (some (.builtin "object.__setattr__")):=AR (AU T.A 120)
theorem Tx.J7:Bl K (.ref 496) "__class__"=some (some (.builtin "object.__class__")):=AR (AU T.A 121)
theorem Tx.J1:Ei K 496 Db=true:=Bn (f:=id) 15 T.B rfl
theorem Tx.F9:Dx K 496=true:=Bn (f:=id) 16 T.B rfl
theorem Tx.D0:DL K 496=true:=Bn (f:=id) 17 T.B rfl
theorem Tx.C5:Hr K 496 (.type "object")=some true:=AR (AU T.C 5)
theorem Tx.IF:Bl K (.ref 555) "__init__"=some (some (.ref 512)):=AR (AU T.A 122)
theorem Tx.Wb:Bl K (.ref 555) "is_plain"=some (some (.ref 533)):=AR (AU T.A 123)
theorem Tx.eu:Bl K (.ref 555) "suits"=some (some (.ref 545)):=AR (AU T.A 124)
theorem Tx.ew:Bl K (.ref 555) "blank"=some (some (.ref 552)):=AR (AU T.A 125)
theorem Tx.NI:Bl K (.ref 555) "item"=some none:=AR (AU T.A 126)
theorem Tx.B8:Bl K (.ref 555) "__setattr__"=some (some (.builtin "object.__setattr__")):=AR (AU T.A 127)
theorem Tx.J9:Bl K (.ref 555) "__class__"=some (some (.builtin "object.__class__")):=AR (AU T.A 128)
theorem Tx.J2:Ei K 555 Db=true:=Bn (f:=id) 18 T.B rfl
theorem Tx.G8:Dx K 555=true:=Bn (f:=id) 19 T.B rfl
theorem Tx.D3:DL K 555=true:=Bn (f:=id) 20 T.B rfl
theorem Tx.C6:Hr K 555 (.type "object")=some true:=AR (AU T.C 6)
theorem Tx.Hg:Bl K (.ref 609) "__init__"=some (some (.ref 571)):=AR (AU T.A 129)
theorem Tx.Sc:Bl K (.ref 609) "is_plain"=some (some (.ref 592)):=AR (AU T.A 130)
theorem Tx.Xn:Bl K (.ref 609) "suits"=some (some (.ref 606)):=AR (AU T.A 131)
theorem Tx.Xo:Bl K (.ref 609) "blank"=some (some (.ref 278)):=AR (AU T.A 132)
theorem Tx.Jx:Bl K (.ref 609) "name"=some none:=AR (AU T.A 133)
theorem Tx.rY:Bl K (.ref 609) "__setattr__"=some (some (.builtin "object.__setattr__")):=AR (AU T.A 134)
theorem Tx.tm:Bl K (.ref 609) "__class__"=some (some (.builtin "object.__class__")):=AR (AU T.A 135)
theorem Tx.sR:Ei K 609 Db=true:=Bn (f:=id) 21 T.B rfl
theorem Tx.sO:Dx K 609=true:=Bn (f:=id) 22 T.B rfl
theorem Tx.ss:DL K 609=true:=Bn (f:=id) 23 T.B rfl
theorem Tx.si:Hr K 609 (.type "object")=some true:=AR (AU T.C 7)
theorem Tx.DN:Bl K (.ref 636) "__init__"=some (some (.ref 633)):=AR (AU T.A 136)
theorem Tx.IS:Bl K (.ref 636) "number"=some none:=AR (AU T.A 137)
theorem Tx.Ka:Bl K (.ref 636) "name"=some none:=AR (AU T.A 138)
theorem Tx.FQ:Bl K (.ref 636) "kind"=some none:=AR (AU T.A 139)
theorem Tx.IT:Bl K (.ref 636) "must"=some none:=AR (AU T.A 140)
theorem Tx.Iw:Bl K (.ref 636) "default"=some none:=AR (AU T.A 141)
theorem Tx.wH:Bl K (.ref 636) "__setattr__"=some (some (.builtin "object.__setattr__")):=AR (AU T.A 142)
theorem Tx.xz:Bl K (.ref 636) "__class__"=some (some (.builtin "object.__class__")):=AR (AU T.A 143)
theorem Tx.xt:Ei K 636 Db=true:=Bn (f:=id) 24 T.B rfl
theorem Tx.xo:Dx K 636=true:=Bn (f:=id) 25 T.B rfl
theorem Tx.wQ:DL K 636=true:=Bn (f:=id) 26 T.B rfl
theorem Tx.wM:Hr K 636 (.type "object")=some true:=AR (AU T.C 8)
theorem Tx.il:Bl K (.ref 696) "__init__"=some (some (.ref 665)):=AR (AU T.A 144)
theorem Tx.hI:Bl K (.ref 696) "name"=some none:=AR (AU T.A 145)
theorem Tx.ZI:Bl K (.ref 696) "fields"=some none:=AR (AU T.A 146)
theorem Tx.hJ:Bl K (.ref 696) "gone"=some none:=AR (AU T.A 147)
theorem Tx.C2:Bl K (.ref 696) "__setattr__"=some (some (.builtin "object.__setattr__")):=AR (AU T.A 148)
theorem Tx.K1:Bl K (.ref 696) "__class__"=some (some (.builtin "object.__class__")):=AR (AU T.A 149)
theorem Tx.J4:Ei K 696 Db=true:=Bn (f:=id) 27 T.B rfl
theorem Tx.H0:Dx K 696=true:=Bn (f:=id) 28 T.B rfl
theorem Tx.D5:DL K 696=true:=Bn (f:=id) 29 T.B rfl
theorem Tx.C8:Hr K 696 (.type "object")=some true:=AR (AU T.C 9)
theorem Tx.GZ:Bl K (.ref 710) "__init__"=some (some (.ref 665)):=AR (AU T.A 150)
theorem Tx.QW:Bl K (.ref 710) "is_choice"=some (some (.ref 672)):=AR (AU T.A 151)
theorem Tx.ZG:Bl K (.ref 710) "name"=some none:=AR (AU T.A 152)
theorem Tx.VT:Bl K (.ref 710) "fields"=some none:=AR (AU T.A 153)
theorem Tx.ZH:Bl K (.ref 710) "gone"=some none:=AR (AU T.A 154)
theorem Tx.rX:Bl K (.ref 710) "__setattr__"=some (some (.builtin "object.__setattr__")):=AR (AU T.A 155)
theorem Tx.tj:Bl K (.ref 710) "__class__"=some (some (.builtin "object.__class__")):=AR (AU T.A 156)
theorem Tx.sQ:Ei K 710 Db=true:=Bn (f:=id) 30 T.B rfl
theorem Tx.sN:Dx K 710=true:=Bn (f:=id) 31 T.B rfl
theorem Tx.sk:DL K 710=true:=Bn (f:=id) 32 T.B rfl
theorem Tx.sh:Hr K 710 (.type "object")=some true:=AR (AU T.C 10)
theorem Tx.Jy:Bl K (.ref 729) "__init__"=some (some (.ref 665)):=AR (AU T.A 157)
theorem Tx.QX:Bl K (.ref 729) "is_choice"=some (some (.ref 726)):=AR (AU T.A 158)
theorem Tx.ZJ:Bl K (.ref 729) "name"=some none:=AR (AU T.A 159)
theorem Tx.VU:Bl K (.ref 729) "fields"=some none:=AR (AU T.A 160)
theorem Tx.ZK:Bl K (.ref 729) "gone"=some none:=AR (AU T.A 161)
theorem Tx.rZ:Bl K (.ref 729) "__setattr__"=some (some (.builtin "object.__setattr__")):=AR (AU T.A 162)
theorem Tx.tr:Bl K (.ref 729) "__class__"=some (some (.builtin "object.__class__")):=AR (AU T.A 163)
theorem Tx.sU:Ei K 729 Db=true:=Bn (f:=id) 33 T.B rfl
theorem Tx.sP:Dx K 729=true:=Bn (f:=id) 34 T.B rfl
theorem Tx.su:DL K 729=true:=Bn (f:=id) 35 T.B rfl
theorem Tx.sj:Hr K 729 (.type "object")=some true:=AR (AU T.C 11)
theorem Tx.Vg:Bl K (.ref 838) "__init__"=some (some (.ref 821)):=AR (AU T.A 164)
theorem Tx.im:Bl K (.ref 838) "head"=some (some (.ref 835)):=AR (AU T.A 165)
theorem Tx.Mp:Bl K (.ref 838) "forms"=some none:=AR (AU T.A 166)
theorem Tx.NJ:Bl K (.ref 838) "weights"=some none:=AR (AU T.A 167)
theorem Tx.C3:Bl K (.ref 838) "__setattr__"=some (some (.builtin "object.__setattr__")):=AR (AU T.A 168)
theorem Tx.J5:Ei K 838 Db=true:=Bn (f:=id) 36 T.B rfl
theorem Tx.I0:Dx K 838=true:=Bn (f:=id) 37 T.B rfl
theorem Tx.D6:DL K 838=true:=Bn (f:=id) 38 T.B rfl
theorem Tx.og:specialIn K (.builtin "object.__class__") "__get__"=some (some (.builtin "getset_descriptor.__get__")):=AR (AU T.A 170)
theorem Tx.ot:takesIn K (.builtin "object.__class__")=some true:=AR (AU T.C 13)
theorem Tx.bq:exmOne K (.ref 111) (.ref 31)=some true:=AR (AU T.C 14)
theorem Tx.kS:Dx K 111=true:=Bn (f:=id) 39 T.B rfl
theorem Tx.kQ:Bl K (.ref 111) "__getattribute__"=some (some (.builtin "BaseException.__getattribute__")):=AR (AU T.A 171)
theorem Tx.kP:Bl K (.ref 111) "__getattr__"=some none:=AR (AU T.A 172)
theorem Tx.kO:Bl K (.ref 111) "__class__"=some (some (.builtin "object.__class__")):=AR (AU T.A 173)
theorem Tx.kN:Hr K 111 (.type "object")=some true:=AR (AU T.C 15)
theorem Tx.kM:Hr K 111 (.type "BaseException")=some true:=AR (AU T.C 16)
theorem Tx.dJ:Bl K (.ref 111) "place"=some none:=AR (AU T.A 174)
theorem Tx.sw:Bl K (.ref 111) "why"=some none:=AR (AU T.A 175)
theorem Tx.qe:HL.xv K 111=HL.xx 111 31 108:=AR (AU T.X 0)
theorem Tx.kU:Bq K (.ref 111)=true:=Bn (f:=id) 40 T.B rfl
theorem Tx.kT:Bl K (.ref 111) "__setattr__"=some (some (.builtin "object.__setattr__")):=AR (AU T.A 176)
theorem Tx.w1:excIn K 31 pJ "ValueError.__new__"=true:=Bn (f:=id) 41 T.B rfl
theorem Tx.w2:Hr K 31 (.type "ValueError")=some true:=AR (AU T.C 17)
theorem Tx.w3:specialIn K (.ref 31) "__getattribute__"=some (some (.builtin "type.__getattribute__")):=AR (AU T.A 177)
theorem Tx.w4:readsIn K 31 (.type "type")=true:=Bn (f:=id) 42 T.B rfl
theorem Tx.w5:HL.fcB K 31 "__init__" "ValueError.__init__"=true:=Bn (f:=id) 43 T.B rfl
theorem Tx.wZ:EU K 281=true:=Bn (f:=id) 44 T.B rfl
theorem Tx.wX:Bq K (.ref 281)=true:=Bn (f:=id) 45 T.B rfl
theorem Tx.Fb:EU K 323=true:=Bn (f:=id) 46 T.B rfl
theorem Tx.Fa:Bq K (.ref 323)=true:=Bn (f:=id) 47 T.B rfl
theorem Tx.NL:EU K 356=true:=Bn (f:=id) 48 T.B rfl
theorem Tx.NK:Bq K (.ref 356)=true:=Bn (f:=id) 49 T.B rfl
theorem Tx.hY:EU K 389=true:=Bn (f:=id) 50 T.B rfl
theorem Tx.hV:Bq K (.ref 389)=true:=Bn (f:=id) 51 T.B rfl
theorem Tx.OZ:EU K 443=true:=Bn (f:=id) 52 T.B rfl
theorem Tx.OW:Bq K (.ref 443)=true:=Bn (f:=id) 53 T.B rfl
theorem Tx.Kc:EU K 496=true:=Bn (f:=id) 54 T.B rfl
theorem Tx.Kb:Bq K (.ref 496)=true:=Bn (f:=id) 55 T.B rfl
theorem Tx.Pa:EU K 555=true:=Bn (f:=id) 56 T.B rfl
theorem Tx.OX:Bq K (.ref 555)=true:=Bn (f:=id) 57 T.B rfl
theorem Tx.Ko:EU K 609=true:=Bn (f:=id) 58 T.B rfl
theorem Tx.Km:Bq K (.ref 609)=true:=Bn (f:=id) 59 T.B rfl
theorem Tx.FA:EU K 636=true:=Bn (f:=id) 60 T.B rfl
theorem Tx.Fy:Bq K (.ref 636)=true:=Bn (f:=id) 61 T.B rfl
theorem Tx.xa:EU K 696=true:=Bn (f:=id) 62 T.B rfl
theorem Tx.wY:Bq K (.ref 696)=true:=Bn (f:=id) 63 T.B rfl
theorem Tx.Kn:EU K 710=true:=Bn (f:=id) 64 T.B rfl
theorem Tx.Kl:Bq K (.ref 710)=true:=Bn (f:=id) 65 T.B rfl
theorem Tx.Pb:EU K 729=true:=Bn (f:=id) 66 T.B rfl
theorem Tx.OY:Bq K (.ref 729)=true:=Bn (f:=id) 67 T.B rfl
theorem Tx.mZ:EU K 838=true:=Bn (f:=id) 68 T.B rfl
theorem Tx.mY:Bq K (.ref 838)=true:=Bn (f:=id) 69 T.B rfl
theorem Tx.Xk:Bq K (.ref 108)=true:=Bn (f:=id) 70 T.B rfl
theorem Tx.Xm:isFn K (.ref 108)=true:=Bn (f:=id) 71 T.B rfl
theorem Tx.Mt:Bq K (.ref 196)=true:=Bn (f:=id) 72 T.B rfl
theorem Tx.Ga:Bq K (.ref 203)=true:=Bn (f:=id) 73 T.B rfl
theorem Tx.RP:Bq K (.ref 208)=true:=Bn (f:=id) 74 T.B rfl
theorem Tx.LP:Bq K (.ref 215)=true:=Bn (f:=id) 75 T.B rfl
theorem Tx.br:Bq K (.ref 222)=true:=Bn (f:=id) 76 T.B rfl
theorem Tx.FO:Bq K (.ref 250)=true:=Bn (f:=id) 77 T.B rfl
theorem Tx.GO:isFn K (.ref 250)=true:=Bn (f:=id) 78 T.B rfl
theorem Tx.Mw:Bq K (.ref 278)=true:=Bn (f:=id) 79 T.B rfl
theorem Tx.RZ:isFn K (.ref 278)=true:=Bn (f:=id) 80 T.B rfl
theorem Tx.PQ:Bq K (.ref 313)=true:=Bn (f:=id) 81 T.B rfl
theorem Tx.aa:isFn K (.ref 313)=true:=Bn (f:=id) 82 T.B rfl
theorem Tx.PR:Bq K (.ref 320)=true:=Bn (f:=id) 83 T.B rfl
theorem Tx.ac:isFn K (.ref 320)=true:=Bn (f:=id) 84 T.B rfl
theorem Tx.PU:Bq K (.ref 346)=true:=Bn (f:=id) 85 T.B rfl
theorem Tx.ae:isFn K (.ref 346)=true:=Bn (f:=id) 86 T.B rfl
theorem Tx.PV:Bq K (.ref 353)=true:=Bn (f:=id) 87 T.B rfl
theorem Tx.af:isFn K (.ref 353)=true:=Bn (f:=id) 88 T.B rfl
theorem Tx.PN:Bq K (.ref 379)=true:=Bn (f:=id) 89 T.B rfl
theorem Tx.ZY:isFn K (.ref 379)=true:=Bn (f:=id) 90 T.B rfl
theorem Tx.PP:Bq K (.ref 386)=true:=Bn (f:=id) 91 T.B rfl
theorem Tx.ZZ:isFn K (.ref 386)=true:=Bn (f:=id) 92 T.B rfl
theorem Tx.ie:Bq K (.ref 405)=true:=Bn (f:=id) 93 T.B rfl
theorem Tx.IB:isFn K (.ref 405)=true:=Bn (f:=id) 94 T.B rfl
theorem Tx.RS:Bq K (.ref 433)=true:=Bn (f:=id) 95 T.B rfl
theorem Tx.dX:isFn K (.ref 433)=true:=Bn (f:=id) 96 T.B rfl
theorem Tx.RT:Bq K (.ref 440)=true:=Bn (f:=id) 97 T.B rfl
theorem Tx.dY:isFn K (.ref 440)=true:=Bn (f:=id) 98 T.B rfl
theorem Tx.FR:isFn K (.ref 460)=true:=Bn (f:=id) 100 T.B rfl
theorem Tx.RU:Bq K (.ref 486)=true:=Bn (f:=id) 101 T.B rfl
theorem Tx.dZ:isFn K (.ref 486)=true:=Bn (f:=id) 102 T.B rfl
theorem Tx.RV:Bq K (.ref 493)=true:=Bn (f:=id) 103 T.B rfl
theorem Tx.ec:isFn K (.ref 493)=true:=Bn (f:=id) 104 T.B rfl
theorem Tx.ig:Bq K (.ref 512)=true:=Bn (f:=id) 105 T.B rfl
theorem Tx.ID:isFn K (.ref 512)=true:=Bn (f:=id) 106 T.B rfl
theorem Tx.Nc:Bq K (.ref 533)=true:=Bn (f:=id) 107 T.B rfl
theorem Tx.VY:isFn K (.ref 533)=true:=Bn (f:=id) 108 T.B rfl
theorem Tx.RW:Bq K (.ref 545)=true:=Bn (f:=id) 109 T.B rfl
theorem Tx.ee:isFn K (.ref 545)=true:=Bn (f:=id) 110 T.B rfl
theorem Tx.RX:Bq K (.ref 552)=true:=Bn (f:=id) 111 T.B rfl
theorem Tx.eg:isFn K (.ref 552)=true:=Bn (f:=id) 112 T.B rfl
theorem Tx.ZW:Bq K (.ref 571)=true:=Bn (f:=id) 113 T.B rfl
theorem Tx.GY:isFn K (.ref 571)=true:=Bn (f:=id) 114 T.B rfl
theorem Tx.Lc:Bq K (.ref 592)=true:=Bn (f:=id) 115 T.B rfl
theorem Tx.RY:isFn K (.ref 592)=true:=Bn (f:=id) 116 T.B rfl
theorem Tx.NP:Bq K (.ref 606)=true:=Bn (f:=id) 117 T.B rfl
theorem Tx.Xl:isFn K (.ref 606)=true:=Bn (f:=id) 118 T.B rfl
theorem Tx.PL:Bq K (.ref 618)=true:=Bn (f:=id) 119 T.B rfl
theorem Tx.DM:isFn K (.ref 633)=true:=Bn (f:=id) 121 T.B rfl
theorem Tx.RM:Bq K (.ref 645)=true:=Bn (f:=id) 122 T.B rfl
theorem Tx.PH:Bq K (.ref 650)=true:=Bn (f:=id) 123 T.B rfl
theorem Tx.Fd:isFn K (.ref 665)=true:=Bn (f:=id) 125 T.B rfl
theorem Tx.LQ:Bq K (.ref 672)=true:=Bn (f:=id) 126 T.B rfl
theorem Tx.Um:isFn K (.ref 672)=true:=Bn (f:=id) 127 T.B rfl
theorem Tx.Kz:Bq K (.ref 726)=true:=Bn (f:=id) 128 T.B rfl
theorem Tx.QV:isFn K (.ref 726)=true:=Bn (f:=id) 129 T.B rfl
theorem Tx.Mv:Bq K (.ref 738)=true:=Bn (f:=id) 130 T.B rfl
theorem Tx.RO:Bq K (.ref 745)=true:=Bn (f:=id) 131 T.B rfl
theorem Tx.Ky:Bq K (.ref 750)=true:=Bn (f:=id) 132 T.B rfl
theorem Tx.NO:Bq K (.ref 755)=true:=Bn (f:=id) 133 T.B rfl
theorem Tx.JO:Bq K (.ref 762)=true:=Bn (f:=id) 134 T.B rfl
theorem Tx.bu:Bq K (.ref 769)=true:=Bn (f:=id) 135 T.B rfl
theorem Tx.Xh:Bq K (.ref 776)=true:=Bn (f:=id) 136 T.B rfl
theorem Tx.RQ:Bq K (.ref 783)=true:=Bn (f:=id) 137 T.B rfl
theorem Tx.Kw:Bq K (.ref 790)=true:=Bn (f:=id) 138 T.B rfl
theorem Tx.Lv:Bq K (.ref 795)=true:=Bn (f:=id) 139 T.B rfl
theorem Tx.Xi:Bq K (.ref 800)=true:=Bn (f:=id) 140 T.B rfl
theorem Tx.RN:Bq K (.ref 807)=true:=Bn (f:=id) 141 T.B rfl
theorem Tx.ii:Bq K (.ref 821)=true:=Bn (f:=id) 142 T.B rfl
theorem Tx.Vf:isFn K (.ref 821)=true:=Bn (f:=id) 143 T.B rfl
theorem Tx.Ve:Bq K (.ref 835)=true:=Bn (f:=id) 144 T.B rfl
theorem Tx.ij:isFn K (.ref 835)=true:=Bn (f:=id) 145 T.B rfl
theorem Tx.ic:Bq K (.ref 849)=true:=Bn (f:=id) 146 T.B rfl
theorem Tx.Kv:Bq K (.ref 856)=true:=Bn (f:=id) 147 T.B rfl
theorem Tx.dV:Bq K (.ref 863)=true:=Bn (f:=id) 148 T.B rfl
theorem Tx.Wu:Bq K (.ref 868)=true:=Bn (f:=id) 149 T.B rfl
theorem Tx.nj:Bq K (.ref 875)=true:=Bn (f:=id) 150 T.B rfl
theorem Tx.sM:Bq K (.ref 882)=true:=Bn (f:=id) 151 T.B rfl
theorem Tx.dW:Bq K (.ref 889)=true:=Bn (f:=id) 152 T.B rfl
theorem Tx.bz:Bq K (.ref 896)=true:=Bn (f:=id) 153 T.B rfl
theorem Tx.nr:Bq K (.ref 903)=true:=Bn (f:=id) 154 T.B rfl
theorem Tx.kL:Bq K (.ref 910)=true:=Bn (f:=id) 155 T.B rfl
theorem Tx.Xg:Bq K (.ref 915)=true:=Bn (f:=id) 156 T.B rfl
theorem Tx.sK:Bq K (.ref 920)=true:=Bn (f:=id) 157 T.B rfl
theorem Tx.NN:Bq K (.ref 927)=true:=Bn (f:=id) 158 T.B rfl
theorem Tx.Mu:Bq K (.ref 934)=true:=Bn (f:=id) 159 T.B rfl
theorem Tx.Vd:Bq K (.ref 939)=true:=Bn (f:=id) 160 T.B rfl
theorem Tx.nt:Bq K (.ref 951)=true:=Bn (f:=id) 161 T.B rfl
theorem Tx.ni:Bq K (.ref 958)=true:=Bn (f:=id) 162 T.B rfl
theorem Tx.QU:Bq K (.ref 963)=true:=Bn (f:=id) 163 T.B rfl
theorem Tx.Xj:Bq K (.ref 970)=true:=Bn (f:=id) 164 T.B rfl
theorem Tx.PM:Bq K (.ref 977)=true:=Bn (f:=id) 165 T.B rfl
theorem Tx.sL:Bq K (.ref 982)=true:=Bn (f:=id) 166 T.B rfl
theorem Tx.QT:Bq K (.ref 989)=true:=Bn (f:=id) 167 T.B rfl
theorem Tx.nq:Bq K (.ref 994)=true:=Bn (f:=id) 168 T.B rfl
theorem Tx.nk:Bq K (.ref 999)=true:=Bn (f:=id) 169 T.B rfl
theorem Tx.W9:Bq K (.ref 1004)=true:=Bn (f:=id) 170 T.B rfl
theorem Tx.A1u:nsIn K AT "__builtins__"=some (some (.ref 4)):=AR (AU T.A 178)
theorem Tx.hdc:hdB K 644 642=true:=Bn (f:=id) 171 T.B rfl
theorem Tx.hbm:rP K 4=true:=Bn (f:=id) 172 T.B rfl
theorem Tx.VJ:Bd K (.type "NoneType") (.type "bool")=some false:=AR (AU T.C 18)
theorem Tx.WT:Bd K (.type "NoneType") (.type "int")=some false:=AR (AU T.C 19)
theorem Tx.WS:Bd K (.type "NoneType") (.type "str")=some false:=AR (AU T.C 20)
theorem Tx.Na:Bd K (.type "NoneType") (.type "list")=some false:=AR (AU T.C 21)
theorem Tx.Ua:Bd K (.type "NoneType") (.type "tuple")=some false:=AR (AU T.C 22)
theorem Tx.gH:Bd K (.type "bool") (.type "bool")=some true:=AR (AU T.C 23)
theorem Tx.kC:Bd K (.type "bool") (.type "int")=some true:=AR (AU T.C 24)
theorem Tx.Vb:Bd K (.type "bool") (.type "list")=some false:=AR (AU T.C 26)
theorem Tx.WP:Bd K (.type "int") (.type "list")=some false:=AR (AU T.C 31)
theorem Tx.pU:Bd K (.type "str") (.type "str")=some true:=AR (AU T.C 35)
theorem Tx.WO:Bd K (.type "str") (.type "list")=some false:=AR (AU T.C 36)
theorem Tx.cX:Bd K (.type "tuple") (.type "list")=some false:=AR (AU T.C 41)
theorem Tx.HE:Bd K (.type "list") (.type "list")=some true:=AR (AU T.C 46)
theorem Tx.Mn:Bd K (.type "list") (.type "tuple")=some false:=AR (AU T.C 47)
theorem Tx.Va:Bd K (.type "dict") (.type "list")=some false:=AR (AU T.C 51)
theorem Tx.VO:Bd K (.type "NoneType") (.ref 281)=some false:=AR (AU T.C 53)
theorem Tx.Uc:Bd K (.type "NoneType") (.ref 323)=some false:=AR (AU T.C 54)
theorem Tx.Ue:Bd K (.type "NoneType") (.ref 356)=some false:=AR (AU T.C 55)
theorem Tx.Ub:Bd K (.type "NoneType") (.ref 389)=some false:=AR (AU T.C 56)
theorem Tx.VL:Bd K (.type "NoneType") (.ref 443)=some false:=AR (AU T.C 57)
theorem Tx.VM:Bd K (.type "NoneType") (.ref 496)=some false:=AR (AU T.C 58)
theorem Tx.VN:Bd K (.type "NoneType") (.ref 555)=some false:=AR (AU T.C 59)
theorem Tx.RB:Bd K (.type "NoneType") (.ref 609)=some false:=AR (AU T.C 60)
theorem Tx.Ud:Bd K (.type "NoneType") (.ref 636)=some false:=AR (AU T.C 61)
theorem Tx.kB:Bd K (.type "str") (.ref 281)=some false:=AR (AU T.C 62)
theorem Tx.gE:Bd K (.type "str") (.ref 323)=some false:=AR (AU T.C 63)
theorem Tx.gG:Bd K (.type "str") (.ref 356)=some false:=AR (AU T.C 64)
theorem Tx.gD:Bd K (.type "str") (.ref 389)=some false:=AR (AU T.C 65)
theorem Tx.kx:Bd K (.type "str") (.ref 443)=some false:=AR (AU T.C 66)
theorem Tx.ky:Bd K (.type "str") (.ref 496)=some false:=AR (AU T.C 67)
theorem Tx.kA:Bd K (.type "str") (.ref 555)=some false:=AR (AU T.C 68)
theorem Tx.cZ:Bd K (.type "str") (.ref 609)=some false:=AR (AU T.C 69)
theorem Tx.gF:Bd K (.type "str") (.ref 636)=some false:=AR (AU T.C 70)
theorem Tx.RA:Bd K (.type "NoneType") (.ref 710)=some false:=AR (AU T.C 71)
theorem Tx.RC:Bd K (.type "NoneType") (.ref 729)=some false:=AR (AU T.C 72)
theorem Tx.cY:Bd K (.type "str") (.ref 710)=some false:=AR (AU T.C 73)
theorem Tx.da:Bd K (.type "str") (.ref 729)=some false:=AR (AU T.C 74)
theorem Tx.db:Bd K (.type "int") (.ref 710)=some false:=AR (AU T.C 75)
theorem Tx.dc:Bd K (.type "int") (.ref 729)=some false:=AR (AU T.C 76)
theorem Tx.Zi:Bd K (.type "list") (.ref 710)=some false:=AR (AU T.C 77)
theorem Tx.Zj:Bd K (.type "list") (.ref 729)=some false:=AR (AU T.C 78)
theorem Tx.Zk:Bd K (.type "dict") (.ref 710)=some false:=AR (AU T.C 79)
theorem Tx.Zl:Bd K (.type "dict") (.ref 729)=some false:=AR (AU T.C 80)
theorem Tx.gY:Bd K (.ref 281) (.ref 281)=some true:=AR (AU T.C 81)
theorem Tx.dD:Bd K (.ref 281) (.ref 323)=some false:=AR (AU T.C 82)
theorem Tx.dE:Bd K (.ref 281) (.ref 356)=some false:=AR (AU T.C 83)
theorem Tx.dC:Bd K (.ref 281) (.ref 389)=some false:=AR (AU T.C 84)
theorem Tx.gU:Bd K (.ref 281) (.ref 443)=some false:=AR (AU T.C 85)
theorem Tx.gW:Bd K (.ref 281) (.ref 496)=some false:=AR (AU T.C 86)
theorem Tx.gX:Bd K (.ref 281) (.ref 555)=some false:=AR (AU T.C 87)
theorem Tx.Zz:Bd K (.ref 281) (.ref 609)=some false:=AR (AU T.C 88)
theorem Tx.dt:Bd K (.ref 323) (.ref 281)=some true:=AR (AU T.C 89)
theorem Tx.Zr:Bd K (.ref 323) (.ref 323)=some true:=AR (AU T.C 90)
theorem Tx.Zs:Bd K (.ref 323) (.ref 356)=some false:=AR (AU T.C 91)
theorem Tx.Zq:Bd K (.ref 323) (.ref 389)=some false:=AR (AU T.C 92)
theorem Tx.dn:Bd K (.ref 323) (.ref 443)=some false:=AR (AU T.C 93)
theorem Tx.dq:Bd K (.ref 323) (.ref 496)=some false:=AR (AU T.C 94)
theorem Tx.dr:Bd K (.ref 323) (.ref 555)=some false:=AR (AU T.C 95)
theorem Tx.WR:Bd K (.ref 323) (.ref 609)=some false:=AR (AU T.C 96)
theorem Tx.dI:Bd K (.ref 356) (.ref 281)=some true:=AR (AU T.C 97)
theorem Tx.ZE:Bd K (.ref 356) (.ref 323)=some false:=AR (AU T.C 98)
theorem Tx.ZF:Bd K (.ref 356) (.ref 356)=some true:=AR (AU T.C 99)
theorem Tx.ZD:Bd K (.ref 356) (.ref 389)=some false:=AR (AU T.C 100)
theorem Tx.dF:Bd K (.ref 356) (.ref 443)=some false:=AR (AU T.C 101)
theorem Tx.dG:Bd K (.ref 356) (.ref 496)=some false:=AR (AU T.C 102)
theorem Tx.dH:Bd K (.ref 356) (.ref 555)=some false:=AR (AU T.C 103)
theorem Tx.WX:Bd K (.ref 356) (.ref 609)=some false:=AR (AU T.C 104)
theorem Tx.dh:Bd K (.ref 389) (.ref 281)=some true:=AR (AU T.C 105)
theorem Tx.Zn:Bd K (.ref 389) (.ref 323)=some false:=AR (AU T.C 106)
theorem Tx.Zo:Bd K (.ref 389) (.ref 356)=some false:=AR (AU T.C 107)
theorem Tx.Zm:Bd K (.ref 389) (.ref 389)=some true:=AR (AU T.C 108)
theorem Tx.de:Bd K (.ref 389) (.ref 443)=some false:=AR (AU T.C 109)
theorem Tx.df:Bd K (.ref 389) (.ref 496)=some false:=AR (AU T.C 110)
theorem Tx.dg:Bd K (.ref 389) (.ref 555)=some false:=AR (AU T.C 111)
theorem Tx.WQ:Bd K (.ref 389) (.ref 609)=some false:=AR (AU T.C 112)
theorem Tx.gL:Bd K (.ref 443) (.ref 281)=some true:=AR (AU T.C 113)
theorem Tx.dj:Bd K (.ref 443) (.ref 323)=some false:=AR (AU T.C 114)
theorem Tx.dm:Bd K (.ref 443) (.ref 356)=some false:=AR (AU T.C 115)
theorem Tx.di:Bd K (.ref 443) (.ref 389)=some false:=AR (AU T.C 116)
theorem Tx.gI:Bd K (.ref 443) (.ref 443)=some true:=AR (AU T.C 117)
theorem Tx.gJ:Bd K (.ref 443) (.ref 496)=some false:=AR (AU T.C 118)
theorem Tx.gK:Bd K (.ref 443) (.ref 555)=some false:=AR (AU T.C 119)
theorem Tx.Zp:Bd K (.ref 443) (.ref 609)=some false:=AR (AU T.C 120)
theorem Tx.gP:Bd K (.ref 496) (.ref 281)=some true:=AR (AU T.C 121)
theorem Tx.dw:Bd K (.ref 496) (.ref 323)=some false:=AR (AU T.C 122)
theorem Tx.dy:Bd K (.ref 496) (.ref 356)=some false:=AR (AU T.C 123)
theorem Tx.du:Bd K (.ref 496) (.ref 389)=some false:=AR (AU T.C 124)
theorem Tx.gM:Bd K (.ref 496) (.ref 443)=some false:=AR (AU T.C 125)
theorem Tx.gN:Bd K (.ref 496) (.ref 496)=some true:=AR (AU T.C 126)
theorem Tx.gO:Bd K (.ref 496) (.ref 555)=some false:=AR (AU T.C 127)
theorem Tx.Zt:Bd K (.ref 496) (.ref 609)=some false:=AR (AU T.C 128)
theorem Tx.gT:Bd K (.ref 555) (.ref 281)=some true:=AR (AU T.C 129)
theorem Tx.dA:Bd K (.ref 555) (.ref 323)=some false:=AR (AU T.C 130)
theorem Tx.dB:Bd K (.ref 555) (.ref 356)=some false:=AR (AU T.C 131)
theorem Tx.dz:Bd K (.ref 555) (.ref 389)=some false:=AR (AU T.C 132)
theorem Tx.gQ:Bd K (.ref 555) (.ref 443)=some false:=AR (AU T.C 133)
theorem Tx.gR:Bd K (.ref 555) (.ref 496)=some false:=AR (AU T.C 134)
theorem Tx.gS:Bd K (.ref 555) (.ref 555)=some true:=AR (AU T.C 135)
theorem Tx.Zy:Bd K (.ref 555) (.ref 609)=some false:=AR (AU T.C 136)
theorem Tx.Zx:Bd K (.ref 609) (.ref 281)=some true:=AR (AU T.C 137)
theorem Tx.WV:Bd K (.ref 609) (.ref 323)=some false:=AR (AU T.C 138)
theorem Tx.WW:Bd K (.ref 609) (.ref 356)=some false:=AR (AU T.C 139)
theorem Tx.WU:Bd K (.ref 609) (.ref 389)=some false:=AR (AU T.C 140)
theorem Tx.Zu:Bd K (.ref 609) (.ref 443)=some false:=AR (AU T.C 141)
theorem Tx.Zv:Bd K (.ref 609) (.ref 496)=some false:=AR (AU T.C 142)
theorem Tx.Zw:Bd K (.ref 609) (.ref 555)=some false:=AR (AU T.C 143)
theorem Tx.VP:Bd K (.ref 609) (.ref 609)=some true:=AR (AU T.C 144)
theorem Tx.ZA:Bd K (.ref 696) (.ref 710)=some false:=AR (AU T.C 145)
theorem Tx.ZB:Bd K (.ref 696) (.ref 729)=some false:=AR (AU T.C 146)
theorem Tx.VH:Bd K (.ref 710) (.ref 710)=some true:=AR (AU T.C 147)
theorem Tx.VI:Bd K (.ref 710) (.ref 729)=some false:=AR (AU T.C 148)
theorem Tx.VQ:Bd K (.ref 729) (.ref 710)=some false:=AR (AU T.C 149)
theorem Tx.VR:Bd K (.ref 729) (.ref 729)=some true:=AR (AU T.C 150)
theorem Tx.ZC:Bd K (.ref 636) (.ref 636)=some true:=AR (AU T.C 151)
theorem Tx.Ps:Bd K (.ref 111) (.ref 44)=some false:=AR (AU T.C 152)
theorem Tx.Ug:Bd K (.ref 111) (.ref 56)=some false:=AR (AU T.C 153)
theorem Tx.RF:Bd K (.ref 111) (.ref 111)=some true:=AR (AU T.C 154)
theorem Tx.QO:Bd K (.ref 111) (.ref 130)=some false:=AR (AU T.C 155)
theorem Tx.RE:Bd K (.ref 111) (.ref 149)=some false:=AR (AU T.C 156)
theorem Tx.RD:Bd K (.ref 111) (.ref 168)=some false:=AR (AU T.C 157)
theorem Tx.QP:Bd K (.ref 111) (.ref 68)=some false:=AR (AU T.C 158)
theorem Tx.Uf:Bd K (.ref 111) (.ref 187)=some false:=AR (AU T.C 159)
theorem Tx.VS:Bd K (.ref 111) (.ref 80)=some false:=AR (AU T.C 160)
theorem Tx.NF:Bd K (.ref 111) (.ref 92)=some false:=AR (AU T.C 161)
theorem Tx.gZ:Bd K (.ref 111) (.type "ValueError")=some true:=AR (AU T.C 162)
theorem Tx.NV:L2.GL K "__init__" "BadBook.__init__" Om 108 (Br K 108):=Cw (AR (AU T.D 0)) T.Xk
theorem Tx.Xr:L2.GL K "is_whole" "is_whole" Yi 196 (Br K 196):=Cw (AR (AU T.D 1)) T.Mt
theorem Tx.Xu:L2.GL K "is_among" "is_among" Yk 203 (Br K 203):=Cw (AR (AU T.D 2)) T.Ga
theorem Tx.Sg:L2.GL K "is_made_of" "is_made_of" SR 208 (Br K 208):=Cw (AR (AU T.D 3)) T.RP
theorem Tx.bB:L2.GL K "is_name" "is_name" bO 215 (Br K 215):=Cw (AR (AU T.D 4)) T.LP
theorem Tx.bA:L2.GL K "is_sign" "is_sign" bN 222 (Br K 222):=Cw (AR (AU T.D 5)) T.br
theorem Tx.Ng:L2.GL K "is_plain" "Kind.is_plain" Nn 250 (Br K 250):=Cw (AR (AU T.D 6)) T.FO
theorem Tx.Ss:L2.GL K "blank" "Kind.blank" Tc 278 (Br K 278):=Cw (AR (AU T.D 7)) T.Mw
theorem Tx.Qd:L2.GL K "suits" "Truth.suits" Qv 313 (Br K 313):=Cw (AR (AU T.D 8)) T.PQ
theorem Tx.Qe:L2.GL K "blank" "Truth.blank" Qw 320 (Br K 320):=Cw (AR (AU T.D 9)) T.PR
theorem Tx.Qg:L2.GL K "suits" "Count.suits" Qy 346 (Br K 346):=Cw (AR (AU T.D 10)) T.PU
theorem Tx.Qh:L2.GL K "blank" "Count.blank" Qz 353 (Br K 353):=Cw (AR (AU T.D 11)) T.PV
theorem Tx.Qb:L2.GL K "suits" "Whole.suits" Qt 379 (Br K 379):=Cw (AR (AU T.D 12)) T.PN
theorem Tx.Qc:L2.GL K "blank" "Whole.blank" Qu 386 (Br K 386):=Cw (AR (AU T.D 13)) T.PP
theorem Tx.Vj:L2.GL K "__init__" "Upto.__init__" Vt 405 (Br K 405):=Cw (AR (AU T.D 14)) T.ie
theorem Tx.Sj:L2.GL K "suits" "Upto.suits" SW 433 (Br K 433):=Cw (AR (AU T.D 15)) T.RS
theorem Tx.Sk:L2.GL K "blank" "Upto.blank" SX 440 (Br K 440):=Cw (AR (AU T.D 16)) T.RT
theorem Tx.NQ:fv K 460=fx "__init__" "Text.__init__" Vu (.ref 453):=AR (AU T.D 17)
theorem Tx.Sl:L2.GL K "suits" "Text.suits" SY 486 (Br K 486):=Cw (AR (AU T.D 18)) T.RU
theorem Tx.So:L2.GL K "blank" "Text.blank" SZ 493 (Br K 493):=Cw (AR (AU T.D 19)) T.RV
theorem Tx.Vk:L2.GL K "__init__" "List.__init__" Vv 512 (Br K 512):=Cw (AR (AU T.D 20)) T.ig
theorem Tx.Nf:L2.GL K "is_plain" "List.is_plain" Nm 533 (Br K 533):=Cw (AR (AU T.D 21)) T.Nc
theorem Tx.Sq:L2.GL K "suits" "List.suits" Ta 545 (Br K 545):=Cw (AR (AU T.D 22)) T.RW
theorem Tx.Sr:L2.GL K "blank" "List.blank" Tb 552 (Br K 552):=Cw (AR (AU T.D 23)) T.RX
theorem Tx.Qf:L2.GL K "__init__" "Nested.__init__" Qx 571 (Br K 571):=Cw (AR (AU T.D 24)) T.ZW
theorem Tx.Ld:L2.GL K "is_plain" "Nested.is_plain" Lh 592 (Br K 592):=Cw (AR (AU T.D 25)) T.Lc
theorem Tx.NU:L2.GL K "suits" "Nested.suits" Ol 606 (Br K 606):=Cw (AR (AU T.D 26)) T.NP
theorem Tx.PY:L2.GL K "own_default" "own_default" Qq 618 (Br K 618):=Cw (AR (AU T.D 27)) T.PL
theorem Tx.Kd:fv K 633=fx "__init__" "Field.__init__" Td (.ref 626):=AR (AU T.D 28)
theorem Tx.ez:fv K 645=fx "own_fields" "own_fields" MH .none:=AR (AU T.D 29)
theorem Tx.eA:L2.GL K "own_fields" "own_fields" MH 645 (Br K 645):=Cw (AR (AU T.D 29)) T.RM
theorem Tx.PX:L2.GL K "own_numbers" "own_numbers" Qp 650 (Br K 650):=Cw (AR (AU T.D 30)) T.PH
theorem Tx.NR:fv K 665=fx "__init__" "Form.__init__" Vw (.ref 658):=AR (AU T.D 31)
theorem Tx.LR:L2.GL K "is_choice" "Form.is_choice" LX 672 (Br K 672):=Cw (AR (AU T.D 32)) T.LQ
theorem Tx.KB:L2.GL K "is_choice" "Choice.is_choice" KI 726 (Br K 726):=Cw (AR (AU T.D 33)) T.Kz
theorem Tx.Mx:L2.GL K "are_unlike" "are_unlike" SV 738 (Br K 738):=Cw (AR (AU T.D 34)) T.Mv
theorem Tx.Se:L2.GL K "is_of_size" "is_of_size" SQ 745 (Br K 745):=Cw (AR (AU T.D 35)) T.RO
theorem Tx.KA:L2.GL K "are_named_fields" "are_named_fields" KH 750 (Br K 750):=Cw (AR (AU T.D 36)) T.Ky
theorem Tx.NT:L2.GL K "are_numbered" "are_numbered" Oj 755 (Br K 755):=Cw (AR (AU T.D 37)) T.NO
theorem Tx.Nd:L2.GL K "is_thing_kind" "is_thing_kind" Nl 762 (Br K 762):=Cw (AR (AU T.D 38)) T.JO
theorem Tx.bC:L2.GL K "is_kind" "is_kind" bP 769 (Br K 769):=Cw (AR (AU T.D 39)) T.bu
theorem Tx.Xs:L2.GL K "is_blank" "is_blank" Yj 776 (Br K 776):=Cw (AR (AU T.D 40)) T.Xh
theorem Tx.Sh:L2.GL K "is_default" "is_default" SS 783 (Br K 783):=Cw (AR (AU T.D 41)) T.RQ
theorem Tx.NS:L2.GL K "field_weight" "field_weight" Oi 790 (Br K 790):=Cw (AR (AU T.D 42)) T.Kw
theorem Tx.PZ:L2.GL K "form_weight" "form_weight" Qr 795 (Br K 795):=Cw (AR (AU T.D 43)) T.Lv
theorem Tx.Xv:L2.GL K "fault_of" "fault_of" Yl 800 (Br K 800):=Cw (AR (AU T.D 44)) T.Xi
theorem Tx.Sd:L2.GL K "need_forms" "need_forms" SO 807 (Br K 807):=Cw (AR (AU T.D 45)) T.RN
theorem Tx.Vl:L2.GL K "__init__" "Book.__init__" Vx 821 (Br K 821):=Cw (AR (AU T.D 46)) T.ii
theorem Tx.Vm:L2.GL K "head" "Book.head" Vy 835 (Br K 835):=Cw (AR (AU T.D 47)) T.Ve
theorem Tx.io:L2.GL K "weight" "weight" iZ 849 (Br K 849):=Cw (AR (AU T.D 48)) T.ic
theorem Tx.ip:L2.GL K "_law_number" "_law_number" ja 856 (Br K 856):=Cw (AR (AU T.D 49)) T.Kv
theorem Tx.nD:L2.GL K "_law_mixed" "_law_mixed" oB 863 (Br K 863):=Cw (AR (AU T.D 50)) T.dV
theorem Tx.nC:L2.GL K "_law_names" "_law_names" oA 868 (Br K 868):=Cw (AR (AU T.D 51)) T.Wu
theorem Tx.nB:L2.GL K "_law_plain" "_law_plain" oz 875 (Br K 875):=Cw (AR (AU T.D 52)) T.nj
theorem Tx.sZ:L2.GL K "_law_kind" "_law_kind" uj 882 (Br K 882):=Cw (AR (AU T.D 53)) T.sM
theorem Tx.nH:L2.GL K "_law_blank" "_law_blank" oG 889 (Br K 889):=Cw (AR (AU T.D 54)) T.dW
theorem Tx.bD:L2.GL K "_law_default" "_law_default" bQ 896 (Br K 896):=Cw (AR (AU T.D 55)) T.bz
theorem Tx.nG:L2.GL K "_law_field" "_law_field" oF 903 (Br K 903):=Cw (AR (AU T.D 56)) T.nr
theorem Tx.sY:L2.GL K "_law_load" "_law_load" ui 910 (Br K 910):=Cw (AR (AU T.D 57)) T.kL
theorem Tx.Xq:L2.GL K "_law_weight" "_law_weight" Yh 915 (Br K 915):=Cw (AR (AU T.D 58)) T.Xg
theorem Tx.sV:L2.GL K "_law_spec" "_law_spec" uf 920 (Br K 920):=Cw (AR (AU T.D 59)) T.sK
theorem Tx.Vh:L2.GL K "_law_kind_made" "_law_kind_made" Vr 927 (Br K 927):=Cw (AR (AU T.D 60)) T.NN
theorem Tx.Si:L2.GL K "_law_field_made" "_law_field_made" SU 934 (Br K 934):=Cw (AR (AU T.D 61)) T.Mu
theorem Tx.Vi:L2.GL K "_law_form_made" "_law_form_made" Vs 939 (Br K 939):=Cw (AR (AU T.D 62)) T.Vd
theorem Tx.nI:L2.GL K "_law_alone" "_law_alone" oH 951 (Br K 951):=Cw (AR (AU T.D 63)) T.nt
theorem Tx.nz:L2.GL K "_law_short" "_law_short" oy 958 (Br K 958):=Cw (AR (AU T.D 64)) T.ni
theorem Tx.ti:L2.GL K "_law_free" "_law_free" uk 963 (Br K 963):=Cw (AR (AU T.D 65)) T.QU
theorem Tx.Xw:L2.GL K "_law_bad_kind" "_law_bad_kind" Ym 970 (Br K 970):=Cw (AR (AU T.D 66)) T.Xj
theorem Tx.Qa:L2.GL K "_law_bad_default" "_law_bad_default" Qs 977 (Br K 977):=Cw (AR (AU T.D 67)) T.PM
theorem Tx.sX:L2.GL K "_law_more" "_law_more" uh 982 (Br K 982):=Cw (AR (AU T.D 68)) T.sL
theorem Tx.sW:L2.GL K "_law_said" "_law_said" ug 989 (Br K 989):=Cw (AR (AU T.D 69)) T.QT
theorem Tx.nF:L2.GL K "_law_first" "_law_first" oE 994 (Br K 994):=Cw (AR (AU T.D 70)) T.nq
theorem Tx.nE:L2.GL K "_law_heavy" "_law_heavy" oC 999 (Br K 999):=Cw (AR (AU T.D 71)) T.nk
theorem Tx.zK:L2.GL K "law" "law" zP 1004 (Br K 1004):=Cw (AR (AU T.D 72)) T.W9
theorem Tx.WK:∃t,nsIn K AT "MOST_LETTERS"=some (some (.int 12 t)):=Je (AR (AU T.I 0))
theorem Tx.Zd:∃t,nsIn K AT "MOST_NUMBER"=some (some (.int 115792089237316195423570985008687907853269984665640564039457584007913129639935 t)):=Je (AR (AU T.I 1))
theorem Tx.cP:∃t,nsIn K AT "MOST_WHOLE"=some (some (.int 57896044618658097711785492504343953926634992332820282019728792003956564819967 t)):=Je (AR (AU T.I 2))
theorem Tx.cQ:∃t,nsIn K AT "MOST_SIGNS"=some (some (.int 100 t)):=Je (AR (AU T.I 3))
theorem Tx.Zc:∃t,nsIn K AT "MOST_THINGS"=some (some (.int 20 t)):=Je (AR (AU T.I 4))
theorem Tx.cS:∃t,nsIn K AT "LEAST_SIGN"=some (some (.int 32 t)):=Je (AR (AU T.I 5))
theorem Tx.gy:∃t,nsIn K AT "MOST_SIGN"=some (some (.int 126 t)):=Je (AR (AU T.I 6))
theorem Tx.WJ:∃t,nsIn K AT "PERCENT_SIGN"=some (some (.int 37 t)):=Je (AR (AU T.I 7))
theorem Tx.cR:∃t,nsIn K AT "MOST_FORMS"=some (some (.int 8 t)):=Je (AR (AU T.I 8))
theorem Tx.Ze:∃t,nsIn K AT "MOST_FIELDS"=some (some (.int 10 t)):=Je (AR (AU T.I 9))
theorem Tx.gA:∃t,nsIn K AT "MOST_GONE"=some (some (.int 10 t)):=Je (AR (AU T.I 10))
theorem Tx.Pq:∃t,nsIn K AT "MOST_FIELD_NUMBER"=some (some (.int 200 t)):=Je (AR (AU T.I 11))
theorem Tx.Zb:∃t,nsIn K AT "MOST_WEIGHT"=some (some (.int 100 t)):=Je (AR (AU T.I 12))
theorem Tx.ZX:fcd K 645=some 644:=AR (AU T.I 13)
theorem Tx.pO:∃t,nsIn K AT "LETTERS"=some (some (.str "abcdefghijklmnopqrstuvwxyz" t)):=N6 (AR (AU T.S 0))
theorem Tx.nw:iv ((KF K 453).map List.head?)=some 100:=AR (AU T.I 14)
theorem Tx.nu: (KF K 453).map (λl=>(l.length:Int))=some 1:=AR (AU T.I 15)
theorem Tx.Xp: (KF K 626).map wx=some 10:=AR (AU T.I 16)
theorem Tx.ny: (KF K 658).map wx=some 11:=AR (AU T.I 17)
omit T in
theorem A0G(h: (yM K).all id=true):hdB K 644 642=true:=Bn (f:=id) 171 h rfl
theorem Tx.KC:CC K (Br K 108) Ac []:=T.NV.binds (ps:=Ac) λ_ _ _ _ _ _ us a=>by obtain⟨_,_,_,rfl⟩:=bF a;rfl
theorem Tx.QR:mg "is_whole"=some (.ref 196):=T.g _ _ T.lb
theorem Tx.QY:CC K (Br K 196) Ad []:=T.Xr.binds (ps:=Ad) λ_ _ _ _ _ _ us a=>by obtain⟨_,rfl⟩:=FJ a;rfl
theorem Tx.GE:mg "is_among"=some (.ref 203):=T.g _ _ T.lh
theorem Tx.GG:CC K (Br K 203) Ae []:=T.Xu.binds (ps:=Ae) λ_ _ _ _ _ _ us a=>by obtain⟨_,_,_,rfl⟩:=bF a;rfl
theorem Tx.dS:mg "is_made_of"=some (.ref 208):=T.g _ _ T.eT
theorem Tx.eG:CC K (Br K 208) Af []:=T.Sg.binds (ps:=Af) λ_ _ _ _ _ _ us a=>by obtain⟨_,_,rfl⟩:=FB a;rfl
theorem Tx.Pc:mg "is_name"=some (.ref 215):=T.g _ _ T.qj
theorem Tx.Pe:CC K (Br K 215) Ad []:=T.bB.binds (ps:=Ad) λ_ _ _ _ _ _ us a=>by obtain⟨_,rfl⟩:=FJ a;rfl
theorem Tx.qb:mg "is_sign"=some (.ref 222):=T.g _ _ T.qi
theorem Tx.qf:CC K (Br K 222) ["number"] []:=T.bA.binds (ps:=["number"]) λ_ _ _ _ _ _ us a=>by obtain⟨_,rfl⟩:=FJ a;rfl
theorem Tx.GP:CC K (Br K 250) Ag []:=T.Ng.binds (ps:=Ag) λ_ _ _ _ _ _ us a=>by obtain⟨_,rfl⟩:=FJ a;rfl
theorem Tx.SA:CC K (Br K 278) Ag []:=T.Ss.binds (ps:=Ag) λ_ _ _ _ _ _ us a=>by obtain⟨_,rfl⟩:=FJ a;rfl
theorem Tx.ay:CC K (Br K 313) Ah []:=T.Qd.binds (ps:=Ah) λ_ _ _ _ _ _ us a=>by obtain⟨_,_,rfl⟩:=FB a;rfl
theorem Tx.az:CC K (Br K 320) Ag []:=T.Qe.binds (ps:=Ag) λ_ _ _ _ _ _ us a=>by obtain⟨_,rfl⟩:=FJ a;rfl
theorem Tx.aA:CC K (Br K 346) Ah []:=T.Qg.binds (ps:=Ah) λ_ _ _ _ _ _ us a=>by obtain⟨_,_,rfl⟩:=FB a;rfl
theorem Tx.aB:CC K (Br K 353) Ag []:=T.Qh.binds (ps:=Ag) λ_ _ _ _ _ _ us a=>by obtain⟨_,rfl⟩:=FJ a;rfl
theorem Tx.aw:CC K (Br K 379) Ah []:=T.Qb.binds (ps:=Ah) λ_ _ _ _ _ _ us a=>by obtain⟨_,_,rfl⟩:=FB a;rfl
theorem Tx.ax:CC K (Br K 386) Ag []:=T.Qc.binds (ps:=Ag) λ_ _ _ _ _ _ us a=>by obtain⟨_,rfl⟩:=FJ a;rfl
theorem Tx.IH:CC K (Br K 405) Ai []:=T.Vj.binds (ps:=Ai) λ_ _ _ _ _ _ us a=>by obtain⟨_,_,rfl⟩:=FB a;rfl
theorem Tx.eI:CC K (Br K 433) Ah []:=T.Sj.binds (ps:=Ah) λ_ _ _ _ _ _ us a=>by obtain⟨_,_,rfl⟩:=FB a;rfl
theorem Tx.eJ:CC K (Br K 440) Ag []:=T.Sk.binds (ps:=Ag) λ_ _ _ _ _ _ us a=>by obtain⟨_,rfl⟩:=FJ a;rfl
theorem Tx.eK:CC K (Br K 486) Ah []:=T.Sl.binds (ps:=Ah) λ_ _ _ _ _ _ us a=>by obtain⟨_,_,rfl⟩:=FB a;rfl
theorem Tx.eM:CC K (Br K 493) Ag []:=T.So.binds (ps:=Ag) λ_ _ _ _ _ _ us a=>by obtain⟨_,rfl⟩:=FJ a;rfl
theorem Tx.II:CC K (Br K 512) ["self","item"] []:=T.Vk.binds (ps:=["self","item"]) λ_ _ _ _ _ _ us a=>by obtain⟨_,_,rfl⟩:=FB a;rfl
theorem Tx.Wd:CC K (Br K 533) Ag []:=T.Nf.binds (ps:=Ag) λ_ _ _ _ _ _ us a=>by obtain⟨_,rfl⟩:=FJ a;rfl
theorem Tx.eO:CC K (Br K 545) Ah []:=T.Sq.binds (ps:=Ah) λ_ _ _ _ _ _ us a=>by obtain⟨_,_,rfl⟩:=FB a;rfl
theorem Tx.eP:CC K (Br K 552) Ag []:=T.Sr.binds (ps:=Ag) λ_ _ _ _ _ _ us a=>by obtain⟨_,rfl⟩:=FJ a;rfl
theorem Tx.Hh:CC K (Br K 571) ["self","name"] []:=T.Qf.binds (ps:=["self","name"]) λ_ _ _ _ _ _ us a=>by obtain⟨_,_,rfl⟩:=FB a;rfl
theorem Tx.Sz:CC K (Br K 592) Ag []:=T.Ld.binds (ps:=Ag) λ_ _ _ _ _ _ us a=>by obtain⟨_,rfl⟩:=FJ a;rfl
theorem Tx.Xy:CC K (Br K 606) Ah []:=T.NU.binds (ps:=Ah) λ_ _ _ _ _ _ us a=>by obtain⟨_,_,rfl⟩:=FB a;rfl
theorem Tx.ZU:mg "own_default"=some (.ref 618):=T.g _ _ T.aD
theorem Tx.au:CC K (Br K 618) Aj []:=T.PY.binds (ps:=Aj) λ_ _ _ _ _ _ us a=>by obtain⟨_,_,rfl⟩:=FB a;rfl
theorem Tx.dO:mg "own_fields"=some (.ref 645):=T.g _ _ T.eQ
theorem Tx.eC:CC K (Br K 645) Al []:=T.eA.binds (ps:=Al) λ_ _ _ _ _ _ us a=>by obtain⟨_,rfl⟩:=FJ a;rfl
theorem Tx.ZT:mg "own_numbers"=some (.ref 650):=T.g _ _ T.aC
theorem Tx.ar:CC K (Br K 650) ["numbers"] []:=T.PX.binds (ps:=["numbers"]) λ_ _ _ _ _ _ us a=>by obtain⟨_,rfl⟩:=FJ a;rfl
theorem Tx.Uv:CC K (Br K 672) Ag []:=T.LR.binds (ps:=Ag) λ_ _ _ _ _ _ us a=>by obtain⟨_,rfl⟩:=FJ a;rfl
theorem Tx.Ra:CC K (Br K 726) Ag []:=T.KB.binds (ps:=Ag) λ_ _ _ _ _ _ us a=>by obtain⟨_,rfl⟩:=FJ a;rfl
theorem Tx.RL:mg "are_unlike"=some (.ref 738):=T.g _ _ T.eW
theorem Tx.Sy:CC K (Br K 738) ["things"] []:=T.Mx.binds (ps:=["things"]) λ_ _ _ _ _ _ us a=>by obtain⟨_,rfl⟩:=FJ a;rfl
theorem Tx.dR:mg "is_of_size"=some (.ref 745):=T.g _ _ T.eS
theorem Tx.eF:CC K (Br K 745) ["form"] []:=T.Se.binds (ps:=["form"]) λ_ _ _ _ _ _ us a=>by obtain⟨_,rfl⟩:=FJ a;rfl
theorem Tx.QS:mg "are_named_fields"=some (.ref 750):=T.g _ _ T.Rb
theorem Tx.QZ:CC K (Br K 750) Al []:=T.KA.binds (ps:=Al) λ_ _ _ _ _ _ us a=>by obtain⟨_,rfl⟩:=FJ a;rfl
theorem Tx.Xf:mg "are_numbered"=some (.ref 755):=T.g _ _ T.XA
theorem Tx.Xx:CC K (Br K 755) ["form"] []:=T.NT.binds (ps:=["form"]) λ_ _ _ _ _ _ us a=>by obtain⟨_,rfl⟩:=FJ a;rfl
theorem Tx.Nb:mg "is_thing_kind"=some (.ref 762):=T.g _ _ T.We
theorem Tx.Nh:CC K (Br K 762) An []:=T.Nd.binds (ps:=An) λ_ _ _ _ _ _ us a=>by obtain⟨_,_,rfl⟩:=FB a;rfl
theorem Tx.qc:mg "is_kind"=some (.ref 769):=T.g _ _ T.qk
theorem Tx.qg:CC K (Br K 769) An []:=T.bC.binds (ps:=An) λ_ _ _ _ _ _ us a=>by obtain⟨_,_,rfl⟩:=FB a;rfl
theorem Tx.kI:mg "is_blank"=some (.ref 776):=T.g _ _ T.lg
theorem Tx.kX:CC K (Br K 776) Aj []:=T.Xs.binds (ps:=Aj) λ_ _ _ _ _ _ us a=>by obtain⟨_,_,rfl⟩:=FB a;rfl
theorem Tx.dU:mg "is_default"=some (.ref 783):=T.g _ _ T.eU
theorem Tx.eH:CC K (Br K 783) Ao []:=T.Sh.binds (ps:=Ao) λ_ _ _ _ _ _ us a=>by obtain⟨_,_,rfl⟩:=FB a;rfl
theorem Tx.NM:mg "field_weight"=some (.ref 790):=T.g _ _ T.Xz
theorem Tx.NW:CC K (Br K 790) Ap []:=T.NS.binds (ps:=Ap) λ_ _ _ _ _ _ us a=>by obtain⟨_,_,rfl⟩:=FB a;rfl
theorem Tx.PF:mg "form_weight"=some (.ref 795):=T.g _ _ T.aE
theorem Tx.Qi:CC K (Br K 795) Aq []:=T.PZ.binds (ps:=Aq) λ_ _ _ _ _ _ us a=>by obtain⟨_,_,rfl⟩:=FB a;rfl
theorem Tx.kJ:mg "fault_of"=some (.ref 800):=T.g _ _ T.li
theorem Tx.kY:CC K (Br K 800) Aq []:=T.Xv.binds (ps:=Aq) λ_ _ _ _ _ _ us a=>by obtain⟨_,_,rfl⟩:=FB a;rfl
theorem Tx.dP:mg "need_forms"=some (.ref 807):=T.g _ _ T.eR
theorem Tx.eD:CC K (Br K 807) ["forms"] []:=T.Sd.binds (ps:=["forms"]) λ_ _ _ _ _ _ us a=>by obtain⟨_,rfl⟩:=FJ a;rfl
theorem Tx.Vo:CC K (Br K 821) Ar []:=T.Vl.binds (ps:=Ar) λ_ _ _ _ _ _ us a=>by obtain⟨_,_,rfl⟩:=FB a;rfl
theorem Tx.ir:CC K (Br K 835) Ag []:=T.Vm.binds (ps:=Ag) λ_ _ _ _ _ _ us a=>by obtain⟨_,rfl⟩:=FJ a;rfl
theorem Tx.sI:mg "weight"=some (.ref 849):=T.g _ _ T.tF
theorem Tx.tz:CC K (Br K 849) As []:=T.io.binds (ps:=As) λ_ _ _ _ _ _ us a=>by obtain⟨_,_,rfl⟩:=FB a;rfl
theorem Tx.LO:mg "_law_number"=some (.ref 856):=T.g _ _ T.tG
theorem Tx.LS:CC K (Br K 856) At []:=T.ip.binds (ps:=At) λ_ _ _ _ _ _ us a=>by obtain⟨_,_,rfl⟩:=FB a;rfl
theorem Tx.ng:mg "_law_mixed"=some (.ref 863):=T.g _ _ T.xK
theorem Tx.nL:CC K (Br K 863) Au []:=T.nD.binds (ps:=Au) λ_ _ _ _ _ _ us a=>by obtain⟨_,_,rfl⟩:=FB a;rfl
theorem Tx.dQ:mg "_law_names"=some (.ref 868):=T.g _ _ T.xJ
theorem Tx.eE:CC K (Br K 868) Av []:=T.nC.binds (ps:=Av) λ_ _ _ _ _ _ us a=>by obtain⟨_,_,rfl⟩:=FB a;rfl
theorem Tx.xh:mg "_law_plain"=some (.ref 875):=T.g _ _ T.xI
theorem Tx.xC:CC K (Br K 875) Aw []:=T.nB.binds (ps:=Aw) λ_ _ _ _ _ _ us a=>by obtain⟨_,rfl⟩:=FJ a;rfl
theorem Tx.F7:mg "_law_kind"=some (.ref 882):=T.g _ _ T.L1
theorem Tx.K4:CC K (Br K 882) Ax []:=T.sZ.binds (ps:=Ax) λ_ _ _ _ _ _ us a=>by obtain⟨_,_,rfl⟩:=FB a;rfl
theorem Tx.nh:mg "_law_blank"=some (.ref 889):=T.g _ _ T.xO
theorem Tx.nM:CC K (Br K 889) Ay []:=T.nH.binds (ps:=Ay) λ_ _ _ _ _ _ us a=>by obtain⟨_,rfl⟩:=FJ a;rfl
theorem Tx.qd:mg "_law_default"=some (.ref 896):=T.g _ _ T.ql
theorem Tx.qh:CC K (Br K 896) Az []:=T.bD.binds (ps:=Az) λ_ _ _ _ _ _ us a=>by obtain⟨_,_,rfl⟩:=FB a;rfl
theorem Tx.xk:mg "_law_field"=some (.ref 903):=T.g _ _ T.xN
theorem Tx.xF:CC K (Br K 903) AA []:=T.nG.binds (ps:=AA) λ_ _ _ _ _ _ us a=>by obtain⟨_,_,_,_,_,_,rfl⟩:=X4 a;rfl
theorem Tx.sJ:mg "_law_load"=some (.ref 910):=T.g _ _ T.L0
theorem Tx.tE:CC K (Br K 910) AB []:=T.sY.binds (ps:=AB) λ_ _ _ _ _ _ us a=>by obtain⟨_,_,rfl⟩:=FB a;rfl
theorem Tx.kH:mg "_law_weight"=some (.ref 915):=T.g _ _ T.la
theorem Tx.kW:CC K (Br K 915) AC []:=T.Xq.binds (ps:=AC) λ_ _ _ _ _ _ us a=>by obtain⟨_,_,rfl⟩:=FB a;rfl
theorem Tx.E9:mg "_law_spec"=some (.ref 920):=T.g _ _ T.K5
theorem Tx.K2:CC K (Br K 920) AD []:=T.sV.binds (ps:=AD) λ_ _ _ _ _ _ us a=>by obtain⟨_,_,_,rfl⟩:=bF a;rfl
theorem Tx.Vc:mg "_law_kind_made"=some (.ref 927):=T.g _ _ T.iu
theorem Tx.Vn:CC K (Br K 927) AE []:=T.Vh.binds (ps:=AE) λ_ _ _ _ _ _ us a=>by obtain⟨_,_,rfl⟩:=FB a;rfl
theorem Tx.RK:mg "_law_field_made"=some (.ref 934):=T.g _ _ T.eV
theorem Tx.Sx:CC K (Br K 934) AF []:=T.Si.binds (ps:=AF) λ_ _ _ _ _ _ us a=>by obtain⟨_,_,rfl⟩:=FB a;rfl
theorem Tx.ib:mg "_law_form_made"=some (.ref 939):=T.g _ _ T.iw
theorem Tx.iq:CC K (Br K 939) AG []:=T.Vi.binds (ps:=AG) λ_ _ _ _ _ _ us a=>by obtain⟨_,_,_,rfl⟩:=bF a;rfl
theorem Tx.xl:mg "_law_alone"=some (.ref 951):=T.g _ _ T.xP
theorem Tx.xG:CC K (Br K 951) ["_law_e"] []:=T.nI.binds (ps:=["_law_e"]) λ_ _ _ _ _ _ us a=>by obtain⟨_,rfl⟩:=FJ a;rfl
theorem Tx.xg:mg "_law_short"=some (.ref 958):=T.g _ _ T.xH
theorem Tx.xB:CC K (Br K 958) AH []:=T.nz.binds (ps:=AH) λ_ _ _ _ _ _ us a=>by obtain⟨_,rfl⟩:=FJ a;rfl
theorem Tx.Ul:mg "_law_free"=some (.ref 963):=T.g _ _ T.L3
theorem Tx.Uu:CC K (Br K 963) AI []:=T.ti.binds (ps:=AI) λ_ _ _ _ _ _ us a=>by obtain⟨_,_,rfl⟩:=FB a;rfl
theorem Tx.kK:mg "_law_bad_kind"=some (.ref 970):=T.g _ _ T.lj
theorem Tx.kZ:CC K (Br K 970) AJ []:=T.Xw.binds (ps:=AJ) λ_ _ _ _ _ _ us a=>by obtain⟨_,_,_,rfl⟩:=bF a;rfl
theorem Tx.ZV:mg "_law_bad_default"=some (.ref 977):=T.g _ _ T.aF
theorem Tx.av:CC K (Br K 977) AK []:=T.Qa.binds (ps:=AK) λ_ _ _ _ _ _ us a=>by obtain⟨_,_,_,rfl⟩:=bF a;rfl
theorem Tx.F3:mg "_law_more"=some (.ref 982):=T.g _ _ T.K8
theorem Tx.K3:CC K (Br K 982) AL []:=T.sX.binds (ps:=AL) λ_ _ _ _ _ _ us a=>by obtain⟨_,_,_,_,rfl⟩:=X5 a;rfl
theorem Tx.Uk:mg "_law_said"=some (.ref 989):=T.g _ _ T.K6
theorem Tx.Ut:CC K (Br K 989) ["_law_forms"] []:=T.sW.binds (ps:=["_law_forms"]) λ_ _ _ _ _ _ us a=>by obtain⟨_,rfl⟩:=FJ a;rfl
theorem Tx.xj:mg "_law_first"=some (.ref 994):=T.g _ _ T.xM
theorem Tx.xE:CC K (Br K 994) ["_law_wrong"] []:=T.nF.binds (ps:=["_law_wrong"]) λ_ _ _ _ _ _ us a=>by obtain⟨_,rfl⟩:=FJ a;rfl
theorem Tx.xi:mg "_law_heavy"=some (.ref 999):=T.g _ _ T.xL
theorem Tx.xD:CC K (Br K 999) Aw []:=T.nE.binds (ps:=Aw) λ_ _ _ _ _ _ us a=>by obtain⟨_,rfl⟩:=FJ a;rfl
theorem Tx.Hs:mg "len"=none:=T.g _ _ T.W5
theorem Tx.HP:mg "range"=none:=T.g _ _ T.wz
theorem Tx.Ch:mg "isinstance"=none:=T.g _ _ T.cL
theorem Tx.zI:mg "max"=none:=T.g _ _ T.W4
theorem Tx.mX:mg "min"=none:=T.g _ _ T.W3
theorem Tx.zF:mg "sum"=none:=T.g _ _ T.V9
theorem Tx.Rz:mg "all"=none:=T.g _ _ T.W7
theorem Tx.W8:mg "ord"=none:=T.g _ _ T.W2
theorem Tx.Ry:mg "sorted"=none:=T.g _ _ T.rQ
theorem Tx.gw:mg "enumerate"=none:=T.g _ _ T.gv
theorem Tx.zJ:mg "int"=none:=T.g _ _ T.W6
theorem Tx.ku:mg "bool"=none:=T.g _ _ T.B1
theorem Tx.Il:mg "list"=none:=T.g _ _ T.B0
theorem Tx.cN:mg "tuple"=none:=T.g _ _ T.wy
theorem Tx.zG:mg "str"=none:=T.g _ _ T.W0
theorem Tx.zH:mg "set"=none:=T.g _ _ T.W1
theorem Tx.cO:mg "ValueError"=none:=T.g _ _ T.cM
theorem Tx.WN:∃t,mg "MOST_LETTERS"=some (.int 12 t):=let ⟨t,e⟩:=T.WK;⟨t,T.g _ _ e⟩
theorem Tx.PD:∃t,mg "MOST_NUMBER"=some (.int 115792089237316195423570985008687907853269984665640564039457584007913129639935 t):=let ⟨t,e⟩:=T.Zd;⟨t,T.g _ _ e⟩
theorem Tx.cT:∃t,mg "MOST_WHOLE"=some (.int 57896044618658097711785492504343953926634992332820282019728792003956564819967 t):=let ⟨t,e⟩:=T.cP;⟨t,T.g _ _ e⟩
theorem Tx.cU:∃t,mg "MOST_SIGNS"=some (.int 100 t):=let ⟨t,e⟩:=T.cQ;⟨t,T.g _ _ e⟩
theorem Tx.Zg:∃t,mg "MOST_THINGS"=some (.int 20 t):=let ⟨t,e⟩:=T.Zc;⟨t,T.g _ _ e⟩
theorem Tx.cW:∃t,mg "LEAST_SIGN"=some (.int 32 t):=let ⟨t,e⟩:=T.cS;⟨t,T.g _ _ e⟩
theorem Tx.gB:∃t,mg "MOST_SIGN"=some (.int 126 t):=let ⟨t,e⟩:=T.gy;⟨t,T.g _ _ e⟩
theorem Tx.WM:∃t,mg "PERCENT_SIGN"=some (.int 37 t):=let ⟨t,e⟩:=T.WJ;⟨t,T.g _ _ e⟩
theorem Tx.cV:∃t,mg "MOST_FORMS"=some (.int 8 t):=let ⟨t,e⟩:=T.cR;⟨t,T.g _ _ e⟩
theorem Tx.Zh:∃t,mg "MOST_FIELDS"=some (.int 10 t):=let ⟨t,e⟩:=T.Ze;⟨t,T.g _ _ e⟩
theorem Tx.gC:∃t,mg "MOST_GONE"=some (.int 10 t):=let ⟨t,e⟩:=T.gA;⟨t,T.g _ _ e⟩
theorem Tx.Pr:∃t,mg "MOST_FIELD_NUMBER"=some (.int 200 t):=let ⟨t,e⟩:=T.Pq;⟨t,T.g _ _ e⟩
theorem Tx.Zf:∃t,mg "MOST_WEIGHT"=some (.int 100 t):=let ⟨t,e⟩:=T.Zb;⟨t,T.g _ _ e⟩
theorem Tx.pP:∃t,mg "LETTERS"=some (.str "abcdefghijklmnopqrstuvwxyz" t):=let ⟨t,e⟩:=T.pO;⟨t,T.g _ _ e⟩
theorem Tx.RJ:mg "FormError"=some (.ref 31):=T.g _ _ T.hQ
theorem Tx.dN:mg "BadNumber"=some (.ref 44):=T.g _ _ T.hU
theorem Tx.qa:mg "BadRow"=some (.ref 56):=T.g _ _ T.sF
theorem Tx.ia:mg "BadCheck"=some (.ref 68):=T.g _ _ T.kE
theorem Tx.sG:mg "NoKey"=some (.ref 80):=T.g _ _ T.wU
theorem Tx.ZS:mg "BadVersion"=some (.ref 92):=T.g _ _ T.dL
theorem Tx.Ms:mg "BadBook"=some (.ref 111):=T.g _ _ T.pX
theorem Tx.hZ:mg "BadValue"=some (.ref 130):=T.g _ _ T.kD
theorem Tx.kG:mg "BadText"=some (.ref 149):=T.g _ _ T.pW
theorem Tx.kF:mg "BadWire"=some (.ref 168):=T.g _ _ T.pV
theorem Tx.pY:mg "NotKin"=some (.ref 187):=T.g _ _ T.sC
theorem Tx.nc:mg "Kind"=some (.ref 281):=T.g _ _ T.E1
theorem Tx.EN:mg "Truth"=some (.ref 323):=T.g _ _ T.wT
theorem Tx.LM:mg "Count"=some (.ref 356):=T.g _ _ T.wW
theorem Tx.Xe:mg "Whole"=some (.ref 389):=T.g _ _ T.wS
theorem Tx.Mq:mg "Upto"=some (.ref 443):=T.g _ _ T.D7
theorem Tx.IU:mg "Text"=some (.ref 496):=T.g _ _ T.D8
theorem Tx.Mr:mg "List"=some (.ref 555):=T.g _ _ T.D9
theorem Tx.HQ:mg "Nested"=some (.ref 609):=T.g _ _ T.sD
theorem Tx.Fc:mg "Field"=some (.ref 636):=T.g _ _ T.wV
theorem Tx.xf:mg "Form"=some (.ref 696):=T.g _ _ T.E7
theorem Tx.Jt:mg "Record"=some (.ref 710):=T.g _ _ T.sB
theorem Tx.LN:mg "Choice"=some (.ref 729):=T.g _ _ T.sE
theorem Tx.nf:mg "Book"=some (.ref 838):=T.g _ _ T.E8
theorem Tx.nJ:TZ K 281:=⟨T.J3,T.G9,T.D4,T.B9⟩
theorem Tx.ZR:Jw K 281 "blank" 278:=⟨T.ey,T.RZ,T.Mw⟩
theorem Tx.wD{H:Hp}{a dx:Ba}{fs:List (Bx×V)}(e:H a=some (.ins 281 dx fs)):GK K H (.ref a) (.ref 281):=.ins e T.nJ T.K0 T.og T.ot T.C7
theorem Tx.Sv:TZ K 323:=⟨T.xr,T.xn,T.wP,T.wG⟩
theorem Tx.RH:Jw K 323 "is_plain" 250:=⟨T.Up,T.GO,T.FO⟩
theorem Tx.Xa:Jw K 323 "suits" 313:=⟨T.aj,T.aa,T.PQ⟩
theorem Tx.Xb:Jw K 323 "blank" 320:=⟨T.ak,T.ac,T.PR⟩
theorem Tx.rT{H:Hp}{a dx:Ba}{fs:List (Bx×V)}(e:H a=some (.ins 323 dx fs)):GK K H (.ref a) (.ref 323):=.ins e T.Sv T.xy T.og T.ot T.wL
theorem Tx.Sw:TZ K 356:=⟨T.xu,T.xp,T.wR,T.wI⟩
theorem Tx.RI:Jw K 356 "is_plain" 250:=⟨T.Uq,T.GO,T.FO⟩
theorem Tx.Xc:Jw K 356 "suits" 346:=⟨T.ao,T.ae,T.PU⟩
theorem Tx.Xd:Jw K 356 "blank" 353:=⟨T.aq,T.af,T.PV⟩
theorem Tx.rW{H:Hp}{a dx:Ba}{fs:List (Bx×V)}(e:H a=some (.ins 356 dx fs)):GK K H (.ref a) (.ref 356):=.ins e T.Sw T.xA T.og T.ot T.wN
theorem Tx.Su:TZ K 389:=⟨T.xq,T.xm,T.wO,T.wF⟩
theorem Tx.RG:Jw K 389 "is_plain" 250:=⟨T.Uo,T.GO,T.FO⟩
theorem Tx.WY:Jw K 389 "suits" 379:=⟨T.ag,T.ZY,T.PN⟩
theorem Tx.WZ:Jw K 389 "blank" 386:=⟨T.ai,T.ZZ,T.PP⟩
theorem Tx.rS{H:Hp}{a dx:Ba}{fs:List (Bx×V)}(e:H a=some (.ins 389 dx fs)):GK K H (.ref a) (.ref 389):=.ins e T.Su T.xw T.og T.ot T.wJ
theorem Tx.My:TZ K 443:=⟨T.J0,T.F8,T.C9,T.B2⟩
theorem Tx.Uh:Jw K 443 "is_plain" 250:=⟨T.VZ,T.GO,T.FO⟩
theorem Tx.ZL:Jw K 443 "suits" 433:=⟨T.eh,T.dX,T.RS⟩
theorem Tx.ZM:Jw K 443 "blank" 440:=⟨T.en,T.dY,T.RT⟩
theorem Tx.wA{H:Hp}{a dx:Ba}{fs:List (Bx×V)}(e:H a=some (.ins 443 dx fs)):GK K H (.ref a) (.ref 443):=.ins e T.My T.J6 T.og T.ot T.C4
theorem Tx.Mz:TZ K 496:=⟨T.J1,T.F9,T.D0,T.B7⟩
theorem Tx.Ui:Jw K 496 "is_plain" 250:=⟨T.Wa,T.GO,T.FO⟩
theorem Tx.ZN:Jw K 496 "suits" 486:=⟨T.eo,T.dZ,T.RU⟩
theorem Tx.ZO:Jw K 496 "blank" 493:=⟨T.er,T.ec,T.RV⟩
theorem Tx.wB{H:Hp}{a dx:Ba}{fs:List (Bx×V)}(e:H a=some (.ins 496 dx fs)):GK K H (.ref a) (.ref 496):=.ins e T.Mz T.J7 T.og T.ot T.C5
theorem Tx.MA:TZ K 555:=⟨T.J2,T.G8,T.D3,T.B8⟩
theorem Tx.Uj:Jw K 555 "is_plain" 533:=⟨T.Wb,T.VY,T.Nc⟩
theorem Tx.ZP:Jw K 555 "suits" 545:=⟨T.eu,T.ee,T.RW⟩
theorem Tx.ZQ:Jw K 555 "blank" 552:=⟨T.ew,T.eg,T.RX⟩
theorem Tx.wC{H:Hp}{a dx:Ba}{fs:List (Bx×V)}(e:H a=some (.ins 555 dx fs)):GK K H (.ref a) (.ref 555):=.ins e T.MA T.J9 T.og T.ot T.C6
theorem Tx.IG:TZ K 609:=⟨T.sR,T.sO,T.ss,T.rY⟩
theorem Tx.QQ:Jw K 609 "is_plain" 592:=⟨T.Sc,T.RY,T.Lc⟩
theorem Tx.VW:Jw K 609 "suits" 606:=⟨T.Xn,T.Xl,T.NP⟩
theorem Tx.VX:Jw K 609 "blank" 278:=⟨T.Xo,T.RZ,T.Mw⟩
theorem Tx.pR{H:Hp}{a dx:Ba}{fs:List (Bx×V)}(e:H a=some (.ins 609 dx fs)):GK K H (.ref a) (.ref 609):=.ins e T.IG T.tm T.og T.ot T.si
theorem Tx.DF:TZ K 636:=⟨T.xt,T.xo,T.wQ,T.wH⟩
theorem Tx.rV{H:Hp}{a dx:Ba}{fs:List (Bx×V)}(e:H a=some (.ins 636 dx fs)):GK K H (.ref a) (.ref 636):=.ins e T.DF T.xz T.og T.ot T.wM
theorem Tx.nK:TZ K 696:=⟨T.J4,T.H0,T.D5,T.C2⟩
theorem Tx.wE{H:Hp}{a dx:Ba}{fs:List (Bx×V)}(e:H a=some (.ins 696 dx fs)):GK K H (.ref a) (.ref 696):=.ins e T.nK T.K1 T.og T.ot T.C8
theorem Tx.Ur:TZ K 710:=⟨T.sQ,T.sN,T.sk,T.rX⟩
theorem Tx.Pt:Jw K 710 "is_choice" 672:=⟨T.QW,T.Um,T.LQ⟩
theorem Tx.pQ{H:Hp}{a dx:Ba}{fs:List (Bx×V)}(e:H a=some (.ins 710 dx fs)):GK K H (.ref a) (.ref 710):=.ins e T.Ur T.tj T.og T.ot T.sh
theorem Tx.Us:TZ K 729:=⟨T.sU,T.sP,T.su,T.rZ⟩
theorem Tx.Pu:Jw K 729 "is_choice" 726:=⟨T.QX,T.QV,T.Kz⟩
theorem Tx.pT{H:Hp}{a dx:Ba}{fs:List (Bx×V)}(e:H a=some (.ins 729 dx fs)):GK K H (.ref a) (.ref 729):=.ins e T.Us T.tr T.og T.ot T.sj
theorem Tx.Pd:TZ K 838:=⟨T.J5,T.I0,T.D6,T.C3⟩
theorem Tx.dM:Jw K 838 "head" 835:=⟨T.im,T.ij,T.Ve⟩
theorem Tx.Wc{nm a:Bx}{b:NE}{bd:List Dn}{sc:Scope}{d kV doc pm cdv ct:AY}{an:Option Ba}(e:Br K 645=fnOf nm a b bd sc d kV doc pm an cdv ct):cdv= .ref rC:=by
 have h:=S9 (c:=rC) (T.ZX);rw[e]at h;exact h
theorem Tx.Eo:ki K 111:=⟨T.kS,T.kQ,T.kP,T.kO,T.og,T.ot,T.kN,T.kM⟩
theorem Tx.Js:XMk K 111 31 108:=⟨HL.L4 T.qe,T.w1,T.w2,T.Xm,T.kU,T.kT⟩
theorem Tx.xb:zY K 31:=⟨T.w3,T.w4,HL.A0M T.w5⟩
end
end K9
namespace K9
open PySem PySem.W HL L2 PyProof.Rows
abbrev zS:=Cu
abbrev u6:=PySem.Challenge.rw_formkin_k09_books_refused
theorem X6{K:Frag}{h:CO}{mg:Bx->Option AY}{s:Bf}{w:Cs}(e:Np ul s.heap=K)(y:obs s=exp zS w)(X:K.In h)(G:h.Ns AT mg):Tx K mg:=by
 subst e;refine⟨A37 Prod.fst y,A37 (λx=>x.2.1) y,A37 (λx=>x.2.2.1) y,A37 (λx=>x.2.2.2.1) y,A37 (λx=>x.2.2.2.2.1) y,A37 (λx=>x.2.2.2.2.2.1) y,A37 (λx=>x.2.2.2.2.2.2.1) y,λx v e=>?_⟩;cases v with
 |none=>exact mg_none_of X G e
 |some v=>exact mg_of X G e
theorem X3{q:BG}{loose:List Bx}{XP: (Bx->Option AY)->CO->Prop}{d:DefRec}(J:d.params.defaults=[])(hn:d.name="law"){k:Nat}(P:Fm k callerA){sp:Frag->Sp}(F:∀(w:Cs) (K:Frag) (mg:Bx->Option AY) (base:CO),Tx K mg->K.In base->base.Ns AT mg->Cm zS w K mg base DS k 1004 (Br K 1004) AH (sp K))(B:∀(K:Frag) (mg:Bx->Option AY),Tx K mg->∀(s:Bf) (u:AY),BindsTo s (Br K 1004) ⟨[u],[]⟩ [("_law_script",u)])(r:∀(K:Frag) (H:Hp) (a:Ba) (ns:List Int),ns.length<=63->(∀i∈ns,Ff i<=1048576)->cI ff H->Dk K H a (ns.map V.int)->sp K [.ref a] H (λv _=>v= .bl true) λ_ _ _=>False):
  WalkX q loose XP obs (exp zS) u6.row.toRowW d [] (λf vs=>PySem.call f vs):=by
 intro w s_ m mg mb G y a o pm cd doc Z kV Q hd M U b R args j bs L Tv p t hwl E;refine qr (T:=ff) (c:=rC) (l:=u6) (n:=63) (k:=k) (x:="_law_script") (K:=λ_=>Np ul s_.heap) (CX:=DS) (sp:=sp) (YP:=λ_ h=>(Np ul s_.heap).In h/\h.get? ff=some (tabObj #[])) (q:=q) (loose:=loose) (XP:=XP) (d:=d) rfl Aa J P (λ_ h Y=>⟨Y.1,Y.2,zW Y.1 (A0G (A37 (λx=>x.2.1) y)),mF _ _ Ab⟩) (λO mg W h N G b=>?_) r (λ_ _ _ _ z=>z) rfl w s_ m mg mb G ⟨Frag.In.keeps (vt ul s_.heap) L.keeps,L.keeps _ _ (M3 (A37 (λx=>x.2.2.2.2.2.2.2) y))⟩ a o pm cd doc Z kV Q hd M U b R args j bs Tv p t hwl E;have T:=X6 rfl y N G;have e:mg "law"=some (.ref 1004):=mg_of N G T.X0;rw[hn,e]at b;obtain rfl:1004=W:=by simpa using b
 exact⟨Br (Np ul s_.heap) 1004,B _ _ T,λbase h1 h2=>F O _ _ base ⟨T.A,T.B,T.C,T.D,T.I,T.X,T.S,λx v e=>T.g x v e⟩ h1 h2⟩
def A2m:DefRec:=⟨"law",Kh (top 90),Jh (top 90),BA (top 90),⟨553,0,576,46⟩⟩
theorem holds{k:Nat}(f:Fm k callerA){sp:Frag->Sp}(F:∀(w:Cs) (K:Frag) (mg:Bx->Option AY) (base:CO),Tx K mg->K.In base->base.Ns AT mg->Cm zS w K mg base DS k 1004 (Br K 1004) AH (sp K))(B:∀(K:Frag) (mg:Bx->Option AY),Tx K mg->∀(s:Bf) (u:AY),BindsTo s (Br K 1004) ⟨[u],[]⟩ [("_law_script",u)])(c:∀(K:Frag) (H:Hp) (a:Ba) (ns:List Int),ns.length<=63->(∀i∈ns,Ff i<=1048576)->cI ff H->Dk K H a (ns.map V.int)->sp K [.ref a] H (λv _=>v= .bl true) λ_ _ _=>False):u6.Holds:=by
 refine k09.law_of λb=>?_;refine holds_openX (r:=u6.row) (q:=view zS keep) (loose:=lo) (Xt:=λs=>xlAt (view zS keep) [] s&&recOk [] s) (XP:=XL (view zS keep) []) (Yf:=obs) (Ya:=exp zS) (d:=A2m) (kwd:=[]) (N:=60100) left (λs e=>xl_of s (TY.mp e).1) XL.keeps (by kernel_rfl) (by kernel_rfl) (by kernel_rfl) (λs e=>recFacts_of (TY.mp e).2) (by rfl) b Ab ⟨rfl,rfl,rfl,rfl,rfl,Ab⟩ ?hw ?hc
 case hw=>w_witness2
 case hc=>exact X3 rfl rfl f F B c
end K9
namespace K9
open PySem L2
open HL (Br)
seal L2.PE L2.PS L2.WH L2.PA L2.PT L2.PW L2.PG L2.V8 L2.PI L2.PO
variable{P:BG}{w:Cs}{K:Be}{mg:Bx->Option AY}{base:CO}
def tbF:HO->Bool
 |.tbl _=>true
 |_=>false
def Sm(H H':Hp):Prop:=∀a o,H a=some o->tbF o=false->H' a=some o
theorem Sm.refl(H:Hp):Sm H H:=λ_ _ e _=>e
theorem Sm.trans{H H' c:Hp}(a:Sm H H')(b:Sm H' c):Sm H c:=λx o e n=>b x o (a x o e n) n
theorem Sm.of{H H':Hp}(s:BC H H'):Sm H H':=λx o e _=>s x o e
def plO:HO->Bool
 |.tbl _=>false
 |.ins C _ _=>!(C==636||C==696||C==710||C==729||C==838)
 |_=>true
def Sn(H H':Hp):Prop:=∀a o,H a=some o->plO o=true->H' a=some o
theorem Sm.sn{H H':Hp}(s:Sm H H'):Sn H H':=λa o e n=>s a o e (by cases o <;> first|rfl|cases n)
def pfO:HO->Bool
 |.tbl _=>false
 |.ins C _ _=>!(C==696||C==710||C==729||C==838)
 |_=>true
def Sf(H H':Hp):Prop:=∀a o,H a=some o->pfO o=true->H' a=some o
theorem Sm.sf{H H':Hp}(s:Sm H H'):Sf H H':=λa o e n=>s a o e (by cases o <;> first|rfl|cases n)
theorem Sf.sn{H H':Hp}(s:Sf H H'):Sn H H':=λa o e n=>s a o e (by
 cases o with
 |ins C dx fs=>
  have b: (!(C==636||C==696||C==710||C==729||C==838))=true:=n;show(!(C==696||C==710||C==729||C==838))=true;simp only[Bool.not_or,BZ]at b ⊢;exact⟨⟨⟨b.1.1.1.2,b.1.1.2⟩,b.1.2⟩,b.2⟩
 |_=>first|rfl|cases n)
theorem Sf.upd{H:Hp}{x:Ba}{o u:HO}(b:H x=some o)(n:pfO o=false):Sf H (upd H x u):=λa v e m=>by
 rw[Bo]
 ·exact e
 ·rintro rfl;rw[b]at e;cases e;rw[n]at m;cases m
theorem Sn.upd{H:Hp}{x:Ba}{o u:HO}(b:H x=some o)(n:plO o=false):Sn H (upd H x u):=λa v e m=>by
 rw[Bo]
 ·exact e
 ·rintro rfl;rw[b]at e;cases e;rw[n]at m;cases m
abbrev A28:Bx:="own_fields" ++ ".<locals>." ++ "<lambda>"
abbrev A29:Pos:=⟨226,34,226,60⟩
abbrev Lm(H:Hp):Prop:=Nq H ff A29 A28
inductive Dt where
 |non|bl (b:Bool)|int (i:Int)|str (z:Bx)|lst (l:List Dt)|dct
mutual
def Th(H:Hp):Dt->V->Prop
 |.non,v=>v= .non
 |.bl b,v=>v= .bl b
 |.int i,v=>v= .int i
 |.str z,v=>v= .str z/\z.length<=1000
 |.lst l,v=>∃a xs,v= .ref a/\H a=some (.lst xs)/\gq H l xs/\l.length<=1000
 |.dct,v=>∃a,v= .ref a/\H a=some (.dK [])
def gq(H:Hp):List Dt->List V->Prop
 |[],xs=>xs=[]
 |d::l,xs=>∃x ys,xs=x::ys/\Th H d x/\gq H l ys
end
mutual
theorem Th.sn{H H':Hp}(s:Sn H H'):∀(d:Dt) (v:V),Th H d v->Th H' d v
 |.non,_,h=>h
 |.bl _,_,h=>h
 |.int _,_,h=>h
 |.str _,_,h=>h
 |.lst l,_,⟨a,xs,e,h,k,z⟩=>⟨a,xs,e,s _ _ h rfl,gq.sn s l xs k,z⟩
 |.dct,_,⟨a,e,h⟩=>⟨a,e,s _ _ h rfl⟩
theorem gq.sn{H H':Hp}(s:Sn H H'):∀(l:List Dt) (xs:List V),gq H l xs->gq H' l xs
 |[],_,h=>h
 |d::l,_,⟨x,ys,e,h,k⟩=>⟨x,ys,e,Th.sn s d x h,gq.sn s l ys k⟩
end
theorem Th.sm{H H':Hp}(s:Sm H H')(d:Dt)(v:V)(h:Th H d v):Th H' d v:=Th.sn s.sn d v h
theorem gq.sm{H H':Hp}(s:Sm H H')(l:List Dt)(xs:List V)(h:gq H l xs):gq H' l xs:=gq.sn s.sn l xs h
theorem gq.len{H:Hp}:∀{l:List Dt} {xs:List V},gq H l xs->xs.length=l.length
 |[],_,h=>by rw[show _=[]from h];rfl
 |d::l,_,⟨x,ys,e,_,k⟩=>by rw[e,Cj,Cj,gq.len k]
theorem gq.at{H:Hp}:∀{l:List Dt} {xs:List V},gq H l xs->∀(i:Nat) x,xs[i]?=some x->∃d,l[i]?=some d/\Th H d x
 |[],_,h,i,x,e=>by rw[show _=[]from h]at e;simp at e
 |d::l,_,⟨y,ys,a,h,k⟩,0,x,e=>by rw[a]at e;simp at e;exact⟨d,rfl,e ▸ h⟩
 |d::l,_,⟨y,ys,a,h,k⟩,i+1,x,e=>by rw[a]at e;simp at e;obtain⟨d',c,b⟩:=gq.at k i x e;exact⟨d',by simpa using c,b⟩
def V0:Dt->String
 |.non=>"NoneType" |.bl _=>"bool" |.int _=>"int" |.str _=>"str" |.lst _=>"list" |.dct=>"dict"
theorem Th.ty{K:Be}{H:Hp}:∀{d:Dt} {v:V},Th H d v->GK K H v (.type (V0 d))
 |.non,_,h=>by rw[show _=V.non from h];exact .non
 |.bl b,_,h=>by rw[show _=V.bl b from h];exact .bl b
 |.int i,_,h=>by rw[show _=V.int i from h];exact .int i
 |.str z,_,h=>by rw[show _=V.str z from h.1];exact .str z
 |.lst l,_,⟨a,xs,e,h,k,_⟩=>by rw[e];exact .lst h
 |.dct,_,⟨a,e,h⟩=>by rw[e];exact .dK h
def Jd:Dt->Bool|.bl _=>true|_=>false
def fU:Dt->Bool|.bl _=>true|.int _=>true|_=>false
def mB:Dt->Bool|.str _=>true|_=>false
def Pl:Dt->Bool|.lst _=>true|_=>false
def KZ:Dt->Int->Int->Bool
 |.int i,a,b=>decide (a<=i) &&decide (i<=b)
 |_,_,_=>false
inductive Kx where
 |truth|count|whole|bare
 |upto (d:Dt)|text (d:Dt)|form (d:Dt)
 |list (k:Kx)|thing (d:Dt)
def Rx(H:Hp):Kx->V->Prop
 |.truth,v=>∃a dx,v= .ref a/\H a=some (.ins 323 dx [])
 |.count,v=>∃a dx,v= .ref a/\H a=some (.ins 356 dx [])
 |.whole,v=>∃a dx,v= .ref a/\H a=some (.ins 389 dx [])
 |.bare,v=>∃a dx,v= .ref a/\H a=some (.ins 281 dx [])
 |.upto d,v=>∃a dx u,v= .ref a/\H a=some (.ins 443 dx [("most",u)])/\Th H d u
 |.text d,v=>∃a dx u,v= .ref a/\H a=some (.ins 496 dx [("most",u)])/\Th H d u
 |.form d,v=>∃a dx u,v= .ref a/\H a=some (.ins 609 dx [("name",u)])/\Th H d u
 |.list k,v=>∃a dx u,v= .ref a/\H a=some (.ins 555 dx [("item",u)])/\Rx H k u
 |.thing d,v=>Th H d v
theorem Rx.sn{H H':Hp}(s:Sn H H'):∀{k:Kx} {v:V},Rx H k v->Rx H' k v
 |.truth,_,⟨a,dx,e,h⟩=>⟨a,dx,e,s _ _ h rfl⟩
 |.count,_,⟨a,dx,e,h⟩=>⟨a,dx,e,s _ _ h rfl⟩
 |.whole,_,⟨a,dx,e,h⟩=>⟨a,dx,e,s _ _ h rfl⟩
 |.bare,_,⟨a,dx,e,h⟩=>⟨a,dx,e,s _ _ h rfl⟩
 |.upto d,_,⟨a,dx,u,e,h,k⟩=>⟨a,dx,u,e,s _ _ h rfl,Th.sn s d u k⟩
 |.text d,_,⟨a,dx,u,e,h,k⟩=>⟨a,dx,u,e,s _ _ h rfl,Th.sn s d u k⟩
 |.form d,_,⟨a,dx,u,e,h,k⟩=>⟨a,dx,u,e,s _ _ h rfl,Th.sn s d u k⟩
 |.list k,_,⟨a,dx,u,e,h,j⟩=>⟨a,dx,u,e,s _ _ h rfl,j.sn s⟩
 |.thing d,v,h=>Th.sn s d v h
theorem Rx.sm{H H':Hp}(s:Sm H H'){k:Kx}{v:V}(h:Rx H k v):Rx H' k v:=h.sn s.sn
def Kx.cls:Kx->Ba
 |.truth=>323|.count=>356|.whole=>389|.bare=>281|.upto _=>443|.text _=>496|.form _=>609|.list _=>555|.thing _=>0
def Kx.isK:Kx->Bool
 |.thing _=>false
 |_=>true
theorem Rx.ins{H:Hp}:∀{k:Kx} {v:V},k.isK=true->Rx H k v->∃a dx fs,v= .ref a/\H a=some (.ins k.cls dx fs)/\∀m:Bx,m≠ "most" ->m≠ "name" ->m≠ "item" ->fs.lookup m=none:=by
 intro k v b h;cases k with
 |thing d=>cases b
 |list k=>obtain⟨a,dx,u,e,h,_⟩:=h;exact⟨a,dx,_,e,h,λm h1 h2 h3=>by simp[EY,beq_eq_false_iff_ne.mpr h3]⟩
 |upto n=>obtain⟨a,dx,u,e,h,_⟩:=h;exact⟨a,dx,_,e,h,λm h1 h2 h3=>by simp[EY,beq_eq_false_iff_ne.mpr h1]⟩
 |text n=>obtain⟨a,dx,u,e,h,_⟩:=h;exact⟨a,dx,_,e,h,λm h1 h2 h3=>by simp[EY,beq_eq_false_iff_ne.mpr h1]⟩
 |form z=>obtain⟨a,dx,u,e,h,_⟩:=h;exact⟨a,dx,_,e,h,λm h1 h2 h3=>by simp[EY,beq_eq_false_iff_ne.mpr h2]⟩
 |truth=>obtain⟨a,dx,e,h⟩:=h;exact⟨a,dx,_,e,h,λm _ _ _=>rfl⟩
 |count=>obtain⟨a,dx,e,h⟩:=h;exact⟨a,dx,_,e,h,λm _ _ _=>rfl⟩
 |whole=>obtain⟨a,dx,e,h⟩:=h;exact⟨a,dx,_,e,h,λm _ _ _=>rfl⟩
 |bare=>obtain⟨a,dx,e,h⟩:=h;exact⟨a,dx,_,e,h,λm _ _ _=>rfl⟩
def om(r:V):Sp:=λvs H Q _=>∃v,vs=[v]/\Q r H
def M0(H:Hp)(Q:VK)(xs:List V):Prop:=∀l H',H l=none->BC H H'->H' l=some (.lst xs)->Q (.ref l) H'
theorem R1(T:Tx K mg)(d:Dt):Co K (.type (V0 d)) (.type "bool")=some (Jd d):=by
 cases d <;> first|exact T.VJ|exact T.gH|exact T.q_int_bool|exact T.q_str_bool|exact T.q_list_bool|exact T.q_dict_bool
theorem A2c(T:Tx K mg)(d:Dt):Co K (.type (V0 d)) (.type "int")=some (fU d):=by
 cases d <;> first|exact T.WT|exact T.kC|exact T.q_int_int|exact T.q_str_int|exact T.q_list_int|exact T.q_dict_int
theorem A0s(T:Tx K mg)(d:Dt):Co K (.type (V0 d)) (.type "str")=some (mB d):=by
 cases d <;> first|exact T.WS|exact T.q_bool_str|exact T.q_int_str|exact T.pU|exact T.q_list_str|exact T.q_dict_str
theorem vg(T:Tx K mg)(d:Dt):Co K (.type (V0 d)) (.type "list")=some (Pl d):=by
 cases d <;> first|exact T.Na|exact T.Vb|exact T.WP|exact T.WO|exact T.HE|exact T.Va
theorem A2a(T:Tx K mg)(d:Dt):Co K (.type (V0 d)) (.type "tuple")=some false:=by
 cases d <;> first|exact T.Ua|exact T.q_bool_tuple|exact T.q_int_tuple|exact T.q_str_tuple|exact T.Mn|exact T.q_dict_tuple
abbrev cJ:Bx:="abcdefghijklmnopqrstuvwxyz"
abbrev MN:Int:=115792089237316195423570985008687907853269984665640564039457584007913129639935
abbrev MW:Int:=57896044618658097711785492504343953926634992332820282019728792003956564819967
def zc(y:Bx)(c:Nat):Bool:=!(Builtin.Str.occurrences y ⟨#[c]⟩ 0 y.length 1).isEmpty
def YC(z y:Bx):Bool:=z.cps.toList.all (zc y)
def inC(y:Bx):V->Bool
 |.str z=>zc y (z.cps.getD 0 0)
 |_=>false
theorem pgs{X:Cx}{x y:Bx}{t:Tok}{pos:Pos}(hm:X.mg x=some (.str y t))(a:Gl X x:=by rfl)(hd: (x==("__debug__" :Bx))=false:=by decide):PE X (.Name x pos) (tC (.str y)):=fK a hm ⟨t,rfl⟩ hd
theorem oS{a b:Type}(l:List a)(f:a->b)(g:b->Bool)(h:a->Bool)(e:∀x∈l,g (f x)=h x): (l.map f).all g=l.all h:=by
 induction l with
 |nil=>rfl
 |cons x l c=>rw[BV,HN,HN,e x (Ds ..),c λy d=>e y (CJ _ d)]
def A0W(f:V->Bool):V->V:=λv=>.bl (f v)
theorem N8(y z:Bx): ((tZ z).map (inC y)).all id=YC z y:=by
 rw[tZ,Cf];exact oS _ _ _ _ λc _=>rfl
def Ih(z:Bx):Bool:=(decide (1<=z.length) &&decide (z.length<=12)) &&YC z cJ
def ED:Dt->Bool
 |.str z=>Ih z
 |_=>false
def MD(c:Nat):Bool:=(decide ((32:Int)<= (c:Int)) &&decide ((c:Int)<=126)) &&decide (¬ (c:Int)=37)
def Le:Sp:=λvs H Q _=>∃x d,vs=[x]/\Th H d x/\Q (.bl (fU d&& !Jd d)) H
def FT:Sp:=λvs H Q _=>∃x d a b,vs=[x,.int a,.int b]/\Th H d x/\Q (.bl (KZ d a b)) H
def Ql:Sp:=λvs H Q _=>∃z y,vs=[.str z,.str y]/\z.length<=1000/\∀H',BC H H'->Q (.bl (YC z y)) H'
def KD:Sp:=λvs H Q _=>∃x d,vs=[x]/\Th H d x/\∀H',BC H H'->Q (.bl (ED d)) H'
def XM:Sp:=λvs H Q _=>∃c:Nat,vs=[.int c]/\Q (.bl (MD c)) H
theorem Ov(T:Tx K mg):Cm P w K mg base DS 1 196 (Br K 196) Ad Le:=by
 refine T.Xr.ok iV (λvs H Q E h=>?_) (λcdv A outer s H vs Q E b h=>?_)
 ·obtain⟨x,d,rfl,_⟩:=h;rfl
 ·obtain⟨x,d,rfl,a,q⟩:=h;refine⟨_,Bk (BH (JR (BJ (CY K rfl) rfl T.Ch Cb (AS (pv 0) (AS (kq T.zJ vS) AZ))) (JQ (uz (BJ (CY K rfl) rfl T.Ch Cb (AS (pv 0) (AS (kq T.ku gg) AZ))))))),?_⟩;refine⟨_,rfl,x,.ty "int",_,_,_,rfl,a.ty,rfl,A2c T d,_,rfl,Kg (λh=>?_) (λh=>?_)⟩
  ·rw[h,Ew]at q;exact⟨_,rfl,x,.ty "bool",_,_,_,rfl,a.ty,rfl,R1 T d,_,rfl,q⟩
  ·have h':fU d=false:=by simpa using h
   rw[h',DK]at q;exact q
theorem GA(T:Tx K mg):Cm P w K mg base DS 2 203 (Br K 203) Ae FT:=by
 have a:Cm P w K mg base DS 1 196 (Br K 196) Ad Le:=Ov T;refine T.Xu.ok iX (λvs H Q E h=>?_) (λcdv A outer s H vs Q E c h=>?_)
 ·obtain⟨x,d,l,m,rfl,_⟩:=h;rfl
 ·obtain⟨x,d,l,m,rfl,b,q⟩:=h;refine⟨_,Bk (BH (JR (BX a (c.mono Aa) rfl T.QR T.Mt T.QY .nil BR (AS (pv 0) AZ)) (JQ (jj bT bT (pv 1) (pv 0) (pv 2))))),?_⟩;refine⟨_,rfl,x,d,rfl,b,_,rfl,?_⟩;cases d with
  |int i=>
   obtain rfl:x=V.int i:=b;refine Er ⟨_,rfl,_,rfl,_,_,rfl,rfl,_,rfl,Kg (λh1=>?_) (λh1=>?_)⟩
   ·refine⟨_,rfl,_,_,rfl,rfl,?_⟩;rw[show KZ (.int i) l m=decide (i<=m)by show(decide (l<=i) &&_)=_;rw[h1,Ew]]at q;exact q
   ·have h2:decide (l<=i)=false:=by simpa using h1
    rw[show KZ (.int i) l m=false by show(decide (l<=i) &&_)=_;rw[h2,DK]]at q;exact q
  |_=>exact Dr q
theorem ndS: ((["sign"]:List Bx) ++ (["signs"]:List Bx)).Nodup:=by decide+kernel
theorem Q5: ((["sign"]:List Bx) ++ ([]:List Bx)).Nodup:=by decide+kernel
theorem aX(T:Tx K mg):Cm P w K mg base DS 1 208 (Br K 208) Af Ql:=by
 refine T.Sg.ok aK (λvs H Q E h=>?_) (λcdv A outer s H vs Q E g h=>?_)
 ·obtain⟨z,y,rfl,_⟩:=h;rfl
 ·obtain⟨z,y,rfl,a,q⟩:=h;refine⟨_,Bk (BH (BJ (FX rfl) rfl T.Rz MT (AS (DY (ts:=["sign"]) (xs:=["signs"]) (js:=[1]) rfl ⟨rfl,rfl,Ab,Ab,DZ rfl⟩ (.cons rfl (.inl rfl) rfl .nil) Ab (ut (pv 0)) (λC s_ H_ fp=>CN (X:=Ee _ _ _ C s_ H_ fp) (i:=0) ndS rfl (BP rfl) (Di rfl)) (λC s_ H_ fp=>DB (X:=Ee _ _ _ C s_ H_ fp)) (λC s_ H_ fp=>GH (X:=Ee _ _ _ C s_ H_ fp) qK (pv 0) (pv 1) rfl)) AZ))),?_⟩;refine⟨_,rfl,z,rfl,UN (Wk.str z) (by rw[Ww];exact a) (A0W (inC y)) (λx b H2 R s2 d=>?_) (λD H2 j s2 f=>?_)⟩
  ·obtain⟨c,hc,rfl⟩:=Bm.mp b;exact⟨Sub.set rfl,_,rfl,_,rfl,_,_,rfl,rfl,d H2 λ_ _ e=>e⟩
  ·refine⟨D,(tZ z).map (inC y),rfl,by rw[Cf];exact f,?_⟩;rw[N8];exact q _ s2
theorem MM(T:Tx K mg):Cm P w K mg base DS 3 215 (Br K 215) Ad KD:=by
 have b:Cm P w K mg base DS 2 203 (Br K 203) Ae FT:=GA T;have a:Cm P w K mg base DS 1 208 (Br K 208) Af Ql:=aX T;obtain⟨_,f⟩:=T.WN;obtain⟨_,c⟩:=T.pP;refine T.bB.ok lI (λvs H Q E h=>?_) (λcdv A outer s H vs Q E j h=>?_)
 ·obtain⟨x,d,rfl,_⟩:=h;rfl
 ·obtain⟨x,d,rfl,i,q⟩:=h;refine⟨_,BW (CV (Fh (CZ (BJ (CY K rfl) rfl T.Ch Cb (AS (pv 0) (AS (kq T.zG vP) AZ))))) (Bk (BH DR))
    Ci)
   (Bk (BH (JR (BX b (j.mono Aa) rfl T.GE T.Ga T.GG .nil BR (AS (BJ MS (by rfl) T.Hs Fu (AS (pv 0) AZ)) (AS Bc (AS (lR f) AZ)))) (JQ (BX a (j.mono Aa) rfl T.dS T.RP T.eG .nil BR (AS (pv 0) (AS (pgs c) AZ))))))),?_⟩
  refine⟨_,rfl,x,.ty "str",_,_,_,rfl,i.ty,rfl,A0s T d,_,rfl,?_⟩;cases d with
  |str z=>
   obtain⟨rfl,g⟩:=i;have k:KZ (.int (z.length:Int)) 1 12=(decide (1<=z.length) &&decide (z.length<=12)):=by
    show(decide ((1:Int)<= (z.length:Int)) &&decide ((z.length:Int)<=12))=_;congr 1 <;> exact decide_eq_decide.mpr (by omega)
   refine Dr ⟨_,rfl,z,rfl,BF g Aa,_,.int _,_,_,rfl,rfl,_,rfl,Kg (λh=>?_) (λh=>?_)⟩
   ·refine⟨_,rfl,z,cJ,rfl,g,λH' s=>?_⟩;have e:=q H' s;rw[k]at h;rw[show ED (.str z)=YC z cJ by show(_&&_)=_;rw[h,Ew]]at e;exact e
   ·have e:=q H (BC.refl _);rw[k]at h;have h': (decide (1<=z.length) &&decide (z.length<=12))=false:=by simpa using h
    rw[show ED (.str z)=false by show(_&&_)=_;rw[h',DK]]at e;exact e
  |_=>exact Er (q _ (BC.refl _))
theorem md(T:Tx K mg):Cm P w K mg base DS 1 222 (Br K 222) ["number"] XM:=by
 obtain⟨k,h1⟩:=T.cW;obtain⟨j,h2⟩:=T.gB;obtain⟨i,h3⟩:=T.WM;refine T.bA.ok lH (λvs H Q E h=>?_) (λcdv A outer s H vs Q E l h=>?_)
 ·obtain⟨c,rfl,_⟩:=h;rfl
 ·obtain⟨c,rfl,q⟩:=h;refine⟨_,Bk (BH (JR (jj bT bT (lR h1) (pv 0) (lR h2)) (JQ (GH jk (pv 0) (lR h3) (Dc _))))),?_⟩;have d:MD c=((decide ((32:Int)<= (c:Int)) &&decide ((c:Int)<=126)) &&decide (¬ (c:Int)=37)):=rfl;refine⟨_,rfl,_,_,rfl,rfl,_,rfl,Kg (λa=>?_) (λa=>?_)⟩
  ·rw[a,Ew]at d;refine⟨_,_,rfl,rfl,_,rfl,Kg (λb=>?_) (λb=>?_)⟩
   ·rw[b,Ew]at d;refine⟨_,rfl,rfl,?_⟩;rw[d]at q;have e: (!decide (V.int (c:Int)=V.int 37))=decide (¬ (c:Int)=37):=by
     by_cases z: (c:Int)=37
     ·simp[z]
     ·have:¬V.int (c:Int)=V.int 37:=λy=>z (V.int.inj y);simp[z,this]
    rw[<-e]at q;exact q
   ·have f:decide ((c:Int)<=126)=false:=by simpa using b
    rw[f,DK]at d;rw[d]at q;exact q
  ·have g:decide ((32:Int)<= (c:Int))=false:=by simpa using a
   rw[g,DK,DK]at d;rw[d]at q;exact⟨_,rfl,Dr q⟩
theorem Gm(T:Tx K mg):Cm P w K mg base DS 1 250 (Br K 250) Ag (om (.bl true)):=by
 refine T.Ng.ok UC (λvs H Q E h=>?_) (λcdv A outer s H vs Q E a h=>?_)
 ·obtain⟨v,rfl,_⟩:=h;rfl
 ·obtain⟨v,rfl,q⟩:=h;exact⟨_,Bk (BH DR),q⟩
theorem UF(T:Tx K mg):Cm P w K mg base DS 1 533 (Br K 533) Ag (om (.bl false)):=by
 refine T.Nf.ok UB (λvs H Q E h=>?_) (λcdv A outer s H vs Q E a h=>?_)
 ·obtain⟨v,rfl,_⟩:=h;rfl
 ·obtain⟨v,rfl,q⟩:=h;exact⟨_,Bk (BH DR),q⟩
theorem Rj(T:Tx K mg):Cm P w K mg base DS 1 592 (Br K 592) Ag (om (.bl false)):=by
 refine T.Ld.ok Rf (λvs H Q E h=>?_) (λcdv A outer s H vs Q E a h=>?_)
 ·obtain⟨v,rfl,_⟩:=h;rfl
 ·obtain⟨v,rfl,q⟩:=h;exact⟨_,Bk (BH DR),q⟩
theorem QC(T:Tx K mg):Cm P w K mg base DS 1 278 (Br K 278) Ag (om (.non)):=by
 refine T.Ss.ok aS (λvs H Q E h=>?_) (λcdv A outer s H vs Q E a h=>?_)
 ·obtain⟨v,rfl,_⟩:=h;rfl
 ·obtain⟨v,rfl,q⟩:=h;exact⟨_,Bk (BH FC),q⟩
theorem Yx(T:Tx K mg):Cm P w K mg base DS 1 320 (Br K 320) Ag (om (.bl false)):=by
 refine T.Qe.ok Yc (λvs H Q E h=>?_) (λcdv A outer s H vs Q E a h=>?_)
 ·obtain⟨v,rfl,_⟩:=h;rfl
 ·obtain⟨v,rfl,q⟩:=h;exact⟨_,Bk (BH DR),q⟩
theorem Yz(T:Tx K mg):Cm P w K mg base DS 1 353 (Br K 353) Ag (om (.int 0)):=by
 refine T.Qh.ok Yg (λvs H Q E h=>?_) (λcdv A outer s H vs Q E a h=>?_)
 ·obtain⟨v,rfl,_⟩:=h;rfl
 ·obtain⟨v,rfl,q⟩:=h;exact⟨_,Bk (BH Bc),q⟩
theorem Yv(T:Tx K mg):Cm P w K mg base DS 1 386 (Br K 386) Ag (om (.int 0)):=by
 refine T.Qc.ok XZ (λvs H Q E h=>?_) (λcdv A outer s H vs Q E a h=>?_)
 ·obtain⟨v,rfl,_⟩:=h;rfl
 ·obtain⟨v,rfl,q⟩:=h;exact⟨_,Bk (BH Bc),q⟩
theorem aZ(T:Tx K mg):Cm P w K mg base DS 1 440 (Br K 440) Ag (om (.int 0)):=by
 refine T.Sk.ok aN (λvs H Q E h=>?_) (λcdv A outer s H vs Q E a h=>?_)
 ·obtain⟨v,rfl,_⟩:=h;rfl
 ·obtain⟨v,rfl,q⟩:=h;exact⟨_,Bk (BH Bc),q⟩
theorem bc(T:Tx K mg):Cm P w K mg base DS 1 493 (Br K 493) Ag (om (.str "")):=by
 refine T.So.ok aP (λvs H Q E h=>?_) (λcdv A outer s H vs Q E a h=>?_)
 ·obtain⟨v,rfl,_⟩:=h;rfl
 ·obtain⟨v,rfl,q⟩:=h;exact⟨_,Bk (BH Bs),q⟩
theorem Tk(T:Tx K mg):Cm P w K mg base DS 1 672 (Br K 672) Ag (om (.bl false)):=by
 refine T.LR.ok SN (λvs H Q E h=>?_) (λcdv A outer s H vs Q E a h=>?_)
 ·obtain⟨v,rfl,_⟩:=h;rfl
 ·obtain⟨v,rfl,q⟩:=h;exact⟨_,Bk (BH DR),q⟩
theorem Py(T:Tx K mg):Cm P w K mg base DS 1 726 (Br K 726) Ag (om (.bl true)):=by
 refine T.KB.ok Px (λvs H Q E h=>?_) (λcdv A outer s H vs Q E a h=>?_)
 ·obtain⟨v,rfl,_⟩:=h;rfl
 ·obtain⟨v,rfl,q⟩:=h;exact⟨_,Bk (BH DR),q⟩
theorem Kj.mono{P:BG}{w:Cs}{K:Be}{mg:Bx->Option AY}{base:CO}{j k:Nat}{m:Bx}{C:Ba}{sp:Sp}(d:Kj P w K mg base j m C sp)(h:j<=k):Kj P w K mg base k m C sp:=⟨d.c,let ⟨f,fd,ps,a,b,c⟩:=d.ex;⟨f,fd,ps,a,b.mono h,c⟩⟩
def HI:Kx->Dt
 |.truth=>.bl false
 |.text _=>.str ""
 |.list _=>.lst []
 |.form _=>.non
 |.bare=>.non
 |.thing _=>.non
 |_=>.int 0
def Ot:Kx->Bool
 |.list _=>false
 |.form _=>false
 |_=>true
def Fp:Kx->Dt->Bool
 |.truth,d=>Jd d
 |.count,d=>KZ d 0 MN
 |.whole,d=>KZ d (-MW - 1) MW
 |.upto (.int n),d=>KZ d 0 n
 |.text (.int n),.str z=>!decide ((z.length:Int) >n) &&z.cps.toList.all MD
 |.list k,.lst l=>!decide ((l.length:Int) >20) &&l.all (Fp k)
 |.form _,_=>true
 |_,_=>false
def Kx.flat:Kx->Bool
 |.list _=>false
 |_=>true
def Kx.fine:Kx->Prop
 |.upto d=>∃n,d= .int n
 |.text d=>∃n,d= .int n
 |.list k=>k.flat=true/\k.fine
 |.bare=>False
 |.thing _=>False
 |_=>True
theorem Kx.fine.isK{k:Kx}(h:k.fine):k.isK=true:=by
 cases k <;> first|rfl|exact h.elim
def Fl(H:Hp)(v:V):Prop:=∀m,v= .ref m->∀xs,H m≠some (.lst xs)
theorem Fl.back{H H':Hp}(s:BC H H'){v:V}(h:Fl H' v):Fl H v:=λm e xs z=>h m e xs (s _ _ z)
def fq(k:Kx):Sp:=λvs H Q _=>∃v,vs=[v]/\∀u H',BC H H'->Th H' (HI k) u->Fl H u->Q u H'
def Ke(k:Kx):Sp:=λvs H Q _=>∃v x d,vs=[v,x]/\Rx H k v/\Th H d x/\∀H',BC H H'->Q (.bl (Fp k d)) H'
def Uz(C:Ba)(f:Bx):Sp:=λvs H Q _=>∃x dx v,vs=[.ref x,v]/\H x=some (.ins C dx [])/\Q .non (upd H x (.ins C dx [(f,v)]))
theorem yR: ((Ad:List Bx) ++ (Ag:List Bx)).Nodup:=by decide+kernel
theorem Kj.imp{k:Nat}{m:Bx}{C:Ba}{sp e:Sp}(d:Kj P w K mg base k m C sp)(h:∀vs H Q E,e vs H Q E->sp vs H Q E):Kj P w K mg base k m C e:=⟨d.c,let ⟨f,fd,ps,a,b,c⟩:=d.ex;⟨f,fd,ps,a,b.imp h,c⟩⟩
theorem KR{r:V}{k:Kx}(h:∀H:Hp,Th H (HI k) r)(b:∀m,r≠ .ref m:=by intro m z;cases z):∀vs H Q E,fq k vs H Q E->om r vs H Q E:=λvs H Q E a=>(by obtain⟨v,e,q⟩:=a;exact⟨v,e,q r H (BC.refl _) (h H) (λm e=>A38 e (b m))⟩)
theorem bf(T:Tx K mg){k:Kx}:Cm P w K mg base DS 1 552 (Br K 552) Ag (fq (.list k)):=by
 refine T.Sr.ok aR (λvs H Q E h=>?_) (λcdv A outer s H vs Q E b h=>?_)
 ·obtain⟨v,rfl,_⟩:=h;rfl
 ·obtain⟨v,rfl,q⟩:=h;exact⟨_,Bk (BH (DO AZ)),⟨zl 0,λl a=>q (.ref l) _ (BM a) ⟨l,[],rfl,AX,rfl,CH _⟩ (λm e xs z=>by cases e;rw[a]at z;cases z)⟩⟩
theorem vF(T:Tx K mg){k:Kx}(a:k.isK=true):Kj P w K mg base 1 "blank" k.cls (fq k):=by
 cases k with
 |truth=>exact Kj.imp ⟨T.Sv,_,_,_,T.Xb,Yx T,T.az⟩ (KR λ_=>rfl)
 |count=>exact Kj.imp ⟨T.Sw,_,_,_,T.Xd,Yz T,T.aB⟩ (KR λ_=>rfl)
 |whole=>exact Kj.imp ⟨T.Su,_,_,_,T.WZ,Yv T,T.ax⟩ (KR λ_=>rfl)
 |bare=>exact Kj.imp ⟨T.nJ,_,_,_,T.ZR,QC T,T.SA⟩ (KR λ_=>rfl)
 |upto n=>exact Kj.imp ⟨T.My,_,_,_,T.ZM,aZ T,T.eJ⟩ (KR λ_=>rfl)
 |text n=>exact Kj.imp ⟨T.Mz,_,_,_,T.ZO,bc T,T.eM⟩ (KR λ_=>⟨rfl,CH _⟩)
 |form z=>exact Kj.imp ⟨T.IG,_,_,_,T.VX,QC T,T.SA⟩ (KR λ_=>rfl)
 |list k=>exact⟨T.MA,_,_,_,T.ZQ,bf T,T.eP⟩
 |thing d=>cases a
theorem U2(T:Tx K mg){k:Kx}(a:k.fine):Kj P w K mg base 1 "is_plain" k.cls (om (.bl (Ot k))):=by
 cases k with
 |truth=>exact⟨T.Sv,_,_,_,T.RH,Gm T,T.GP⟩
 |count=>exact⟨T.Sw,_,_,_,T.RI,Gm T,T.GP⟩
 |whole=>exact⟨T.Su,_,_,_,T.RG,Gm T,T.GP⟩
 |upto n=>exact⟨T.My,_,_,_,T.Uh,Gm T,T.GP⟩
 |text n=>exact⟨T.Mz,_,_,_,T.Ui,Gm T,T.GP⟩
 |form z=>exact⟨T.IG,_,_,_,T.QQ,Rj T,T.Sz⟩
 |list k=>exact⟨T.MA,_,_,_,T.Uj,UF T,T.Wd⟩
 |bare=>exact a.elim
 |thing d=>exact a.elim
theorem HW(T:Tx K mg):Cm P w K mg base DS 1 405 (Br K 405) Ai (Uz 443 "most"):=by
 refine T.Vj.ok fy (λvs H Q E h=>?_) (λcdv A outer s H vs Q E b h=>?_)
 ·obtain⟨x,dx,v,rfl,_⟩:=h;rfl
 ·obtain⟨x,dx,v,rfl,a,q⟩:=h;exact⟨_,Bk (IZ (pv 0) (pv 1) rfl),⟨_,rfl,_,rfl,x,_,dx,_,rfl,a,T.My,T.NG,Aa,q⟩⟩
theorem HX(T:Tx K mg):Cm P w K mg base DS 1 512 (Br K 512) ["self","item"] (Uz 555 "item"):=by
 refine T.Vk.ok fA (λvs H Q E h=>?_) (λcdv A outer s H vs Q E b h=>?_)
 ·obtain⟨x,dx,v,rfl,_⟩:=h;rfl
 ·obtain⟨x,dx,v,rfl,a,q⟩:=h;exact⟨_,Bk (IZ (pv 0) (pv 1) rfl),⟨_,rfl,_,rfl,x,_,dx,_,rfl,a,T.MA,T.NI,Aa,q⟩⟩
theorem Gk(T:Tx K mg):Cm P w K mg base DS 1 571 (Br K 571) ["self","name"] (Uz 609 "name"):=by
 refine T.Qf.ok Yd (λvs H Q E h=>?_) (λcdv A outer s H vs Q E b h=>?_)
 ·obtain⟨x,dx,v,rfl,_⟩:=h;rfl
 ·obtain⟨x,dx,v,rfl,a,q⟩:=h;exact⟨_,Bk (IZ (pv 0) (pv 1) rfl),⟨_,rfl,_,rfl,x,_,dx,_,rfl,a,T.IG,T.Jx,Aa,q⟩⟩
theorem Fs(T:Tx K mg):Cm P w K mg base DS 1 460 (Br K 460) Ai (Uz 496 "most"):=by
 obtain⟨oc,od,sl,kV,doc,pm,an,cdv,ct,e,lk,a⟩:=HL.Jf T.NQ;rw[e];refine jJ lk a fz (λvs H Q E h=>?_) (λA outer s H vs Q E c h=>?_)
 ·obtain⟨x,dx,v,rfl,_⟩:=h;rfl
 ·obtain⟨x,dx,v,rfl,b,q⟩:=h;exact⟨_,WH.nox (Bk (IZ (pv 0) (pv 1) rfl)),⟨_,rfl,_,rfl,x,_,dx,_,rfl,b,T.Mz,T.NH,Aa,q⟩⟩
theorem Ji(T:Tx K mg):CC K (Br K 460) Ai []:=by
 obtain⟨oc,od,sl,kV,doc,pm,an,cdv,ct,e,lk,b⟩:=HL.Jf T.NQ;obtain⟨o,t,n,h1,h2⟩:=HL.ou T.nw T.nu;rw[e];intro s us X a;rw[De]at a ⊢
 match us,a with
 |[u,v],_=>exact FZ rfl (X _ _ h1) h2 rfl rfl
theorem TK(T:Tx K mg):∃t,CC K (Br K 460) Ai [.int 100 t]:=by
 obtain⟨oc,od,sl,kV,doc,pm,an,cdv,ct,e,lk,c⟩:=HL.Jf T.NQ;obtain⟨o,t,n,h1,h2⟩:=HL.ou T.nw T.nu;refine⟨t,?_⟩;rw[e];intro s us X b;have a:us.length=1:=by rw[Bh]at b;exact HB b
 match us,a with
 |[u],_=>exact FZ rfl (X _ _ h1) h2 rfl rfl
theorem Yw(T:Tx K mg):Cm P w K mg base DS 1 313 (Br K 313) Ah (Ke .truth):=by
 refine T.Qd.ok Yb (λvs H Q E h=>?_) (λcdv A outer s H vs Q E c h=>?_)
 ·obtain⟨v,x,d,rfl,_⟩:=h;rfl
 ·obtain⟨v,x,d,rfl,b,a,q⟩:=h;refine⟨_,Bk (BH (BJ (CY K rfl) rfl T.Ch Cb (AS (pv 1) (AS (kq T.ku gg) AZ)))),?_⟩;exact⟨_,rfl,x,.ty "bool",_,_,_,rfl,a.ty,rfl,R1 T d,q H λ_ _ e=>e⟩
theorem Yy(T:Tx K mg):Cm P w K mg base DS 3 346 (Br K 346) Ah (Ke .count):=by
 have G:Cm P w K mg base DS 2 203 (Br K 203) Ae FT:=GA T;obtain⟨t,c⟩:=T.PD;refine T.Qg.ok Ye (λvs H Q E h=>?_) (λcdv A outer s H vs Q E b h=>?_)
 ·obtain⟨v,x,d,rfl,_⟩:=h;rfl
 ·obtain⟨v,x,d,rfl,f,a,q⟩:=h;refine⟨_,Bk (BH (BX G (b.mono Aa) rfl T.GE T.Ga T.GG .nil BR (AS (pv 1) (AS Bc (AS (lR c) AZ))))),?_⟩;exact⟨_,rfl,x,d,_,_,rfl,a,q H λ_ _ e=>e⟩
theorem Yu(T:Tx K mg):Cm P w K mg base DS 3 379 (Br K 379) Ah (Ke .whole):=by
 have G:Cm P w K mg base DS 2 203 (Br K 203) Ae FT:=GA T;obtain⟨t,a⟩:=T.cT;refine T.Qb.ok XY (λvs H Q E h=>?_) (λcdv A outer s H vs Q E c h=>?_)
 ·obtain⟨v,x,d,rfl,_⟩:=h;rfl
 ·obtain⟨v,x,d,rfl,f,b,q⟩:=h;refine⟨_,Bk (BH (BX G (c.mono Aa) rfl T.GE T.Ga T.GG .nil BR (AS (pv 1) (AS (BO fM (Yq Rc (lR a)) Bc) (AS (lR a) AZ))))),?_⟩;exact⟨_,rfl,_,rfl,_,_,rfl,rfl,x,d,_,_,rfl,b,q H λ_ _ e=>e⟩
theorem aY(T:Tx K mg){n:Int}:Cm P w K mg base DS 3 433 (Br K 433) Ah (Ke (.upto (.int n))):=by
 have G:Cm P w K mg base DS 2 203 (Br K 203) Ae FT:=GA T;refine T.Sj.ok aM (λvs H Q E h=>?_) (λcdv A outer s H vs Q E f h=>?_)
 ·obtain⟨v,x,d,rfl,_⟩:=h;rfl
 ·obtain⟨v,x,d,rfl,⟨a,dx,u,rfl,ha,c⟩,b,q⟩:=h;obtain rfl:u=V.int n:=c;refine⟨_,Bk (BH (BX G (f.mono Aa) rfl T.GE T.Ga T.GG .nil BR (AS (pv 1) (AS Bc (AS (DC (pv 0) rfl) AZ))))),?_⟩;exact⟨_,rfl,_,rfl,a,_,dx,_,_,rfl,ha,T.My,T.NG,rfl,x,d,_,_,rfl,b,q H λ_ _ e=>e⟩
theorem Wm(T:Tx K mg){z:Dt}:Cm P w K mg base DS 1 606 (Br K 606) Ah (Ke (.form z)):=by
 refine T.NU.ok Wh (λvs H Q E h=>?_) (λcdv A outer s H vs Q E c h=>?_)
 ·obtain⟨v,x,d,rfl,_⟩:=h;rfl
 ·obtain⟨v,x,d,rfl,b,a,q⟩:=h;exact⟨_,Bk (BH DR),q H λ_ _ e=>e⟩
def oq:V->Bool
 |.str z=>MD (z.cps.getD 0 0)
 |_=>false
theorem qz(z:Bx): ((tZ z).map oq).all id=z.cps.toList.all MD:=by
 rw[tZ,Cf];exact oS _ _ _ _ λc _=>rfl
theorem bb(T:Tx K mg){n:Int}:Cm P w K mg base DS 2 486 (Br K 486) Ah (Ke (.text (.int n))):=by
 have G:Cm P w K mg base DS 1 222 (Br K 222) ["number"] XM:=md T;refine T.Sl.ok aO (λvs H Q E h=>?_) (λcdv A outer s H vs Q E k h=>?_)
 ·obtain⟨v,x,d,rfl,_⟩:=h;rfl
 ·obtain⟨v,x,d,rfl,⟨a,dx,u,rfl,ha,j⟩,f,q⟩:=h;obtain rfl:u=V.int n:=j;refine⟨_,BW (CV (PW.pt (Oo (Fh (CZ (BJ (CY K rfl) rfl T.Ch Cb (AS (pv 1) (AS (kq T.zG vP) AZ))))) (Ly (CK jl (BJ MS (by rfl) T.Hs Fu (AS (pv 1) AZ)) (DC (pv 0) rfl) (Dc _))))) (Bk (BH DR)) Ci) (Bk (BH (BJ (FX rfl) rfl T.Rz MT (AS (DY (ts:=["sign"]) (xs:=[]) (js:=[]) rfl ⟨rfl,rfl,Ab,Ab,DZ rfl⟩ .nil Ab (ut (pv 1)) (λC s_ H_ fp=>CN (X:=Ee _ _ _ C s_ H_ fp) (i:=0) Q5 rfl (BP rfl) (Di rfl)) (λC s_ H_ fp=>DB (X:=Ee _ _ _ C s_ H_ fp)) (λC s_ H_ fp=>BX (X:=Ee _ _ _ C s_ H_ fp) G (k.mono Aa) rfl T.qb T.br T.qf .nil BR (AS (BJ vN rfl T.W8 U3 (AS (pv 0) AZ)) AZ))) AZ)))),?_⟩;refine⟨_,rfl,x,.ty "str",_,_,_,rfl,f.ty,rfl,A0s T d,_,rfl,?_⟩;cases d with
  |str z=>
   obtain⟨rfl,b⟩:=f;refine Dr ⟨_,rfl,z,rfl,BF b Aa,_,rfl,a,_,dx,_,_,rfl,ha,T.Mz,T.NH,rfl,_,_,rfl,rfl,_,rfl,Kg (λh=>?_) (λh=>?_)⟩
   ·have e:Fp (.text (.int n)) (.str z)=false:=by
     rw[Fp];rw[h];rfl
    rw[e]at q;exact q H λ_ _ e=>e
   ·have h':decide ((z.length:Int) >n)=false:=by simpa using h
    have e:Fp (.text (.int n)) (.str z)=((tZ z).map oq).all id:=by
     rw[Fp];rw[h',qz];rfl
    rw[e]at q;refine⟨_,rfl,z,rfl,UN (Wk.str z) (by rw[Ww];exact b) (A0W oq) (λy g H2 R s2 l=>?_) (λD H2 o s2 m=>?_)⟩
    ·obtain⟨c,hc,rfl⟩:=Bm.mp g;exact⟨Sub.set rfl,_,rfl,_,rfl,rfl,c,rfl,l H2 λ_ _ e=>e⟩
    ·refine⟨D,(tZ z).map oq,rfl,?_,q _ s2⟩;rw[Cf];exact m
  |_=>
   have e:∀d,mB d=false->Fp (.text (.int n)) d=false:=λd hd=>by cases d <;> first|rfl|cases hd
   rw[e _ rfl]at q;exact Er (q H λ_ _ e=>e)
theorem pI(T:Tx K mg){k:Kx}(b:k.flat=true)(a:k.fine):Kj P w K mg base 3 "suits" k.cls (Ke k):=by
 cases k with
 |truth=>exact Kj.mono ⟨T.Sv,_,_,_,T.Xa,Yw T,T.ay⟩ Aa
 |count=>exact⟨T.Sw,_,_,_,T.Xc,Yy T,T.aA⟩
 |whole=>exact⟨T.Su,_,_,_,T.WY,Yu T,T.aw⟩
 |upto n=>obtain⟨n,rfl⟩:=a;exact⟨T.My,_,_,_,T.ZL,aY T,T.eI⟩
 |text n=>obtain⟨n,rfl⟩:=a;exact Kj.mono ⟨T.Mz,_,_,_,T.ZN,bb T,T.eK⟩ Aa
 |form z=>exact Kj.mono ⟨T.IG,_,_,_,T.VW,Wm T,T.Xy⟩ Aa
 |list k=>cases b
 |bare=>exact a.elim
 |thing d=>exact a.elim
theorem Kp{a:Type}(l:List a)(p:a->Bool)(f:Nat->Bool)(h:∀i d,l[i]?=some d->f i=p d): ((Bz l.length).map f).all id=l.all p:=by
 have e: (Bz l.length).map f=l.map p:=by
  apply Nx;intro i;rw[Bj,Bj];by_cases hi:i<l.length
  ·rw[FG hi,AW hi];exact A37 some (h i _ (AW hi))
  ·rw[CW (by rw[Bw];omega),CW (by omega)];rfl
 rw[e,List.all_map];rfl
theorem be(T:Tx K mg){k:Kx}(L:k.flat=true)(r:k.fine):Cm P w K mg base DS 4 545 (Br K 545) Ah (Ke (.list k)):=by
 obtain⟨t,O⟩:=T.Zg;refine T.Sq.ok aQ (λvs H Q E h=>?_) (λcdv A outer s H vs Q E I h=>?_)
 ·obtain⟨v,x,d,rfl,_⟩:=h;rfl
 ·obtain⟨v,x,d,rfl,⟨a,dx,u,rfl,ha,F⟩,o,q⟩:=h;refine⟨_,BW (CV (PW.pt (Oo (Fh (CZ (BJ (CY K rfl) rfl T.Ch Cb (AS (pv 1) (AS (kq T.Il Gi) AZ))))) (Ly (CK jl (BJ Dg (by rfl) T.Hs Fu (AS (pv 1) AZ)) (lR O) (Dc _))))) (Bk (BH DR)) Ci) (Bk (BH (BJ (FX rfl) rfl T.Rz MT (AS (DY (ts:=Ad) (xs:=Ag) (js:=[0]) rfl ⟨rfl,rfl,Ab,Ab,DZ rfl⟩ (.cons rfl (.inl rfl) rfl .nil) Ab (Ez (pv 1)) (λC s_ H_ fp=>CN (X:=Ee _ _ _ C s_ H_ fp) (i:=0) yR rfl (BP rfl) (Di rfl)) (λC s_ H_ fp=>DB (X:=Ee _ _ _ C s_ H_ fp)) (λC s_ H_ fp=>Yr (X:=Ee _ _ _ C s_ H_ fp) (P:=P) (w:=w) (K:=K) (mg:=mg) (base:=base) (k:=3) rfl rfl rfl rfl rfl (Lj (X:=Ee _ _ _ C s_ H_ fp) K rfl (pv 1) rfl) (I.mono Aa) BR (AS (pv 0) AZ))) AZ)))),?_⟩;refine⟨_,rfl,x,.ty "list",_,_,_,rfl,o.ty,rfl,vg T d,_,rfl,?_⟩;cases d with
  |lst l=>
   obtain⟨p,xs,rfl,m,f,J⟩:=o;have c:=f.len;refine Dr ⟨_,rfl,p,_,rfl,.inl (Dk.of m),_,_,rfl,rfl,_,rfl,?_⟩;rw[c];refine Kg (λh=>?_) (λh=>?_)
   ·have e:Fp (.list k) (.lst l)=false:=by
     rw[Fp];rw[h];rfl
    rw[e]at q;exact q H λ_ _ e=>e
   ·have h':decide ((l.length:Int) >20)=false:=by simpa using h
    have e:Fp (.list k) (.lst l)=l.all (Fp k):=by
     rw[Fp];rw[h'];rfl
    rw[e]at q;refine⟨_,rfl,p,rfl,⟨_,Dk.of m⟩,Du (Wk.list (Dk.of m)) (by rw[c];exact J) (λj=>.bl (match l[j]? with|some d=>Fp k d|none=>false)) (λj y B H2 R s2 N=>?_) (λD H2 W s2 S=>?_)⟩
    ·obtain⟨d,hd,G⟩:=f.at j y B;have g:=F.sm (Sm.of s2);obtain⟨b,U,fs,rfl,M,n⟩:=g.ins r.isK;refine⟨Sub.set rfl,_,rfl,a,_,dx,_,_,rfl,s2 _ _ ha,T.MA,T.NI,rfl,b,_,U,fs,_,rfl,M,n _ Aa Aa Aa,pI T L r,_,rfl,_,y,d,rfl,g,Th.sm (Sm.of s2) d y G,λV z=>?_⟩;have:=N V z;rw[hd]at this;exact this
    ·refine⟨D,(Bz xs.length).map λj=>(match l[j]? with|some d=>Fp k d|none=>false),rfl,?_,?_⟩
     ·rw[Cf];exact S
     ·rw[c,Kp l (Fp k) _ (λi d hd=>by rw[hd])];exact q _ s2
  |_=>
   have e:∀d,Pl d=false->Fp (.list k) d=false:=λd hd=>by cases d <;> first|rfl|cases hd
   rw[e _ rfl]at q;exact Er (q H λ_ _ e=>e)
theorem vD(T:Tx K mg){k:Kx}(a:k.fine):Kj P w K mg base 4 "suits" k.cls (Ke k):=by
 by_cases b:k.flat=true
 ·exact Kj.mono (pI T b a) Aa
 ·cases k with
  |list k=>exact⟨T.MA,_,_,_,T.ZP,be T a.1 a.2,T.eO⟩
  |_=>exact A38 rfl b
def Kx.isOf:Kx->Nat->Bool
 |.truth,n=>n==0||n==1
 |.count,n=>n==0||n==2
 |.whole,n=>n==0||n==3
 |.bare,n=>n==0
 |.upto _,n=>n==0||n==4
 |.text _,n=>n==0||n==5
 |.form _,n=>n==0||n==7
 |.list _,n=>n==0||n==6
 |.thing _,_=>false
def Kx.may:Kx->Prop
 |.thing d=>d= .non\/∃z,d= .str z
 |.list k=>k.may
 |_=>True
noncomputable def kcA:List Ba:=[281,323,356,389,443,496,555,609]
theorem mz(T:Tx K mg){H:Hp}{k:Kx}{v:V}(hm:k.may)(h:Rx H k v):∃t,GK K H v t/\Co K t (.ref 281)=some (k.isOf 0)/\Co K t (.ref 323)=some (k.isOf 1)/\Co K t (.ref 356)=some (k.isOf 2)/\Co K t (.ref 389)=some (k.isOf 3)/\Co K t (.ref 443)=some (k.isOf 4)/\Co K t (.ref 496)=some (k.isOf 5)/\Co K t (.ref 555)=some (k.isOf 6)/\Co K t (.ref 609)=some (k.isOf 7):=by
 cases k with
 |truth=>obtain⟨a,dx,rfl,ha⟩:=h;exact⟨_,T.rT ha,T.dt,T.Zr,T.Zs,T.Zq,T.dn,T.dq,T.dr,T.WR⟩
 |count=>obtain⟨a,dx,rfl,ha⟩:=h;exact⟨_,T.rW ha,T.dI,T.ZE,T.ZF,T.ZD,T.dF,T.dG,T.dH,T.WX⟩
 |whole=>obtain⟨a,dx,rfl,ha⟩:=h;exact⟨_,T.rS ha,T.dh,T.Zn,T.Zo,T.Zm,T.de,T.df,T.dg,T.WQ⟩
 |bare=>obtain⟨a,dx,rfl,ha⟩:=h;exact⟨_,T.wD ha,T.gY,T.dD,T.dE,T.dC,T.gU,T.gW,T.gX,T.Zz⟩
 |upto d=>obtain⟨a,dx,u,rfl,ha,_⟩:=h;exact⟨_,T.wA ha,T.gL,T.dj,T.dm,T.di,T.gI,T.gJ,T.gK,T.Zp⟩
 |text d=>obtain⟨a,dx,u,rfl,ha,_⟩:=h;exact⟨_,T.wB ha,T.gP,T.dw,T.dy,T.du,T.gM,T.gN,T.gO,T.Zt⟩
 |form d=>obtain⟨a,dx,u,rfl,ha,_⟩:=h;exact⟨_,T.pR ha,T.Zx,T.WV,T.WW,T.WU,T.Zu,T.Zv,T.Zw,T.VP⟩
 |list d=>obtain⟨a,dx,u,rfl,ha,_⟩:=h;exact⟨_,T.wC ha,T.gT,T.dA,T.dB,T.dz,T.gQ,T.gR,T.gS,T.Zy⟩
 |thing d=>
  rcases hm with rfl|⟨z,rfl⟩
  ·exact⟨_,Th.ty h,T.VO,T.Uc,T.Ue,T.Ub,T.VL,T.VM,T.VN,T.RB⟩
  ·exact⟨_,Th.ty h,T.kB,T.gE,T.gG,T.gD,T.kx,T.ky,T.kA,T.cZ⟩
theorem A0y(k:Kx):k.isOf 0=k.isK:=by cases k <;> rfl
def lV(k:Kx):Dt->Dt
 |.non=>HI k
 |d=>d
def Ob:Sp:=λvs H Q _=>∃a b k d,vs=[a,b]/\Kx.may k/\Rx H k a/\Th H d b/\∀u H',BC H H'->Th H' (lV k d) u->Fl H u->Q u H'
theorem X8{H:Hp}{d:Dt}{v:V}(h:Th H d v)(c:Pl d=false):Fl H v:=λm e xs z=>by
 subst e;cases d with
 |non=>cases h
 |bl b=>cases h
 |int i=>cases h
 |str z=>cases h.1
 |lst l=>cases c
 |dct=>obtain⟨a,e,h⟩:=h;cases e;rw[h]at z;cases z
theorem Yt(T:Tx K mg):Cm P w K mg base DS 2 618 (Br K 618) Aj Ob:=by
 refine T.PY.ok XW (λvs H Q E h=>?_) (λcdv A outer s H vs Q E B h=>?_)
 ·obtain⟨o,n,k,d,rfl,_⟩:=h;rfl
 ·obtain⟨o,n,k,d,rfl,hm,v,hd,q⟩:=h;refine⟨_,BW (CV (PW.pt (Op (CK lW (pv 1) FC (Dc _)) (Pj (CZ (BJ (CY K rfl) rfl T.Ch Cb (AS (pv 0) (AS (Wl T.nc) AZ))))))) (Bk (BH (HU (P:=P) (w:=w) (K:=K) (mg:=mg) (base:=base) (k:=1) rfl rfl rfl rfl rfl (pv 0) (B.mono Aa) BR))) Ci) (BW (CV (CZ (BJ (CY K rfl) rfl T.Ch Cb (AS (pv 1) (AS (kq T.Il Gi) AZ)))) (Bk (BH (Gj FW rfl T.Il Gi (AS (pv 1) AZ)))) Ci) (Bk (BH (pv 1)))),?_⟩;obtain⟨t,ty,r,_⟩:=mz T hm v;rw[A0y]at r;refine⟨_,rfl,rfl,_,rfl,?_⟩;by_cases hn:n= .non
  ·obtain rfl:d= .non:=by
    cases d with
    |non=>rfl
    |bl b=>rw[hn]at hd;cases hd
    |int i=>rw[hn]at hd;cases hd
    |str z=>rw[hn]at hd;cases hd.1
    |lst l=>obtain⟨a,xs,e,_⟩:=hd;rw[hn]at e;cases e
    |dct=>obtain⟨a,e,_⟩:=hd;rw[hn]at e;cases e
   subst hn;refine Wn rfl ⟨_,rfl,o,.ref 281,_,_,_,rfl,ty,rfl,r,_,rfl,?_⟩;cases j:k.isK with
   |true=>
    obtain⟨a,dx,fs,rfl,ha,f⟩:=v.ins j;refine Er ⟨_,rfl,a,_,dx,fs,_,rfl,ha,f _ Aa Aa Aa,vF T j,_,rfl,λu H' s' y f=>?_⟩;exact q u H' s' y f
   |false=>
    refine Dr ⟨_,rfl,.non,.ty "list",_,_,_,rfl,(show Th H .non .non from rfl).ty,rfl,vg T .non,_,rfl,Dr ⟨_,rfl,q .non H (BC.refl _) ?_ (λm e=>by cases e)⟩⟩;cases k with
    |thing d=>exact rfl
    |_=>cases j
  ·have g:lV k d=d:=by
    cases d with
    |non=>exact A38 hd hn
    |_=>rfl
   rw[g]at q;refine Ia hn ⟨_,rfl,n,.ty "list",_,_,_,rfl,hd.ty,rfl,vg T d,_,rfl,?_⟩;cases d with
   |lst l=>
    obtain⟨a,xs,rfl,ha,x,C⟩:=hd;refine Er ⟨_,rfl,a,xs,rfl,.inl (Dk.of ha),λp c=>q (.ref p) _ (BM c) ⟨p,xs,rfl,AX,gq.sm (Sm.of (BM c)) _ _ x,C⟩ (λm e xs z=>by cases e;rw[c]at z;cases z)⟩
   |_=>exact Dr ⟨_,rfl,q _ H (BC.refl _) hd (X8 hd rfl)⟩
structure Fx where
 num:Dt
 nam:Dt
 kind:Kx
 must:Dt
 dfl:Dt
def WI(H:Hp)(f:Fx)(v:V):Prop:=∃a dx n z k m d,v= .ref a/\H a=some (.ins 636 dx [("number",n),("name",z),("kind",k),("must",m),("default",d)])/\Th H f.num n/\Th H f.nam z/\Rx H f.kind k/\Th H f.must m/\Th H f.dfl d
theorem WI.sf{H H':Hp}(s:Sf H H'){f:Fx}{v:V}:WI H f v->WI H' f v
 |⟨a,dx,n,z,k,m,d,e,h,h1,h2,h3,c,b⟩=>⟨a,dx,n,z,k,m,d,e,s _ _ h rfl,Th.sn s.sn _ _ h1,Th.sn s.sn _ _ h2,h3.sn s.sn,Th.sn s.sn _ _ c,Th.sn s.sn _ _ b⟩
inductive Ex where
 |fld (f:Fx)
 |thing (d:Dt)
def Ex.may:Ex->Prop
 |.fld f=>f.kind.may
 |.thing d=>d= .non\/∃z,d= .str z
def OL(H:Hp):Ex->V->Prop
 |.fld f,v=>WI H f v
 |.thing d,v=>Th H d v
theorem OL.sf{H H':Hp}(s:Sf H H'):∀{e:Ex} {v:V},OL H e v->OL H' e v
 |.fld _,_,h=>WI.sf s h
 |.thing d,v,h=>Th.sn s.sn d v h
theorem OL.sm{H H':Hp}(s:Sm H H'){e:Ex}{v:V}(h:OL H e v):OL H' e v:=OL.sf s.sf h
abbrev Es(H:Hp):List Ex->List V->Prop:=Paired (OL H)
theorem Es.sf{H H':Hp}(s:Sf H H'){es:List Ex}{xs:List V}(h:Es H es xs):Es H' es xs:=Paired.mapP h λ_ _ z=>OL.sf s z
theorem Es.sm{H H':Hp}(s:Sm H H'){es:List Ex}{xs:List V}(h:Es H es xs):Es H' es xs:=Es.sf s.sf h
def U9(x:Ba)(H H':Hp):Prop:=∀b o,b≠x->H b=some o->H' b=some o
def KE:Sp:=λvs H Q _=>∃x dx n z a m b k d,vs=[.ref x,n,z,a,m,b]/\H x=some (.ins 636 dx [])/\Kx.may k/\Rx H k a/\Th H d b/\∀u H',U9 x H H'->H' x=some (.ins 636 dx [("number",n),("name",z),("kind",a),("must",m),("default",u)])->Th H' (lV k d) u->Fl H u->Q .non H'
theorem Dw(T:Tx K mg):Cm P w K mg base DS 3 633 (Br K 633) Ak KE:=by
 have G:Cm P w K mg base DS 2 618 (Br K 618) Aj Ob:=Yt T;obtain⟨oc,od,sl,kV,doc,pm,an,cdv,ct,e,lk,f⟩:=HL.Jf T.Kd;rw[e];refine jJ lk f aT (λvs H Q E h=>?_) (λA outer s H vs Q E l h=>?_)
 ·obtain⟨x,dx,n,z,c,m,i,k,d,rfl,_⟩:=h;rfl
 ·obtain⟨x,dx,n,z,c,m,i,k,d,rfl,a,hm,p,hd,q⟩:=h;refine⟨_,WH.nox (BW (IZ (pv 0) (pv 1) rfl) (BW (IZ (pv 0) (pv 2) rfl) (BW (IZ (pv 0) (pv 3) rfl) (BW (IZ (pv 0) (pv 4) rfl) (Bk (IZ (pv 0) (BX G (l.mono Aa) rfl T.ZU T.PL T.au .nil BR (AS (pv 3) (AS (pv 5) AZ))) rfl)))))),?_⟩;refine⟨_,rfl,_,rfl,x,_,dx,_,rfl,a,T.DF,T.IS,Aa,?_⟩;have s1:Sn H (upd H x (.ins 636 dx [("number",n)])):=Sn.upd a rfl;refine⟨_,rfl,_,rfl,x,_,dx,_,rfl,AX,T.DF,T.Ka,by show 1<1000;decide,?_⟩;rw[Fo];refine⟨_,rfl,_,rfl,x,_,dx,_,rfl,AX,T.DF,T.FQ,by show 2<1000;decide,?_⟩;rw[Fo];refine⟨_,rfl,_,rfl,x,_,dx,_,rfl,AX,T.DF,T.IT,by show 3<1000;decide,?_⟩;rw[Fo];have s4:Sn H (upd H x (.ins 636 dx [("number",n),("name",z),("kind",c),("must",m)])):=Sn.upd a rfl;refine⟨_,rfl,_,rfl,c,i,k,d,rfl,hm,p.sn s4,Th.sn s4 _ _ hd,λu H' s' j r=>?_⟩;refine⟨_,rfl,x,_,dx,_,rfl,s' _ _ AX,T.DF,T.Iw,by show 4<1000;decide,?_⟩;refine q u _ (λb o g t=>?_) AX (Th.sn (Sn.upd (s' _ _ AX) rfl) _ _ j) (λm e xs z=>r m e xs (by rw[Bo (λy=>by rw[y,a]at z;cases z)];exact z));rw[Bo g];refine s' _ _ ?_;rw[Bo g];exact t
theorem JC(T:Tx K mg):CC K (Br K 633) Ak []:=by
 obtain⟨oc,od,sl,kV,doc,pm,an,cdv,ct,e,lk,g⟩:=HL.Jf T.Kd;obtain⟨o,n,h1,h2⟩:=HL.ub T.Xp;rw[e];intro s us X f;rw[De]at f ⊢
 match us,f with
 |[u,v,a,b,c,d],_=>exact FZ rfl (X _ _ h1) h2 rfl rfl
theorem JD(T:Tx K mg):CC K (Br K 633) Ak [.none]:=by
 obtain⟨oc,od,sl,kV,doc,pm,an,cdv,ct,e,lk,g⟩:=HL.Jf T.Kd;obtain⟨o,n,h1,h2⟩:=HL.ub T.Xp;rw[e];intro s us X f;have d:us.length=5:=by rw[Bh]at f;exact HB f
 match us,d with
 |[u,v,a,b,c],_=>exact FZ rfl (X _ _ h1) h2 rfl rfl
theorem Ge(T:Tx K mg):CC K (Br K 633) Ak [.bool false,.none]:=by
 obtain⟨oc,od,sl,kV,doc,pm,an,cdv,ct,e,lk,f⟩:=HL.Jf T.Kd;obtain⟨o,n,h1,h2⟩:=HL.ub T.Xp;rw[e];intro s us X d;have c:us.length=4:=by rw[Bh]at d;exact HB (HB d)
 match us,c with
 |[u,v,a,b],_=>exact FZ rfl (X _ _ h1) h2 rfl rfl
def Rt(b H:Hp)(f:Fx)(v:V):Prop:=∃a dx n z k m d,v= .ref a/\H a=some (.ins 636 dx [("number",n),("name",z),("kind",k),("must",m),("default",d)])/\Th H f.num n/\Th H f.nam z/\Rx H f.kind k/\Th H f.must m/\Th H f.dfl d/\Fl b d
theorem Rt.isF{g H:Hp}{f:Fx}{v:V}:Rt g H f v->WI H f v
 |⟨a,dx,n,z,k,m,d,e,h,h1,h2,h3,c,b,_⟩=>⟨a,dx,n,z,k,m,d,e,h,h1,h2,h3,c,b⟩
theorem Rt.back{b H1 H:Hp}(s:BC b H1){f:Fx}{v:V}:Rt H1 H f v->Rt b H f v
 |⟨a,dx,n,z,k,m,d,e,h,h1,h2,h3,i,g,c⟩=>⟨a,dx,n,z,k,m,d,e,h,h1,h2,h3,i,g,c.back s⟩
theorem Fj{H:Hp}{Q:VK}{x dx:Ba}{n z c m j:V}{f:Fx}{d:Dt}(k:H x=none)(h:H dx=none)(g:dx≠x)(hm:f.kind.may)(h1:Th H f.num n)(h2:Th H f.nam z)(h3:Rx H f.kind c)(s:Th H f.must m)(r:Th H d j)(t:f.dfl=lV f.kind d)(q:∀v H',BC H H'->Rt H H' f v->Q v H'):KE (.ref x::[n,z,c,m,j]) (upd (upd H dx (.own x)) x (.ins 636 dx [])) (λv H2=>v= .non/\Q (.ref x) H2) E0:=by
 have b:BC H (upd (upd H dx (.own x)) x (.ins 636 dx [])):=by
  refine(BM h).trans (BM ?_);rw[Bo (DP g)];exact k
 refine⟨x,dx,n,z,c,m,j,f.kind,d,rfl,AX,hm,h3.sm (Sm.of b),Th.sm (Sm.of b) _ _ r,λu H' w e l p=>⟨rfl,?_⟩⟩;have s1:BC H H':=λa o i=>w a o (λz=>by rw[z,k]at i;cases i) (b a o i);refine q _ _ s1 ⟨x,dx,n,z,c,m,u,rfl,e,Th.sm (Sm.of s1) _ _ h1,Th.sm (Sm.of s1) _ _ h2,h3.sm (Sm.of s1),Th.sm (Sm.of s1) _ _ s,?_,p.back b⟩;rw[t];exact l
theorem Gf{c b:Type}{R:c->b->Prop}:∀{l:List c} {m:List b},Paired R l m->∀(i:Nat) y,m[i]?=some y->∃x,l[i]?=some x/\R x y
 |_,_,.nil,i,y,e=>by simp at e
 |_,_,.cons a r,0,y,e=>by simp at e;exact⟨_,rfl,e ▸ a⟩
 |_,_,.cons a r,i+1,y,e=>by simp at e;obtain⟨x,h1,h2⟩:=Gf r i y e;exact⟨x,by simpa using h1,h2⟩
theorem Sm.lam{H H':Hp}(h:Lm H)(s:kn ff H H'):Sm H H':=λa o e n=>s a o (h.ne e λps z=>by rw[z]at n;cases n) e
theorem Lm.same{H H':Hp}(h:Lm H)(s:BC H H'):Lm H':=by
 rcases h with h|⟨c,h1,h2⟩
 ·exact .inl (s _ _ h)
 ·exact .inr ⟨c,s _ _ h1,s _ _ h2⟩
def lp(d:Dt):Bool:=fU d&& !Jd d
def eZ:Ex->Bool
 |.fld f=>lp f.num
 |.thing _=>false
theorem qq{d:Dt}(h:lp d=true):∃i,d= .int i:=by
 cases d with
 |int i=>exact⟨i,rfl⟩
 |_=>cases h
def kOf:Ex->Int
 |.fld f=>(match f.num with|.int i=>i|_=>0)
 |.thing _=>0
theorem WE: ((AM:List Bx) ++ ([]:List Bx)).Nodup:=by decide+kernel
def Qj:Sp:=λvs H Q _=>∃v,vs=[v]/\((∃d,Th H d v/\Pl d=false/\∀H',BC H H'->Q .non H')\/(∃l xs es,v= .ref l/\H l=some (.lst xs)/\Es H es xs/\(∀e∈es,Ex.may e)/\xs.length<64/\Lm H/\∀D ys a H',Sm H H'->Lm H'->H' D=some (.lst ys)->Es H' a ys->a.Perm es->Q (.ref D) H'))
theorem vh{t a b:AY}{x y:Bool}(h1:Co K t a=some x)(h2:Co K t b=some y):EQ K t [a,b]=some (x||y):=by
 unfold EQ;rw[h1];cases x with
 |true=>rfl
 |false=>
  show EQ K t [b]=_;unfold EQ;rw[h2];cases y with
  |true=>rfl
  |false=>rfl
theorem A2d{t a b c:AY}{x y z:Bool}(h1:Co K t a=some x)(h2:Co K t b=some y)(h3:Co K t c=some z):EQ K t [a,b,c]=some (x||y||z):=by
 unfold EQ;rw[h1];cases x with
 |true=>rfl
 |false=>
  show EQ K t [b,c]=_;rw[vh h2 h3,Bool.false_or]
theorem A0t(T:Tx K mg){H:Hp}{e:Ex}{v:V}(hm:e.may)(h:OL H e v):∃t,GK K H v t/\Co K t (.ref 636)=some (match e with|.fld _=>true|.thing _=>false):=by
 cases e with
 |fld f=>obtain⟨a,dx,n,z,k,m,d,rfl,ha,_⟩:=h;exact⟨_,T.rV ha,T.ZC⟩
 |thing d=>
  rcases hm with rfl|⟨z,rfl⟩
  ·exact⟨_,Th.ty h,T.Ud⟩
  ·exact⟨_,Th.ty h,T.gF⟩
theorem aV(T:Tx K mg)(kb:K.In base):Cm P w K mg base DS 3 645 (Br K 645) Al Qj:=by
 have G:Cm P w K mg base DS 1 196 (Br K 196) Ad Le:=Ov T;obtain⟨oc,od,sl,kV,doc,pm,an,cdv,ct,e,lk,a3⟩:=HL.Jf T.ez;have a2:cdv= .ref rC:=T.Wc e;have hB:base.BuiltinsAt mg ff:=HL.A0V kb T.hbm (T.g _ _ T.A1u) Aa Aa Aa;have hC:Iu base rC ff:=HL.zW kb T.hdc;rw[e];refine jJ lk a3 aJ (λvs H Q E h=>?_) (λA outer s H vs Q E hr h=>?_)
 ·obtain⟨v,rfl,_⟩:=h;rfl
 ·obtain⟨v,rfl,h⟩:=h;refine⟨_,WH.nox (BW (CV (Fh (CZ (BJ (TH K rfl) rfl T.Ch Cb (AS (pv 0) (AS (Fq (AS (kq T.Il Gi) (AS (kq T.cN YS) AZ))) AZ))))) (Bk (BH FC)) Ci) (BW (CV (CZ (BJ (FX rfl) rfl T.Rz MT (AS (DY (ts:=AM) (xs:=[]) (js:=[]) rfl ⟨rfl,rfl,Ab,Ab,DZ rfl⟩ .nil Ab (Ez (pv 0)) (λC s_ H_ fp=>CN (X:=Ee _ _ _ C s_ H_ fp) (i:=0) WE rfl (BP rfl) (Di rfl)) (λC s_ H_ fp=>DB (X:=Ee _ _ _ C s_ H_ fp)) (λC s_ H_ fp=>JR (X:=Ee _ _ _ C s_ H_ fp) (BJ (CY K rfl) rfl T.Ch Cb (AS (pv 0) (AS (Wl T.Fc) AZ))) (JQ (BX (X:=Ee _ _ _ C s_ H_ fp) G (hr.mono Aa) rfl T.QR T.Mt T.QY .nil BR (AS (Lj (X:=Ee _ _ _ C s_ H_ fp) K rfl (pv 0) rfl) AZ))))) AZ))) (Bk (BH (lT (y:="field") (fld:="number") (c:=rC) (T:=ff) (pv 0) rfl T.Ry rfl rfl a2 hC hB ⟨λ_ _ _ _=>rfl,rfl,rfl,rfl,Ab,rfl,λ_ _=>rfl,Aa⟩ hr.depth))) Ci) (Bk (BH (Gj FW rfl T.Il Gi (AS (pv 0) AZ)))))),?_⟩;refine⟨_,rfl,zl 2,λtp a0=>?_⟩;have s1:BC H (upd H tp (.tup (["list","tuple"].map V.ty))):=BM a0;rcases h with⟨d,hd,hn,q⟩|⟨l,xs,es,rfl,N,O,hm,hz,hL,q⟩
  ·refine⟨v,tp,_,_,["list","tuple"],rfl,AX,(Th.sm (Sm.of s1) _ _ hd).ty,vh (vg T d) (A2a T d),_,rfl,?_⟩;rw[hn];exact Er (q _ s1)
  ·refine⟨.ref l,tp,.type "list",_,["list","tuple"],rfl,AX,.lst (s1 _ _ N),vh T.HE T.Mn,_,rfl,Dr ?_⟩;have F:=s1 _ _ N;refine⟨_,rfl,l,rfl,⟨_,Dk.of F⟩,Du (Wk.list (Dk.of F)) (by omega) (λj=>.bl (match es[j]? with|some e=>eZ e|none=>false)) (λj y Z H2 R s2 hR=>?_) (λD H2 hD s2 e2=>?_)⟩
   ·obtain⟨e,J,Y⟩:=Gf O j y Z;have x:=OL.sm (Sm.of (s1.trans s2)) Y;have a1:=hm e (Bp J);obtain⟨t,ty,kt⟩:=A0t T a1 x;have r:=hR H2 λ_ _ e=>e;rw[J]at r;refine⟨Sub.set rfl,_,rfl,y,.ref 636,_,_,_,rfl,ty,rfl,kt,_,rfl,?_⟩;cases e with
    |fld f=>
     obtain⟨a,dx,n,z,k,m,d,rfl,ha,h1,_⟩:=x;exact Er ⟨_,rfl,a,_,dx,_,_,rfl,ha,T.DF,T.IS,rfl,n,f.num,rfl,h1,r⟩
    |thing d=>exact Dr r
   ·refine⟨D,(Bz xs.length).map λj=>(match es[j]? with|some e=>eZ e|none=>false),rfl,by rw[Cf];exact e2,_,rfl,?_⟩;have b:es.length=xs.length:=O.length;have o:=s1.trans s2;have L:=Es.sm (Sm.of o) O;rw[<-b,Kp es eZ _ (λi d hd=>by rw[hd])];refine Kg (λh=>?_) (λh=>?_)
    ·have hw:∀e∈es,eZ e=true:=BI.mp h;have I: (es.map kOf).length=xs.length:=by rw[AV];exact b
     refine⟨_,rfl,hL.same o,l,xs,es.map kOf,rfl,o _ _ N,hz,I,(λi v k h1 h2=>?_),λD2 ys H4 b8 sT a4 U ho=>?_⟩
     ·obtain⟨e,J,Z⟩:=Gf L i v h1;have B:=hw e (Bp J);rw[Bj,J]at h2;obtain rfl:kOf e=k:=AR h2;cases e with
      |thing d=>cases B
      |fld f=>
       obtain⟨S,hi⟩:=qq (show lp f.num=true from B);obtain⟨a,dx,n,z,kk,m,d,rfl,ha,M,_⟩:=Z;have ek:kOf (.fld f)=S:=by show(match f.num with|.int i=>i|_=>0)=S;rw[hi]
       rw[hi]at M;obtain rfl:n=V.int S:=M;rw[ek];exact⟨a,_,dx,_,rfl,ha,T.DF,T.IS,rfl⟩
     ·have sm:Sm H2 H4:=Sm.lam (hL.same o) sT;obtain⟨a6,pe,re⟩:=L2.Paired.perm (ho.perm I).symm (Es.sm sm L);exact q D2 ys a6 H4 ((Sm.of o).trans sm) a4 U re pe
    ·refine⟨_,rfl,l,xs,rfl,.inl (Dk.of (o _ _ N)),λp hp=>?_⟩;have s4:=o.trans (BM (u:=.lst xs) hp);exact q p xs es _ (Sm.of s4) (hL.same s4) AX (Es.sm (Sm.of s4) O) (.refl _)
open PySem.W (sortI)
theorem jx: ((["number"]:List Bx) ++ ([]:List Bx)).Nodup:=by decide+kernel
def Oa:Sp:=λvs H Q _=>∃v,vs=[v]/\((v= .non/\M0 H Q [])\/∃(l:Ba) (ns:List Int),v= .ref l/\H l=some (.lst (ns.map V.int))/\ns.length<64/\M0 H Q ((sortI ns).map V.int))
theorem we{a:Type}(l:List a): (l.map λ_=>true).all id=true:=by
 induction l with
 |nil=>rfl
 |cons x l b=>rw[BV,HN,b];rfl
theorem Ys(T:Tx K mg):Cm P w K mg base DS 2 650 (Br K 650) ["numbers"] Oa:=by
 have G:Cm P w K mg base DS 1 196 (Br K 196) Ad Le:=Ov T;refine T.PX.ok XU (λvs H Q E h=>?_) (λcdv A outer s H vs Q E m h=>?_)
 ·obtain⟨v,rfl,_⟩:=h;rfl
 ·obtain⟨v,rfl,h⟩:=h;refine⟨_,BW (CV (CK lW (pv 0) FC (Dc _)) (Bk (BH (DO AZ))) Ci) (BW (CV (Fh (CZ (BJ (TH K rfl) rfl T.Ch Cb (AS (pv 0) (AS (Fq (AS (kq T.Il Gi) (AS (kq T.cN YS) AZ))) AZ))))) (Bk (BH FC)) Ci) (BW (CV (CZ (BJ (FX rfl) rfl T.Rz MT (AS (DY (ts:=["number"]) (xs:=[]) (js:=[]) rfl ⟨rfl,rfl,Ab,Ab,DZ rfl⟩ .nil Ab (Ez (pv 0)) (λC s_ H_ fp=>CN (X:=Ee _ _ _ C s_ H_ fp) (i:=0) jx rfl (BP rfl) (Di rfl)) (λC s_ H_ fp=>DB (X:=Ee _ _ _ C s_ H_ fp)) (λC s_ H_ fp=>BX (X:=Ee _ _ _ C s_ H_ fp) G (m.mono Aa) rfl T.QR T.Mt T.QY .nil BR (AS (pv 0) AZ))) AZ))) (Bk (BH (BJ Md rfl T.Ry UO (AS (pv 0) AZ)))) Ci) (Bk (BH (Gj FW rfl T.Il Gi (AS (pv 0) AZ)))))),?_⟩;refine⟨_,rfl,rfl,_,rfl,?_⟩;rcases h with⟨rfl,q⟩|⟨l,ns,rfl,g,j,q⟩
  ·exact Wn rfl ⟨zl 0,λp a=>q p _ a (BM a) AX⟩
  ·refine Ia (by intro z;cases z) ⟨_,rfl,zl 2,λtp d=>?_⟩;have s1:BC H (upd H tp (.tup (["list","tuple"].map V.ty))):=BM d;refine⟨.ref l,tp,.type "list",_,["list","tuple"],rfl,AX,.lst (s1 _ _ g),vh T.HE T.Mn,_,rfl,Dr ?_⟩;have b:=s1 _ _ g;refine⟨_,rfl,l,rfl,⟨_,Dk.of b⟩,UN (Wk.list (Dk.of b)) (by rw[AV];omega) (λ_=>.bl true) (λy k H2 R s2 n=>?_) (λD H2 t s2 r=>?_)⟩
   ·obtain⟨i,hi,rfl⟩:=Bm.mp k;exact⟨Sub.set rfl,_,rfl,.int i,.int i,rfl,rfl,n H2 λ_ _ e=>e⟩
   ·have c:=s1.trans s2;refine⟨D,(ns.map V.int).map λ_=>true,rfl,by rw[Cf];exact r,_,rfl,?_⟩;rw[we];refine Er ⟨_,rfl,l,ns,rfl,Dk.of (c _ _ g),j,λp a=>?_⟩;have f:H p=none:=by
     cases z:H p with
     |none=>rfl
     |some o=>rw[c _ _ z]at a;cases a
    exact q p _ f (c.trans (BM a)) AX
structure Gx where
 choice:Bool
 nam:Dt
 fields:Option (List Ex)
 gone:List Int
def V5(c:Bool):Ba:=if c then 729 else 710
def gk(H:Hp):Option (List Ex)->V->Prop
 |none,v=>v= .non
 |some es,v=>∃l xs,v= .ref l/\H l=some (.lst xs)/\Es H es xs
def OK(H:Hp)(g:Gx)(v:V):Prop:=∃a dx z f l,v= .ref a/\H a=some (.ins (V5 g.choice) dx [("name",z),("fields",f),("gone",.ref l)])/\Th H g.nam z/\gk H g.fields f/\H l=some (.lst (g.gone.map V.int))
theorem gk.sf{H H':Hp}(s:Sf H H'):∀{o:Option (List Ex)} {v:V},gk H o v->gk H' o v
 |none,_,h=>h
 |some _,_,⟨l,xs,e,h,r⟩=>⟨l,xs,e,s _ _ h rfl,Es.sf s r⟩
theorem gk.sm{H H':Hp}(s:Sm H H'){o:Option (List Ex)}{v:V}(h:gk H o v):gk H' o v:=h.sf s.sf
theorem OK.sm{H H':Hp}(s:Sm H H'){g:Gx}{v:V}:OK H g v->OK H' g v
 |⟨a,dx,z,f,l,e,h,h1,h2,h3⟩=>⟨a,dx,z,f,l,e,s _ _ h rfl,Th.sm s _ _ h1,h2.sm s,s _ _ h3 rfl⟩
def gm(H:Hp):Option (List Ex)->V->Prop
 |none,v=>∃d,Th H d v/\Pl d=false
 |some es,v=>∃l xs,v= .ref l/\H l=some (.lst xs)/\Es H es xs/\(∀e∈es,Ex.may e)/\xs.length<64
def TQ:Option (List Ex)->Option (List Ex)->Prop
 |none,none=>True
 |some a,some b=>a.Perm b
 |_,_=>False
def mV(H:Hp)(ns:List Int)(v:V):Prop:=(v= .non/\ns=[])\/∃l,v= .ref l/\H l=some (.lst (ns.map V.int))/\ns.length<64
def A1a(x:Ba)(H H':Hp):Prop:=∀b o,b≠x->H b=some o->tbF o=false->H' b=some o
theorem gm.sf{H H':Hp}(s:Sf H H'):∀{o:Option (List Ex)} {v:V},gm H o v->gm H' o v
 |none,_,⟨d,h,n⟩=>⟨d,Th.sn s.sn _ _ h,n⟩
 |some _,_,⟨l,xs,e,h,r,m,z⟩=>⟨l,xs,e,s _ _ h rfl,Es.sf s r,m,z⟩
theorem mV.sf{H H':Hp}(s:Sf H H'){ns:List Int}{v:V}:mV H ns v->mV H' ns v
 |.inl h=>.inl h
 |.inr ⟨l,e,h,z⟩=>.inr ⟨l,e,s _ _ h rfl,z⟩
theorem Lm.put{H:Hp}(h:Lm H){x C dx:Ba}{fs:List (Bx×V)}{u:HO}(a:H x=some (.ins C dx fs)):Lm (upd H x u):=by
 have ne:∀{b:Ba} {o:HO},H b=some o->(∀C dx fs,o≠ .ins C dx fs)->upd H x u b=some o:=λe n=>by
  rw[Bo]
  ·exact e
  ·rintro rfl;rw[a]at e;exact n _ _ _ (AR e).symm
 rcases h with h|⟨c,h1,h2⟩
 ·exact .inl (ne h λ_ _ _ z=>by cases z)
 ·exact .inr ⟨c,ne h1 (λ_ _ _ z=>by cases z),ne h2 (λ_ _ _ z=>by cases z)⟩
def SJ(C:Ba):Sp:=λvs H Q _=>∃x dx z fv a o ns,vs=[.ref x,z,fv,a]/\H x=some (.ins C dx [])/\gm H o fv/\mV H ns a/\Lm H/\∀u l o' H',A1a x H H'->Lm H'->H' x=some (.ins C dx [("name",z),("fields",u),("gone",.ref l)])->gk H' o' u->TQ o' o->H' l=some (.lst ((sortI ns).map V.int))->Q .non H'
structure wo(K:Be)(C:Ba):Prop where
 cl:TZ K C
 n1:HJ K C "name"
 n2:HJ K C "fields"
 n3:HJ K C "gone"
 pf:∀dx fs,pfO (.ins C dx fs)=false
theorem zn(T:Tx K mg):wo K 696:=⟨T.nK,T.hI,T.ZI,T.hJ,λ_ _=>rfl⟩
theorem Ib(T:Tx K mg):wo K 710:=⟨T.Ur,T.ZG,T.VT,T.ZH,λ_ _=>rfl⟩
theorem Mc(T:Tx K mg):wo K 729:=⟨T.Us,T.ZJ,T.VU,T.ZK,λ_ _=>rfl⟩
theorem UM(T:Tx K mg)(c:Bool):wo K (V5 c):=by
 cases c
 ·exact Ib T
 ·exact Mc T
theorem EH(T:Tx K mg)(W:K.In base){C:Ba}(f:wo K C):Cm P w K mg base DS 4 665 (Br K 665) Am (SJ C):=by
 have G1:Cm P w K mg base DS 3 645 (Br K 645) Al Qj:=aV T W;have G2:Cm P w K mg base DS 2 650 (Br K 650) ["numbers"] Oa:=Ys T;obtain⟨oc,od,sl,kV,doc,pm,an,cdv,ct,e,lk,J⟩:=HL.Jf T.NR;rw[e];refine jJ lk J fD (λvs H Q E h=>?_) (λA outer s H vs Q E R h=>?_)
 ·obtain⟨x,dx,z,fv,N,o,ns,rfl,_⟩:=h;rfl
 ·obtain⟨x,dx,z,fv,N,o,ns,rfl,y,U,S,Y,q⟩:=h;refine⟨_,WH.nox (BW (IZ (pv 0) (pv 1) rfl) (BE (IZ (pv 0) (BX G1 (R.mono Aa) rfl T.dO T.RM T.eC .nil BR (AS (pv 2) AZ)) rfl) (Bk (IZ (pv 0) (BX G2 (R.mono Aa) rfl T.ZT T.PH T.ar .nil BR (AS (pv 3) AZ)) rfl)))),?_⟩;refine⟨_,rfl,_,rfl,x,_,dx,_,rfl,y,f.cl,f.n1,Aa,?_⟩;have s1:Sf H (upd H x (.ins C dx [("name",z)])):=Sf.upd y (f.pf _ _);have p:Lm (upd H x (.ins C dx [("name",z)])):=Y.put y;have c:∀{H1:Hp} {u:V},H1 x=some (.ins C dx [("name",z)])->Sf H1 (upd H1 x (.ins C dx [("name",z),("fields",u)])):=λh=>Sf.upd h (f.pf _ _);refine Df (λk H'=>k=[some (.ref x),some z,some fv,some N]/\∃u o',A1a x H H'/\Lm H'/\H' x=some (.ins C dx [("name",z),("fields",u)])/\gk H' o' u/\TQ o' o/\mV H' ns N) ?_ ?_
  ·cases o with
   |none=>
    obtain⟨d,hd,hn⟩:=U;refine⟨_,rfl,_,rfl,.inl ⟨d,Th.sn s1.sn _ _ hd,hn,λH' s'=>?_⟩⟩;have a:=s' _ _ AX;refine⟨_,rfl,x,C,dx,_,rfl,a,f.cl,f.n2,by show 1<1000;decide,rfl,.non,none,λb o i r tb=>?_,(p.same s').put a,AX,rfl,trivial,((S.sf s1).sf (Sm.of s').sf).sf (c a)⟩;rw[Bo i];exact s' _ _ (by rw[Bo i];exact r)
   |some es=>
    obtain⟨l,xs,rfl,n,X,hm,v⟩:=U;refine⟨_,rfl,_,rfl,.inr ⟨l,xs,es,rfl,s1 _ _ n rfl,Es.sf s1 X,hm,v,p,λD ys O H' s' M Z I B=>?_⟩⟩;have a:=s' _ _ AX rfl;refine⟨_,rfl,x,C,dx,_,rfl,a,f.cl,f.n2,by show 1<1000;decide,rfl,.ref D,some O,λb o i r tb=>?_,M.put a,AX,⟨D,ys,rfl,c a _ _ Z rfl,Es.sf (c a) I⟩,B,((S.sf s1).sf s'.sf).sf (c a)⟩;rw[Bo i];exact s' _ _ (by rw[Bo i];exact r) tb
  ·rintro k H1 ⟨rfl,u,o',bt,L,j,G,B,F⟩;have key:∀l H2,BC H1 H2->H2 l=some (.lst ((sortI ns).map V.int))->Q .non (upd H2 x (.ins C dx [("name",z),("fields",u),("gone",.ref l)])):=λl H2 g t=>by
    have m:=g _ _ j;have s4:Sf H2 (upd H2 x (.ins C dx [("name",z),("fields",u),("gone",.ref l)])):=Sf.upd m (f.pf _ _);refine q u l o' _ (λb o i r tb=>?_) ((L.same g).put m) AX ((G.sf (Sm.of g).sf).sf s4) B (s4 _ _ t rfl);rw[Bo i];exact g _ _ (bt b o i r tb)
   rcases F with⟨rfl,rfl⟩|⟨l,rfl,n,v⟩
   ·exact⟨_,rfl,_,rfl,.inl ⟨rfl,λl H2 n g t=>⟨_,rfl,x,C,dx,_,rfl,g _ _ j,f.cl,f.n3,by show 2<1000;decide,key l H2 g t⟩⟩⟩
   ·exact⟨_,rfl,_,rfl,.inr ⟨l,ns,rfl,n,v,λl H2 n g t=>⟨_,rfl,x,C,dx,_,rfl,g _ _ j,f.cl,f.n3,by show 2<1000;decide,key l H2 g t⟩⟩⟩
theorem Ki(T:Tx K mg):CC K (Br K 665) Am []:=by
 obtain⟨oc,od,sl,kV,doc,pm,an,cdv,ct,e,lk,d⟩:=HL.Jf T.NR;obtain⟨o,n,h1,h2⟩:=HL.zN T.ny;rw[e];intro s us X c;rw[De]at c ⊢
 match us,c with
 |[u,v,a,b],_=>exact FZ rfl (X _ _ h1) h2 rfl rfl
theorem GJ(T:Tx K mg):CC K (Br K 665) Am [.none]:=by
 obtain⟨oc,od,sl,kV,doc,pm,an,cdv,ct,e,lk,d⟩:=HL.Jf T.NR;obtain⟨o,n,h1,h2⟩:=HL.zN T.ny;rw[e];intro s us X c;have b:us.length=3:=by rw[Bh]at c;exact HB c
 match us,b with
 |[u,v,a],_=>exact FZ rfl (X _ _ h1) h2 rfl rfl
theorem HZ{H:Hp}{Q:VK}{x dx:Ba}{z fv i:V}{c:Bool}{nm:Dt}{o:Option (List Ex)}{ns:List Int}(k:H x=none)(g:H dx=none)(d:dx≠x)(h1:Th H nm z)(h2:gm H o fv)(h3:mV H ns i)(p:Lm H)(q:∀v o' H',Sm H H'->Lm H'->TQ o' o->OK H' ⟨c,nm,o',sortI ns⟩ v->Q v H'):SJ (V5 c) (.ref x::[z,fv,i]) (upd (upd H dx (.own x)) x (.ins (V5 c) dx [])) (λv H2=>v= .non/\Q (.ref x) H2) E0:=by
 have b:BC H (upd (upd H dx (.own x)) x (.ins (V5 c) dx [])):=by
  refine(BM g).trans (BM ?_);rw[Bo (DP d)];exact k
 refine⟨x,dx,z,fv,i,o,ns,rfl,AX,h2.sf (Sm.of b).sf,h3.sf (Sm.of b).sf,p.same b,λu l o' H' r h e f m n=>⟨rfl,?_⟩⟩;have s1:Sm H H':=λa o j tb=>r a o (λz=>by rw[z,k]at j;cases j) (b a o j) tb;exact q _ o' _ s1 h m ⟨x,dx,z,u,l,rfl,e,Th.sm s1 _ _ h1,f,n⟩
def Gz(g:Gx):Bool:=match g.fields with
 |none=>false
 |some es=>KZ (.int es.length) (if g.choice then 1 else 0) 10&&decide ((g.gone.length:Int)<=10)
def zi:Ex->Bool
 |.fld _=>true
 |.thing _=>false
def Rl:Ex->Dt
 |.fld f=>f.nam
 |.thing _=>.non
def XF:Dt->Bx
 |.str z=>z
 |_=>""
def vj:Dt->Int
 |.int i=>i
 |_=>0
def Tn:Ex->Dt
 |.fld f=>f.num
 |.thing _=>.non
def Gb(es:List Ex):Bool:=es.all (λe=>ED (Rl e)) &&decide ((es.map λe=>XF (Rl e)).Nodup)
def JF(es:List Ex)(gone:List Int):List Int:=es.map (λe=>vj (Tn e)) ++gone
def Ec(es:List Ex)(gone:List Int):Bool:=(es.all (λe=>KZ (Tn e) 1 200) &&gone.all (λi=>KZ (.int i) 1 200)) &&decide ((JF es gone).Nodup)
def Qk:Sp:=λvs H Q _=>∃v g,vs=[v]/\OK H g v/\(∀es,g.fields=some es->es.length<64)/\g.gone.length<64/\Q (.bl (Gz g)) H
def bJ:Sp:=λvs H Q _=>∃(l:Ba) (zs:List Bx),vs=[.ref l]/\H l=some (.lst (zs.map V.str))/\zs.length<=100/\Q (.bl (decide zs.Nodup)) H
def bK:Sp:=λvs H Q _=>∃(l:Ba) (ns:List Int),vs=[.ref l]/\H l=some (.lst (ns.map V.int))/\ns.length<=100/\Q (.bl (decide ns.Nodup)) H
theorem pD{κ:Type} [DecidableEq κ](d:κ)(ks:List κ):decide (V.int (jS d ks:Int)=V.int (ks.length:Int))=decide ks.Nodup:=by
 rw[decide_eq_decide];constructor
 ·intro h;exact(jR d ks).mp (Int.ofNat.inj (V.int.inj h))
 ·intro h;rw[(jR d ks).mpr h]
theorem lY(T:Tx K mg):Cm P w K mg base DS 1 738 (Br K 738) ["things"] bJ:=by
 refine T.Mx.ok Qo (λvs H Q E h=>?_) (λcdv A outer s H vs Q E c h=>?_)
 ·obtain⟨l,zs,rfl,_⟩:=h;rfl
 ·obtain⟨l,zs,rfl,a,b,q⟩:=h;refine⟨_,Bk (BH (GH Gg (bS (mk:=V.str) ("" :Bx) (strKind _ _) jd rfl (pv 0) rfl T.Hs Fu rfl T.zH vQ) (BJ Dg (by rfl) T.Hs Fu (AS (pv 0) AZ)) (Dc _))),?_⟩;refine⟨_,rfl,l,zs,rfl,Dk.of a,b,_,rfl,l,_,rfl,.inl (Dk.of a),rfl,?_⟩;rw[AV,pD];exact q
theorem lZ(T:Tx K mg):Cm P w K mg base DS 1 738 (Br K 738) ["things"] bK:=by
 refine T.Mx.ok Qo (λvs H Q E h=>?_) (λcdv A outer s H vs Q E c h=>?_)
 ·obtain⟨l,zs,rfl,_⟩:=h;rfl
 ·obtain⟨l,zs,rfl,a,b,q⟩:=h;refine⟨_,Bk (BH (GH Gg (bS (mk:=V.int) (0:Int) (intKind _ _) je rfl (pv 0) rfl T.Hs Fu rfl T.zH vQ) (BJ Dg (by rfl) T.Hs Fu (AS (pv 0) AZ)) (Dc _))),?_⟩;refine⟨_,rfl,l,zs,rfl,Dk.of a,b,_,rfl,l,_,rfl,.inl (Dk.of a),rfl,?_⟩;rw[AV,pD];exact q
theorem WG(T:Tx K mg)(c:Bool):Kj P w K mg base 1 "is_choice" (V5 c) (om (.bl c)):=by
 cases c with
 |false=>exact⟨T.Ur,_,_,_,T.Pt,Tk T,T.Uv⟩
 |true=>exact⟨T.Us,_,_,_,T.Pu,Py T,T.Ra⟩
theorem aW(T:Tx K mg):Cm P w K mg base DS 3 745 (Br K 745) ["form"] Qk:=by
 have G:Cm P w K mg base DS 2 203 (Br K 203) Ae FT:=GA T;obtain⟨_,F⟩:=T.Zh;obtain⟨_,D⟩:=T.gC;refine T.Se.ok Qm (λvs H Q E h=>?_) (λcdv A outer s H vs Q E t h=>?_)
 ·obtain⟨v,g,rfl,_⟩:=h;rfl
 ·obtain⟨v,g,rfl,⟨a,dx,z,f,l,rfl,ha,hn,n,x⟩,r,y,q⟩:=h;have o:=UM T g.choice;refine⟨_,BW (CV (PW.pt (Oo (Fh (CZ (BJ (CY K rfl) rfl T.Ch Cb (AS (DC (pv 0) rfl) (AS (kq T.Il Gi) AZ))))) (Ly (Fh (CZ (BJ (CY K rfl) rfl T.Ch Cb (AS (DC (pv 0) rfl) (AS (kq T.Il Gi) AZ)))))))) (Bk (BH DR)) Ci) (BE (Ct (i:=1) Qm.nd rfl (BP rfl) (KL (CZ (HU (P:=P) (w:=w) (K:=K) (mg:=mg) (base:=base) (k:=1) rfl rfl rfl rfl rfl (pv 0) (t.mono Aa) BR)) Bc Bc)) (Bk (BH (JR (BX G (t.mono Aa) rfl T.GE T.Ga T.GG .nil BR (AS (BJ Dg (by rfl) T.Hs Fu (AS (DC (pv 0) rfl) AZ)) (AS (pv 1) (AS (lR F) AZ)))) (JQ (GH bT (BJ Dg (by rfl) T.Hs Fu (AS (DC (pv 0) rfl) AZ)) (lR D) (Dc _))))))),?_⟩;have fld:∀{Q:V->Prop},Q f->∃b C c fs v,V.ref a= .ref b/\H b=some (.ins C c fs)/\TZ K C/\HJ K C "fields" /\fs.lookup ("fields" :Bx)=some v/\Q v:=λh=>⟨a,_,dx,_,f,rfl,ha,o.cl,o.n2,rfl,h⟩;have m:∀{Q:V->Prop},Q (.ref l)->∃b C c fs v,V.ref a= .ref b/\H b=some (.ins C c fs)/\TZ K C/\HJ K C "gone" /\fs.lookup ("gone" :Bx)=some v/\Q v:=λh=>⟨a,_,dx,_,.ref l,rfl,ha,o.cl,o.n3,rfl,h⟩;cases j:g.fields with
  |none=>
   rw[j]at n;obtain rfl:f=V.non:=n;rw[show Gz g=false by unfold Gz;rw[j]]at q;exact⟨_,rfl,fld ⟨.non,.ty "list",_,_,_,rfl,(show Th H .non .non from rfl).ty,rfl,vg T .non,_,rfl,Er q⟩⟩
  |some es=>
   rw[j]at n;obtain⟨p,xs,rfl,u,B⟩:=n;have e:es.length=xs.length:=B.length;have I:=r es j;rw[show Gz g=(KZ (.int es.length) (if g.choice then 1 else 0) 10&&decide ((g.gone.length:Int)<=10))by unfold Gz;rw[j]]at q
   refine⟨_,rfl,fld ⟨.ref p,.ty "list",_,_,_,rfl,.lst u,rfl,T.HE,_,rfl,Dr ⟨_,rfl,m ⟨.ref l,.ty "list",_,_,_,rfl,.lst x,rfl,T.HE,_,rfl,Dr ?_⟩⟩⟩⟩;refine Df (λd H'=>d=[some (.ref a),some (.int (if g.choice then 1 else 0))]/\H'=H) ?_ ?_
   ·refine⟨_,rfl,a,_,dx,_,_,rfl,ha,rfl,WG T g.choice,_,rfl,_,rfl,?_⟩;cases hc:g.choice with
    |true=>exact Er ⟨rfl,rfl⟩
    |false=>exact Dr ⟨rfl,rfl⟩
   ·rintro d H' ⟨rfl,rfl⟩;refine⟨_,rfl,fld ⟨p,xs,rfl,.inl (Dk.of u),_,rfl,.int _,.int _,_,_,rfl,rfl,_,rfl,?_⟩⟩;rw[<-e];refine Kg (λh=>?_) (λh=>?_)
    ·rw[h,Ew]at q;refine⟨_,rfl,m ⟨l,_,rfl,.inl (Dk.of x),_,_,rfl,rfl,?_⟩⟩;rw[AV];exact q
    ·have h':KZ (.int es.length) (if g.choice then 1 else 0) 10=false:=by simpa using h
     rw[h',DK]at q;exact q
theorem HS{b a:Type}(l:List b)(p:b->a)(f:Nat->a)(h:∀i d,l[i]?=some d->f i=p d): (Bz l.length).map f=l.map p:=by
 apply Nx;intro i;rw[Bj,Bj];by_cases hi:i<l.length
 ·rw[FG hi,AW hi];exact A37 some (h i _ (AW hi))
 ·rw[CW (by rw[Bw];omega),CW (by omega)];rfl
def iJ:Sp:=λvs H Q _=>∃l xs es,vs=[.ref l]/\H l=some (.lst xs)/\Es H es xs/\(∀e∈es,Ex.may e)/\xs.length<64/\∀H',BC H H'->Q (.bl (Gb es)) H'
theorem Ow{d:Dt}(h:ED d=true):∃z,d= .str z:=by
 cases d with
 |str z=>exact⟨z,rfl⟩
 |_=>cases h
theorem Es.nums{H:Hp}:∀{es:List Ex} {xs:List V},Es H es xs->(∀e∈es,zi e=true)->∃ns:List V,Paired (λe n=>Th H (Tn e) n) es ns/\Paired (λy n=>∃a dx z k m d,y=V.ref a/\H a=some (.ins 636 dx [("number",n),("name",z),("kind",k),("must",m),("default",d)])) xs ns
 |_,_,.nil,_=>⟨[],.nil,.nil⟩
 |e::es,_,.cons a r,h=>by
  obtain⟨ns,h1,h2⟩:=Es.nums r λe c=>h e (CJ _ c);have:=h e (Ds ..);cases e with
  |thing d=>cases this
  |fld f=>
   obtain⟨b,dx,n,z,k,m,d,j,i,g,_⟩:=a;exact⟨n::ns,.cons g h1,.cons ⟨b,dx,z,k,m,d,j,i⟩ h2⟩
theorem uL(T:Tx K mg):Cm P w K mg base DS 4 750 (Br K 750) Al iJ:=by
 have G:Cm P w K mg base DS 3 215 (Br K 215) Ad KD:=MM T;have G2:Cm P w K mg base DS 1 738 (Br K 738) ["things"] bJ:=lY T;refine T.KA.ok Pw (λvs H Q E h=>?_) (λcdv A outer s H vs Q E S h=>?_)
 ·obtain⟨l,xs,es,rfl,_⟩:=h;rfl
 ·obtain⟨l,xs,es,rfl,J,M,hm,hz,q⟩:=h;refine⟨_,BW (CV (Fh (CZ (BJ (FX rfl) rfl T.Rz MT (AS (DY (ts:=AM) (xs:=[]) (js:=[]) rfl ⟨rfl,rfl,Ab,Ab,DZ rfl⟩ .nil Ab (Ez (pv 0)) (λC s_ H_ fp=>CN (X:=Ee _ _ _ C s_ H_ fp) (i:=0) WE rfl (BP rfl) (Di rfl)) (λC s_ H_ fp=>DB (X:=Ee _ _ _ C s_ H_ fp)) (λC s_ H_ fp=>JR (X:=Ee _ _ _ C s_ H_ fp) (BJ (CY K rfl) rfl T.Ch Cb (AS (pv 0) (AS (Wl T.Fc) AZ))) (JQ (BX (X:=Ee _ _ _ C s_ H_ fp) G (S.mono Aa) rfl T.Pc T.LP T.Pe .nil BR (AS (Lj (X:=Ee _ _ _ C s_ H_ fp) K rfl (pv 0) rfl) AZ))))) AZ)))) (Bk (BH DR)) Ci) (Bk (BH (BX G2 (S.mono Aa) rfl T.RL T.Mv T.Sy .nil BR (AS (DY (ts:=AM) (xs:=[]) (js:=[]) rfl ⟨rfl,rfl,Ab,Ab,DZ rfl⟩ .nil Ab (Ez (pv 0)) (λC s_ H_ fp=>CN (X:=Ee _ _ _ C s_ H_ fp) (i:=0) WE rfl (BP rfl) (Di rfl)) (λC s_ H_ fp=>DB (X:=Ee _ _ _ C s_ H_ fp)) (λC s_ H_ fp=>Lj (X:=Ee _ _ _ C s_ H_ fp) K rfl (pv 0) rfl)) AZ)))),?_⟩;have g:es.length=xs.length:=M.length;refine⟨_,rfl,l,rfl,⟨_,Dk.of J⟩,Du (Wk.list (Dk.of J)) (by omega) (λj=>.bl (match es[j]? with|some e=>ED (Rl e)|none=>false)) (λj y I H2 R s2 x=>?_) (λD H2 hD s2 e2=>?_)⟩
  ·obtain⟨e,v,o⟩:=Gf M j y I;have b:=OL.sm (Sm.of s2) o;obtain⟨t,ty,W⟩:=A0t T (hm e (Bp v)) b;rw[v]at x;refine⟨Sub.set rfl,_,rfl,y,.ref 636,_,_,_,rfl,ty,rfl,W,_,rfl,?_⟩;cases e with
   |fld f=>
    obtain⟨a,dx,n,z,k,m,d,rfl,ha,_,h2,_⟩:=b;exact Er ⟨_,rfl,a,_,dx,_,_,rfl,ha,T.DF,T.Ka,rfl,z,f.nam,rfl,h2,x⟩
   |thing d=>exact Dr (x H2 λ_ _ e=>e)
  ·refine⟨D,(Bz xs.length).map λj=>(match es[j]? with|some e=>ED (Rl e)|none=>false),rfl,by rw[Cf];exact e2,_,rfl,?_⟩;rw[<-g,Kp es (λe=>ED (Rl e)) _ (λi d hd=>by rw[hd])];cases ha:es.all λe=>ED (Rl e)with
   |false=>
    have e:Gb es=false:=by unfold Gb;rw[ha,DK]
    rw[e]at q;exact Er (q _ s2)
   |true=>
    have e:Gb es=decide ((es.map λe=>XF (Rl e)).Nodup):=by unfold Gb;rw[ha,Ew]
    rw[e]at q;refine Dr ?_;have u:=s2 _ _ J;have L:=Es.sm (Sm.of s2) M;refine⟨_,rfl,l,rfl,⟨_,Dk.of u⟩,Du (Wk.list (Dk.of u)) (by omega) (λj=>.str (match es[j]? with|some e=>XF (Rl e)|none=>"")) (λj y I O R F x=>?_) (λU O Y F e3=>?_)⟩
    ·obtain⟨e,v,o⟩:=Gf L j y I;have b:=OL.sm (Sm.of F) o;have c:=x O λ_ _ e=>e;rw[v]at c;have r:=BI.mp ha e (Bp v);cases e with
     |thing d=>cases r
     |fld f=>
      obtain⟨B,p⟩:=Ow (show ED f.nam=true from r);obtain⟨a,dx,n,z,k,m,d,rfl,N,_,h2,_⟩:=b;rw[p]at h2;obtain rfl:z=V.str B:=h2.1;refine⟨Sub.set rfl,_,rfl,a,_,dx,_,_,rfl,N,T.DF,T.Ka,rfl,?_⟩;have Z:XF (Rl (.fld f))=B:=by show XF f.nam=B;rw[p];rfl
      dsimp only at c
      rw[Z]at c;exact c
    ·have e4:O U=some (.lst ((es.map λe=>XF (Rl e)).map V.str)):=by
      rw[e3,<-g,HS es (λe=>V.str (XF (Rl e))) _ (λi d hd=>by rw[hd]),Cf];rfl
     exact⟨U,_,rfl,e4,by rw[AV];omega,q _ (s2.trans F)⟩
def Vp:Sp:=λvs H Q _=>∃v g es,vs=[v]/\OK H g v/\g.fields=some es/\(∀e∈es,zi e=true)/\es.length<40/\g.gone.length<40/\∀H',BC H H'->Q (.bl (Ec es g.gone)) H'
theorem iD{H:Hp}:∀ns:List Int,Paired (λd n=>Th H d n) (ns.map Dt.int) (ns.map V.int)
 |[]=>.nil
 |n::ns=>.cons rfl (iD ns)
theorem ur{e d c:Type}{R:c->d->Prop}{f:e->c}:∀{l:List e} {m:List d},Paired (λa b=>R (f a) b) l m->Paired R (l.map f) m
 |_,_,.nil=>.nil
 |_,_,.cons a r=>.cons a (ur r)
theorem MK{d c:Type}{R:d->c->Prop}:∀{l f:List d} {m e:List c},Paired R l m->Paired R f e->Paired R (l++f) (m++e)
 |_,_,_,_,.nil,b=>b
 |_,_,_,_,.cons a r,b=>.cons a (MK r b)
theorem iE{H:Hp}:∀{ds:List Dt} {ns:List V},Paired (λd n=>Th H d n) ds ns->(ds.all λd=>KZ d 1 200)=true->ns=(ds.map vj).map V.int
 |_,_,.nil,_=>rfl
 |d::ds,_,.cons a r,h=>by
  rw[HN,BZ]at h;have b:=iE r h.2;cases d with
  |int i=>rw[show _=V.int i from a,b];rfl
  |_=>cases h.1
theorem jq(T:Tx K mg):Cm P w K mg base DS 3 755 (Br K 755) ["form"] Vp:=by
 have G:Cm P w K mg base DS 2 203 (Br K 203) Ae FT:=GA T;have G2:Cm P w K mg base DS 1 738 (Br K 738) ["things"] bK:=lZ T;obtain⟨_,hM⟩:=T.Pr;refine T.NT.ok Nk (λvs H Q E h=>?_) (λcdv A outer s H vs Q E Z h=>?_)
 ·obtain⟨v,g,es,rfl,_⟩:=h;rfl
 ·obtain⟨v,g,es,rfl,⟨a,dx,z,f,gl,rfl,ha,hn,hf,hl⟩,hg,O,hz,a6,q⟩:=h;have L:=UM T g.choice;rw[hg]at hf;obtain⟨p,xs,rfl,hp,he⟩:=hf;refine⟨_,BE (Ct (i:=1) Nk.nd rfl (BP rfl) (BO Hl (DY (ts:=AM) (xs:=[]) (js:=[]) rfl ⟨rfl,rfl,Ab,Ab,DZ rfl⟩ .nil Ab (Ez (DC (pv 0) rfl)) (λC s_ H_ fp=>CN (X:=Ee _ _ _ C s_ H_ fp) (i:=0) WE rfl (BP rfl) (Di rfl)) (λC s_ H_ fp=>DB (X:=Ee _ _ _ C s_ H_ fp)) (λC s_ H_ fp=>Lj (X:=Ee _ _ _ C s_ H_ fp) K rfl (pv 0) rfl)) (DC (pv 0) rfl))) (BW (CV (Fh (CZ (BJ (FX rfl) rfl T.Rz MT (AS (DY (ts:=["number"]) (xs:=[]) (js:=[]) rfl ⟨rfl,rfl,Ab,Ab,DZ rfl⟩ .nil Ab (Ez (pv 1)) (λC s_ H_ fp=>CN (X:=Ee _ _ _ C s_ H_ fp) (i:=0) jx rfl (BP rfl) (Di rfl)) (λC s_ H_ fp=>DB (X:=Ee _ _ _ C s_ H_ fp)) (λC s_ H_ fp=>BX (X:=Ee _ _ _ C s_ H_ fp) G (Z.mono Aa) rfl T.GE T.Ga T.GG .nil BR (AS (pv 0) (AS Bc (AS (lR hM) AZ))))) AZ)))) (Bk (BH DR)) Ci) (Bk (BH (BX G2 (Z.mono Aa) rfl T.RL T.Mv T.Sy .nil BR (AS (pv 1) AZ))))),?_⟩;have a1:es.length=xs.length:=he.length;obtain⟨ns,N,o⟩:=Es.nums he O;have t:xs.length=ns.length:=o.length;refine Df (λm H'=>∃D,m=[some (.ref a),some (.ref D)]/\BC H H'/\H' D=some (.lst (ns++g.gone.map V.int))) ?_ ?_
  ·refine⟨_,rfl,a,_,dx,_,_,rfl,ha,L.cl,L.n2,rfl,p,rfl,⟨_,Dk.of hp⟩,Du (Wk.list (Dk.of hp)) (by omega) (λj=>ns.getD j .non) (λj y J H2 R s2 U=>?_) (λD H2 I s2 Y=>?_)⟩
   ·have B:j<ns.length:=by rw[<-t];exact(Bi.mp J).1
    have u:ns[j]?=some (ns[j]'B):=AW B;obtain⟨y',r,b,bx,z',k',m',d',rfl,hb⟩:=Gf o j _ u;rw[J]at r;cases r;refine⟨Sub.set rfl,_,rfl,b,_,bx,_,_,rfl,s2 _ _ hb,T.DF,T.IS,rfl,?_⟩;have:=U H2 λ_ _ e=>e;rw[show ns.getD j .non=ns[j]'B by rw[BD,u];rfl]at this;exact this
   ·have e3:H2 D=some (.lst ns):=by
     rw[Y,t];refine A37 (λl=>some (HO.lst l)) ?_;refine(HS ns (λx=>x) _ λi d hd=>?_).trans (List.map_id' ns);rw[BD,hd];rfl
    refine⟨_,rfl,a,_,dx,_,_,rfl,s2 _ _ ha,L.cl,L.n3,rfl,D,gl,_,_,rfl,rfl,e3,s2 _ _ hl,?_,λp2 M=>⟨p2,rfl,s2.trans (BM M),AX⟩⟩;rw[AV];exact BF (show ns.length+g.gone.length<=1000 by omega) Aa
  ·rintro m H1 ⟨D,rfl,s1,I⟩;have k:Paired (λd n=>Th H1 d n) (es.map Tn++g.gone.map Dt.int) (ns++g.gone.map V.int):=MK (ur (Paired.mapP N λ_ _ h=>Th.sm (Sm.of s1) _ _ h)) (iD _);have S:=k.length;have hsz: (ns++g.gone.map V.int).length<=90:=by rw[Bh,AV];omega
   refine⟨_,rfl,D,rfl,⟨_,Dk.of I⟩,Du (Wk.list (Dk.of I)) (by omega) (λj=>.bl (match (es.map Tn++g.gone.map Dt.int)[j]? with|some d=>KZ d 1 200|none=>false)) (λj y J H2 R s2 U=>?_) (λD2 H2 b0 s2 Y=>?_)⟩
   ·obtain⟨d,B,hd⟩:=Gf k j y J;have F:=U H2 λ_ _ e=>e;rw[B]at F;exact⟨Sub.set rfl,_,rfl,y,d,_,_,rfl,Th.sm (Sm.of s2) _ _ hd,F⟩
   ·refine⟨D2,(Bz (ns++g.gone.map V.int).length).map λj=>(match (es.map Tn++g.gone.map Dt.int)[j]? with|some d=>KZ d 1 200|none=>false),rfl,by rw[Cf];exact Y,_,rfl,?_⟩;rw[<-S,Kp _ (λd=>KZ d 1 200) _ (λi d hd=>by rw[hd])];have c: ((es.map Tn++g.gone.map Dt.int).all λd=>KZ d 1 200)=(es.all (λe=>KZ (Tn e) 1 200) &&g.gone.all (λi=>KZ (.int i) 1 200)):=by
     rw[List.all_append,List.all_map,List.all_map];rfl
    cases W: (es.map Tn++g.gone.map Dt.int).all λd=>KZ d 1 200 with
    |false=>
     have e:Ec es g.gone=false:=by unfold Ec;rw[<-c,W,DK]
     rw[e]at q;exact Er (q _ (s1.trans s2))
    |true=>
     have e:Ec es g.gone=decide ((JF es g.gone).Nodup):=by unfold Ec;rw[<-c,W,Ew]
     rw[e]at q;have ei:ns++g.gone.map V.int=(JF es g.gone).map V.int:=by
      rw[iE k W];unfold JF;rw[Cr,Cf,Cf];refine A37 (λl=>List.map V.int (_++l)) ?_;exact List.map_id' _
     rw[ei]at I;refine Dr ⟨_,rfl,D,_,rfl,s2 _ _ I,?_,q _ (s1.trans s2)⟩;have:=A37 List.length ei;rw[AV]at this;omega
def SE(ws:List (Bx×Int))(z:Bx):Option Int:=(ws.find? λp=>decide (p.1=z)).map (·.2)
def wK(ws:List (Bx×Int)):List (Gv×V):=ws.map λp=>(Sum.inr p.1,V.int p.2)
def WD(H:Hp)(ws:List (Bx×Int))(v:V):Prop:=∃a,v= .ref a/\H a=some (.dK (wK ws))
theorem WD.sm{H H':Hp}(s:Sm H H'){ws:List (Bx×Int)}{v:V}:WD H ws v->WD H' ws v
 |⟨a,e,h⟩=>⟨a,e,s _ _ h rfl⟩
theorem fb(ws:List (Bx×Int))(z:Bx):HF (wK ws) (.inr z)=(SE ws z).map V.int:=by
 induction ws with
 |nil=>rfl
 |cons p ws a=>
  by_cases h:p.1=z
  ·rw[show wK (p::ws)=(Sum.inr p.1,V.int p.2)::wK ws from rfl,NY (show(Sum.inr p.1:Gv)= .inr z by rw[h])];unfold SE;rw[List.find?_cons_of_pos (by exact A32 h)];rfl
  ·rw[show wK (p::ws)=(Sum.inr p.1,V.int p.2)::wK ws from rfl,NZ (show ¬ (Sum.inr p.1:Gv)= .inr z from λe=>h (Sum.inr.inj e)),a];unfold SE;rw[List.find?_cons_of_neg (by rw[A33 h];exact BL)]
theorem jE(ws:List (Bx×Int))(z:Bx): (HF (wK ws) (.inr z)).isSome=(SE ws z).isSome:=by
 rw[fb];cases SE ws z <;> rfl
def UK(ws:List (Bx×Int)):Dt->Bool
 |.str z=>(SE ws z).isSome
 |_=>false
def MC(ws:List (Bx×Int)):Kx->Bool
 |.upto d=>KZ d 1 MN
 |.text d=>KZ d 1 100
 |.form d=>ED d&&UK ws d
 |.truth=>true
 |.count=>true
 |.whole=>true
 |_=>false
def Ii(ws:List (Bx×Int)):Kx->Bool
 |.list k=>MC ws k
 |k=>MC ws k
theorem YV{d:Dt}{a b:Int}(h:KZ d a b=true):∃n,d= .int n:=by
 cases d with
 |int n=>exact⟨n,rfl⟩
 |_=>cases h
theorem Re{ws:List (Bx×Int)}{k:Kx}(h:MC ws k=true):k.fine/\k.flat=true:=by
 cases k with
 |upto d=>exact⟨YV h,rfl⟩
 |text d=>exact⟨YV h,rfl⟩
 |form d=>exact⟨trivial,rfl⟩
 |truth=>exact⟨trivial,rfl⟩
 |count=>exact⟨trivial,rfl⟩
 |whole=>exact⟨trivial,rfl⟩
 |list k=>cases h
 |bare=>cases h
 |thing d=>cases h
theorem cc{ws:List (Bx×Int)}{k:Kx}(h:Ii ws k=true):k.fine:=by
 cases k with
 |list k=>have:=Re (show MC ws k=true from h);exact⟨this.2,this.1⟩
 |upto d=>exact(Re (ws:=ws) (k:=.upto d) h).1
 |text d=>exact(Re (ws:=ws) (k:=.text d) h).1
 |form d=>trivial
 |truth=>trivial
 |count=>trivial
 |whole=>trivial
 |bare=>cases h
 |thing d=>cases h
def iG:Sp:=λvs H Q _=>∃b a k ws,vs=[b,a]/\Kx.may k/\Rx H k b/\WD H ws a/\∀H',BC H H'->Q (.bl (MC ws k)) H'
def nY:Sp:=λvs H Q _=>∃b a k ws,vs=[b,a]/\Kx.may k/\Rx H k b/\WD H ws a/\∀H',BC H H'->Q (.bl (Ii ws k)) H'
def eqB:Dt->Bool
 |.bl b=>!b
 |.int i=>decide (i=0)
 |.str z=>decide (z="")
 |.lst l=>l.isEmpty
 |_=>false
def Q0:Dt->Bool
 |.non=>true
 |_=>false
def JS:Kx->Dt->Bool
 |.form _,d=>Q0 d
 |k,d=>Fp k d&&eqB d
def iR:Sp:=λvs H Q _=>∃a b k d,vs=[a,b]/\Kx.fine k/\Rx H k a/\Th H d b/\∀H',BC H H'->Q (.bl (JS k d)) H'
def MQ:Kx->Bool
 |.text _=>true
 |_=>false
def nQ:Dt->Bool
 |.bl b=>b
 |_=>false
def OF(f:Fx)(c:Bool):Bool:=Jd f.must&& (!(nQ f.must&&c) && (JS f.kind f.dfl|| (!(nQ f.must|| (c|| !Ot f.kind)) && (!(MQ f.kind&& !ED f.dfl) &&Fp f.kind f.dfl))))
theorem Kx.fine.may{k:Kx}(h:k.fine):k.may:=by
 induction k with
 |thing d=>exact h.elim
 |list k a=>exact a h.2
 |_=>trivial
theorem uI(T:Tx K mg):Cm P w K mg base DS 4 762 (Br K 762) An iG:=by
 have G:Cm P w K mg base DS 2 203 (Br K 203) Ae FT:=GA T;have M:Cm P w K mg base DS 3 215 (Br K 215) Ad KD:=MM T;obtain⟨_,L⟩:=T.PD;obtain⟨_,J⟩:=T.cU;refine T.Nd.ok UA (λvs H Q E h=>?_) (λcdv A outer s H vs Q E l h=>?_)
 ·obtain⟨j,B,k,ws,rfl,_⟩:=h;rfl
 ·obtain⟨j,B,k,ws,rfl,hm,i,⟨C,rfl,hw⟩,q⟩:=h;have F:=l.units;refine⟨_,BW (CV (CZ (BJ (CY K rfl) rfl T.Ch Cb (AS (pv 0) (AS (Wl T.Mq) AZ)))) (Bk (BH (BX G (l.mono Aa) rfl T.GE T.Ga T.GG .nil BR (AS (DC (pv 0) rfl) (AS Bc (AS (lR L) AZ)))))) Ci) (BW (CV (CZ (BJ (CY K rfl) rfl T.Ch Cb (AS (pv 0) (AS (Wl T.IU) AZ)))) (Bk (BH (BX G (l.mono Aa) rfl T.GE T.Ga T.GG .nil BR (AS (DC (pv 0) rfl) (AS Bc (AS (lR J) AZ)))))) Ci) (BW (CV (CZ (BJ (CY K rfl) rfl T.Ch Cb (AS (pv 0) (AS (Wl T.HQ) AZ)))) (Bk (BH (JR (BX M (l.mono Aa) rfl T.Pc T.LP T.Pe .nil BR (AS (DC (pv 0) rfl) AZ)) (JQ (O9 (uC (Cp (Cy Aa _) F) (DC (pv 0) rfl) (pv 1)) rfl))))) Ci) (Bk (BH (BJ (TJ K rfl) rfl T.Ch Cb (AS (pv 0) (AS (Fq (AS (Wl T.EN) (AS (Wl T.LM) (AS (Wl T.Xe) AZ)))) AZ))))))),?_⟩;obtain⟨t,ty,k0,k1,k2,k3,D,k5,N,g⟩:=mz T hm i;have last:∀H1,BC H H1->(b:Bool)->b=(k.isOf 1||k.isOf 2||k.isOf 3)->b=MC ws k->∀p,H1 p=none->∃(x:V) (y:Ba) (t:AY) (b:Bool) (as:List Ba),[j,.ref p]=[x,.ref y]/\upd H1 p (.tup [.ref 323,.ref 356,.ref 389]) y=some (.tup (as.map V.ref))/\GK K (upd H1 p (.tup [.ref 323,.ref 356,.ref 389])) x t/\EQ K t (as.map Value.ref)=some b/\Q (.bl b) (upd H1 p (.tup [.ref 323,.ref 356,.ref 389])):=by
   intro H1 s1 b I v p f;have s2:=s1.trans (BM (u:=.tup [.ref 323,.ref 356,.ref 389]) f);obtain⟨t',m,_,r,o,n,_⟩:=mz T hm (i.sm (Sm.of s2));refine⟨j,p,t',b,[323,356,389],rfl,AX,m,?_,?_⟩
   ·rw[I];exact A2d r o n
   ·rw[v];exact q _ s2
  refine⟨_,rfl,j,.ref 443,_,_,_,rfl,ty,rfl,D,_,rfl,?_⟩;cases k with
  |upto d=>
   obtain⟨a,dx,u,rfl,ha,c⟩:=i;exact Er ⟨_,rfl,a,_,dx,_,_,rfl,ha,T.My,T.NG,rfl,u,d,_,_,rfl,c,q H λ_ _ e=>e⟩
  |text d=>
   obtain⟨a,dx,u,rfl,ha,c⟩:=i;exact Dr ⟨_,rfl,_,.ref 496,_,_,_,rfl,ty,rfl,k5,_,rfl,Er ⟨_,rfl,a,_,dx,_,_,rfl,ha,T.Mz,T.NH,rfl,u,d,_,_,rfl,c,q H λ_ _ e=>e⟩⟩
  |form d=>
   obtain⟨a,dx,u,rfl,ha,c⟩:=i;refine Dr ⟨_,rfl,_,.ref 496,_,_,_,rfl,ty,rfl,k5,_,rfl,Dr ⟨_,rfl,_,.ref 609,_,_,_,rfl,ty,rfl,g,_,rfl,Er ?_⟩⟩;refine⟨_,rfl,a,_,dx,_,_,rfl,ha,T.IG,T.Jx,rfl,u,d,rfl,c,λH' s'=>⟨_,rfl,?_⟩⟩;cases hn:ED d with
   |false=>
    have e:MC ws (.form d)=false:=by show(ED d&&_)=false;rw[hn,DK]
    rw[e]at q;exact Dr (q _ s')
   |true=>
    obtain⟨z,rfl⟩:=Ow hn;obtain⟨rfl,_⟩:=c;have e:MC ws (.form (.str z))=(SE ws z).isSome:=by show(ED (.str z) &&_)=_;rw[hn,Ew];rfl
    rw[e,<-jE]at q;exact Er ⟨_,rfl,a,_,dx,_,_,rfl,s' _ _ ha,T.IG,T.Jx,rfl,_,rfl,C,_,rfl,Go.k (k:=.inr z) (s' _ _ hw),q _ s'⟩
  |truth=>exact Dr ⟨_,rfl,_,.ref 496,_,_,_,rfl,ty,rfl,k5,_,rfl,Dr ⟨_,rfl,_,.ref 609,_,_,_,rfl,ty,rfl,g,_,rfl,Dr ⟨_,rfl,zl 3,λp f=>last H (BC.refl _) true rfl rfl p f⟩⟩⟩
  |count=>exact Dr ⟨_,rfl,_,.ref 496,_,_,_,rfl,ty,rfl,k5,_,rfl,Dr ⟨_,rfl,_,.ref 609,_,_,_,rfl,ty,rfl,g,_,rfl,Dr ⟨_,rfl,zl 3,λp f=>last H (BC.refl _) true rfl rfl p f⟩⟩⟩
  |whole=>exact Dr ⟨_,rfl,_,.ref 496,_,_,_,rfl,ty,rfl,k5,_,rfl,Dr ⟨_,rfl,_,.ref 609,_,_,_,rfl,ty,rfl,g,_,rfl,Dr ⟨_,rfl,zl 3,λp f=>last H (BC.refl _) true rfl rfl p f⟩⟩⟩
  |bare=>exact Dr ⟨_,rfl,_,.ref 496,_,_,_,rfl,ty,rfl,k5,_,rfl,Dr ⟨_,rfl,_,.ref 609,_,_,_,rfl,ty,rfl,g,_,rfl,Dr ⟨_,rfl,zl 3,λp f=>last H (BC.refl _) false rfl rfl p f⟩⟩⟩
  |list O=>exact Dr ⟨_,rfl,_,.ref 496,_,_,_,rfl,ty,rfl,k5,_,rfl,Dr ⟨_,rfl,_,.ref 609,_,_,_,rfl,ty,rfl,g,_,rfl,Dr ⟨_,rfl,zl 3,λp f=>last H (BC.refl _) false rfl rfl p f⟩⟩⟩
  |thing d=>exact Dr ⟨_,rfl,_,.ref 496,_,_,_,rfl,ty,rfl,k5,_,rfl,Dr ⟨_,rfl,_,.ref 609,_,_,_,rfl,ty,rfl,g,_,rfl,Dr ⟨_,rfl,zl 3,λp f=>last H (BC.refl _) false rfl rfl p f⟩⟩⟩
theorem yF(T:Tx K mg):Cm P w K mg base DS 5 769 (Br K 769) An nY:=by
 have G:Cm P w K mg base DS 4 762 (Br K 762) An iG:=uI T;refine T.bC.ok lJ (λvs H Q E h=>?_) (λcdv A outer s H vs Q E e h=>?_)
 ·obtain⟨c,b,k,ws,rfl,_⟩:=h;rfl
 ·obtain⟨c,b,k,ws,rfl,hm,d,hw,q⟩:=h;refine⟨_,BW (CV (CZ (BJ (CY K rfl) rfl T.Ch Cb (AS (pv 0) (AS (Wl T.Mr) AZ)))) (Bk (BH (BX G (e.mono Aa) rfl T.Nb T.JO T.Nh .nil BR (AS (DC (pv 0) rfl) (AS (pv 1) AZ))))) Ci) (Bk (BH (BX G (e.mono Aa) rfl T.Nb T.JO T.Nh .nil BR (AS (pv 0) (AS (pv 1) AZ))))),?_⟩;obtain⟨t,ty,k0,k1,k2,k3,l,k5,f,j⟩:=mz T hm d;refine⟨_,rfl,c,.ref 555,_,_,_,rfl,ty,rfl,f,_,rfl,?_⟩;cases k with
  |list g=>
   obtain⟨a,dx,u,rfl,ha,i⟩:=d;exact Er ⟨_,rfl,a,_,dx,_,_,rfl,ha,T.MA,T.NI,rfl,_,rfl,u,b,g,ws,rfl,hm,i,hw,q⟩
  |_=>exact Dr ⟨_,rfl,_,rfl,c,b,_,ws,rfl,hm,d,hw,q⟩
theorem tT{k:Kx}(a:k.fine)(c:∀d,k≠ .form d){d:Dt}(h:Fp k d=true): (∃b,d= .bl b/\HI k= .bl false)\/(∃i,d= .int i/\HI k= .int 0)\/(∃z,d= .str z/\HI k= .str "")\/∃l,d= .lst l/\HI k= .lst []:=by
 cases k with
 |form d=>exact A38 rfl (c d)
 |bare=>exact a.elim
 |thing d=>exact a.elim
 |truth=>cases d <;> first|exact .inl ⟨_,rfl,rfl⟩|cases h
 |count=>obtain⟨i,rfl⟩:=YV (show KZ d 0 MN=true from h);exact .inr (.inl ⟨i,rfl,rfl⟩)
 |whole=>obtain⟨i,rfl⟩:=YV (show KZ d (-MW - 1) MW=true from h);exact .inr (.inl ⟨i,rfl,rfl⟩)
 |upto n=>obtain⟨n,rfl⟩:=a;obtain⟨i,rfl⟩:=YV (show KZ d 0 n=true from h);exact .inr (.inl ⟨i,rfl,rfl⟩)
 |text n=>obtain⟨n,rfl⟩:=a;cases d <;> first|exact .inr (.inr (.inl ⟨_,rfl,rfl⟩))|cases h
 |list k=>cases d <;> first|exact .inr (.inr (.inr ⟨_,rfl,rfl⟩))|cases h
theorem uU(T:Tx K mg):Cm P w K mg base DS 5 776 (Br K 776) Aj iR:=by
 refine T.Xs.ok iW (λvs H Q E h=>?_) (λcdv A outer s H vs Q E v h=>?_)
 ·obtain⟨y,f,k,d,rfl,_⟩:=h;rfl
 ·obtain⟨y,f,k,d,rfl,n,j,hd,q⟩:=h;have J:=v.units;refine⟨_,BW (CV (CZ (BJ (CY K rfl) rfl T.Ch Cb (AS (pv 0) (AS (Wl T.HQ) AZ)))) (Bk (BH (GH lW (pv 1) FC (Dc _)))) Ci) (Bk (BH (JR (Yr (P:=P) (w:=w) (K:=K) (mg:=mg) (base:=base) (k:=4) rfl rfl rfl rfl rfl (pv 0) (v.mono Aa) BR (AS (pv 1) AZ)) (JQ (GH (Ny.or Gg (jm J)) (pv 1) (HU (P:=P) (w:=w) (K:=K) (mg:=mg) (base:=base) (k:=1) rfl rfl rfl rfl rfl (pv 0) (v.mono Aa) BR) (Dc _)))))),?_⟩;obtain⟨t,ty,k0,k1,k2,k3,R,k5,O,F⟩:=mz T n.may j;refine⟨_,rfl,y,.ref 609,_,_,_,rfl,ty,rfl,F,_,rfl,?_⟩;by_cases B:∃z,k= .form z
  ·obtain⟨z,rfl⟩:=B;refine Er ⟨_,rfl,rfl,?_⟩;have e:decide (f= .non)=JS (.form z) d:=by
    show _=Q0 d;cases d with
    |non=>rw[show f=V.non from hd];rfl
    |bl b=>rw[show f=V.bl b from hd];rfl
    |int i=>rw[show f=V.int i from hd];rfl
    |str z=>rw[show f=V.str z from hd.1];rfl
    |lst l=>obtain⟨a,xs,rfl,_⟩:=hd;rfl
    |dct=>obtain⟨a,rfl,_⟩:=hd;rfl
   rw[e];exact q H λ_ _ e=>e
  ·have m:∀z,k≠ .form z:=λz e=>B ⟨z,e⟩;have M:k.isOf 7=false:=by
    cases k with
    |form z=>exact A38 rfl (m z)
    |_=>rfl
   have C:JS k d=(Fp k d&&eqB d):=by
    cases k with
    |form z=>exact A38 rfl (m z)
    |_=>rfl
   rw[M];obtain⟨a,dx,fs,rfl,ha,o⟩:=j.ins n.isK;refine Dr ⟨_,rfl,a,_,dx,fs,_,rfl,ha,o _ Aa Aa Aa,vD T n,_,rfl,_,f,d,rfl,j,hd,λH1 s1=>⟨_,rfl,?_⟩⟩;cases hs:Fp k d with
   |false=>
    rw[C,hs,DK]at q;exact Dr (q _ s1)
   |true=>
    rw[C,hs,Ew]at q;refine Er ⟨_,rfl,_,rfl,a,_,dx,fs,_,rfl,s1 _ _ ha,o _ Aa Aa Aa,vF T n.isK,_,rfl,λu H2 s2 c _=>?_⟩;have r:=q _ (s1.trans s2);have g:=Th.sm (Sm.of (s1.trans s2)) _ _ hd;rcases tT n m hs with⟨b,rfl,e⟩|⟨i,rfl,e⟩|⟨z,rfl,e⟩|⟨l,rfl,e⟩
    ·rw[e]at c;obtain rfl:u=V.bl false:=c;obtain rfl:f=V.bl b:=g;refine .inl ⟨rfl,?_⟩;rw[show decide (V.bl b=V.bl false)=eqB (.bl b)by cases b <;> rfl];exact r
    ·rw[e]at c;obtain rfl:u=V.int 0:=c;obtain rfl:f=V.int i:=g;refine .inl ⟨rfl,?_⟩;rw[show decide (V.int i=V.int 0)=eqB (.int i)from decide_eq_decide.mpr ⟨λh=>V.int.inj h,λh=>A37 V.int h⟩];exact r
    ·rw[e]at c;obtain rfl:u=V.str "":=c.1;obtain rfl:f=V.str z:=g.1;refine .inl ⟨rfl,?_⟩;rw[show decide (V.str z=V.str "")=eqB (.str z)from decide_eq_decide.mpr ⟨λh=>V.str.inj h,λh=>A37 V.str h⟩];exact r
    ·rw[e]at c;obtain⟨p,ys,rfl,L,G,_⟩:=c;obtain rfl:ys=[]:=G;obtain⟨D,xs,rfl,x,I,_⟩:=g;refine .inr ⟨D,p,xs,rfl,rfl,x,L,?_⟩;have N:xs.isEmpty=l.isEmpty:=by
      have:=I.len;cases xs <;> cases l <;> first|rfl|cases this
     rw[N];exact r
def XQ:Sp:=λvs H Q _=>∃v f c,vs=[v,.bl c]/\WI H f v/\f.kind.fine/\∀H',BC H H'->Q (.bl (OF f c)) H'
theorem mh(T:Tx K mg):Cm P w K mg base DS 6 783 (Br K 783) Ao XQ:=by
 have G:Cm P w K mg base DS 5 776 (Br K 776) Aj iR:=uU T;have U:Cm P w K mg base DS 3 215 (Br K 215) Ad KD:=MM T;refine T.Sh.ok aL (λvs H Q E h=>?_) (λcdv A outer s H vs Q E u h=>?_)
 ·obtain⟨v,f,c,rfl,_⟩:=h;rfl
 ·obtain⟨v,f,c,rfl,O,p,q⟩:=h;refine⟨_,BW (CV (Fh (CZ (BJ (CY K rfl) rfl T.Ch Cb (AS (DC (pv 0) rfl) (AS (kq T.ku gg) AZ))))) (Bk (BH DR)) Ci) (BE (CV (PW.pt (Op (CZ (DC (pv 0) rfl)) (Pj (CZ (pv 1))))) (Bk (BH DR)) Ci) (BE (CV (CZ (BX G (u.mono Aa) rfl T.kI T.Xh T.kX .nil BR (AS (DC (pv 0) rfl) (AS (DC (pv 0) rfl) AZ)))) (Bk (BH DR)) Ci) (BE (CV (PW.pt (Oo (CZ (DC (pv 0) rfl)) (Oo (CZ (pv 1)) (Ly (Fh (CZ (HU (P:=P) (w:=w) (K:=K) (mg:=mg) (base:=base) (k:=1) rfl rfl rfl rfl rfl (DC (pv 0) rfl) (u.mono Aa) BR))))))) (Bk (BH DR)) Ci) (BE (CV (PW.pt (Op (CZ (BJ (CY K rfl) rfl T.Ch Cb (AS (DC (pv 0) rfl) (AS (Wl T.IU) AZ)))) (Pj (Fh (CZ (BX U (u.mono Aa) rfl T.Pc T.LP T.Pe .nil BR (AS (DC (pv 0) rfl) AZ))))))) (Bk (BH DR)) Ci) (Bk (BH (Yr (P:=P) (w:=w) (K:=K) (mg:=mg) (base:=base) (k:=4) rfl rfl rfl rfl rfl (DC (pv 0) rfl) (u.mono Aa) BR (AS (DC (pv 0) rfl) AZ)))))))),?_⟩;obtain⟨a,dx,n,z,k,m,d,rfl,ha,h1,h2,h3,L,J⟩:=O;obtain⟨num,nam,kind,must,dfl⟩:=f;refine⟨_,rfl,a,_,dx,_,_,rfl,ha,T.DF,T.IT,rfl,m,.ty "bool",_,_,_,rfl,Th.ty L,rfl,R1 T must,_,rfl,?_⟩;have stop:Jd must=false->Q (.bl false) H:=λe=>by
   have:=q H λ_ _ e=>e;unfold OF at this;rw[show Jd (Fx.mk num nam kind must dfl).must=false from e,DK]at this;exact this
  cases must with
  |bl b=>
   obtain rfl:m=V.bl b:=L;have S:OF ⟨num,nam,kind,.bl b,dfl⟩ c=(!(b&&c) && (JS kind dfl|| (!(b|| (c|| !Ot kind)) && (!(MQ kind&& !ED dfl) &&Fp kind dfl)))):=rfl;rw[S]at q;refine Dr ⟨λg H'=>g=[some (.ref a),some (.bl c)]/\H=H'/\(b&&c)=false,?_,?_⟩
   ·refine⟨_,rfl,a,_,dx,_,_,rfl,ha,T.DF,T.IT,rfl,_,rfl,?_⟩;cases b with
    |false=>exact Dr ⟨rfl,rfl,rfl⟩
    |true=>
     refine Er ⟨_,rfl,_,rfl,?_⟩;cases c with
     |false=>exact Dr ⟨rfl,rfl,rfl⟩
     |true=>exact Er (q H λ_ _ e=>e)
   rintro g H' ⟨rfl,rfl,D⟩;rw[D,Bool.not_false,Ew]at q;refine Df (λg H'=>g=[some (.ref a),some (.bl c)]/\BC H H'/\JS kind dfl=false) ?_ ?_
   ·refine⟨_,rfl,a,_,dx,_,_,rfl,ha,T.DF,T.FQ,rfl,_,rfl,a,_,dx,_,_,rfl,ha,T.DF,T.Iw,rfl,k,d,kind,dfl,rfl,p,h3,J,λH1 s1=>⟨_,rfl,?_⟩⟩;cases F:JS kind dfl with
    |true=>
     rw[F,Bool.true_or]at q;exact Er (q _ s1)
    |false=>exact Dr ⟨rfl,s1,rfl⟩
   rintro g H1 ⟨rfl,s1,F⟩;rw[F,Bool.false_or]at q;have j:=s1 _ _ ha;have r:=h3.sm (Sm.of s1);have I:=Th.sm (Sm.of s1) _ _ J;obtain⟨y,x,fs,rfl,l,o⟩:=r.ins p.isK;refine Df (λg H'=>g=[some (.ref a),some (.bl c)]/\H1=H'/\(b|| (c|| !Ot kind))=false) ?_ ?_
   ·refine⟨_,rfl,a,_,dx,_,_,rfl,j,T.DF,T.IT,rfl,_,rfl,?_⟩;have no: (b|| (c|| !Ot kind))=true->Q (.bl false) H1:=λe=>by
     have:=q H1 s1;rw[e,Bool.not_true,DK]at this;exact this
    cases b with
    |true=>exact Er (no rfl)
    |false=>
     refine Dr ⟨_,rfl,_,rfl,?_⟩;cases c with
     |true=>exact Er (no rfl)
     |false=>
      refine Dr ⟨_,rfl,a,_,dx,_,_,rfl,j,T.DF,T.FQ,rfl,y,_,x,fs,_,rfl,l,o _ Aa Aa Aa,U2 T p,_,rfl,_,rfl,?_⟩;cases N:Ot kind with
      |true=>exact Dr ⟨rfl,rfl,rfl⟩
      |false=>exact Er (no (by rw[N];rfl))
   rintro g H2 ⟨rfl,rfl,hn⟩;rw[hn,Bool.not_false,Ew]at q;refine Df (λg H'=>g=[some (.ref a),some (.bl c)]/\BC H H'/\(MQ kind&& !ED dfl)=false) ?_ ?_
   ·obtain⟨t,ty,k0,k1,k2,k3,Y,k5,X,W⟩:=mz T p.may r;have R:kind.isOf 5=MQ kind:=by cases kind <;> rfl
    rw[R]at k5;refine⟨_,rfl,a,_,dx,_,_,rfl,j,T.DF,T.FQ,rfl,_,.ref 496,_,_,_,rfl,ty,rfl,k5,_,rfl,?_⟩;cases B:MQ kind with
    |false=>exact Dr ⟨rfl,s1,rfl⟩
    |true=>
     refine Er ⟨_,rfl,a,_,dx,_,_,rfl,j,T.DF,T.Iw,rfl,d,dfl,rfl,I,λM i=>⟨_,rfl,?_⟩⟩;cases C:ED dfl with
     |true=>exact Dr ⟨rfl,s1.trans i,rfl⟩
     |false=>
      have:=q M (s1.trans i);rw[B,C]at this;exact Er this
   rintro g M ⟨rfl,i,B⟩;rw[B,Bool.not_false,Ew]at q;obtain⟨y,x,fs,e,l,o⟩:=(h3.sm (Sm.of i)).ins p.isK;exact⟨_,rfl,a,_,dx,_,_,rfl,i _ _ ha,T.DF,T.FQ,rfl,y,_,x,fs,_,e,l,o _ Aa Aa Aa,vD T p,_,rfl,a,_,dx,_,_,rfl,i _ _ ha,T.DF,T.Iw,rfl,_,d,dfl,rfl,h3.sm (Sm.of i),Th.sm (Sm.of i) _ _ J,λZ s4=>q _ (i.trans s4)⟩
  |_=>exact Er (stop rfl)
def JW:Ex->Kx
 |.fld f=>f.kind
 |.thing _=>.bare
def vb:Ex->Dt
 |.fld f=>f.must
 |.thing _=>.non
def JV(e:Ex):Bool:=nQ (vb e)
def bZ(ws:List (Bx×Int)):Kx->Int
 |.form (.str z)=>(SE ws z).getD 0
 |_=>1
def EI(ws:List (Bx×Int))(e:Ex):Int:=bZ ws (JW e)
def Rm:List Int->Int
 |[]=>0
 |[x]=>x
 |x::y::r=>min x (Rm (y::r))
theorem Tq:∀{l:List Int} {a:Int},a∈l->Rm l<=a
 |[x],a,h=>by rw[Bu.mp h];exact Jr _
 |x::y::r,a,h=>by
  show min x (Rm (y::r))<=a;rcases BK.mp h with rfl|h
  ·exact Int.min_le_left ..
  ·exact Int.le_trans (Int.min_le_right ..) (Tq h)
theorem KN:∀{l:List Int},l≠[]->Rm l∈l
 |[x],_=>Bu.mpr rfl
 |x::y::r,_=>by
  show min x (Rm (y::r))∈x::y::r;have a:Rm (y::r)∈y::r:=KN (by simp);by_cases h:x<=Rm (y::r)
  ·rw[Int.min_eq_left h];exact Ds ..
  ·rw[Int.min_eq_right (by omega)];exact CJ _ a
theorem fN{l:List Int}{M:Int}(h1:M∈l)(h2:∀a∈l,M<=a):M=Rm l:=by
 have a:=Tq h1;have b:=h2 _ (KN (l:=l) (λe=>by rw[e]at h1;cases h1));omega
def DX(ws:List (Bx×Int))(c:Bool)(es:List Ex):Int:=if c then 1+Rm (es.map (EI ws))else 1+ ((es.filter JV).map (EI ws)).sum
theorem Tg{c g:Type}(l:List c)(p:c->Bool)(f:c->g)(a:Nat->Bool)(b:Nat->g)(m:∀i d,l[i]?=some d->a i=p d)(o:∀i d,l[i]?=some d->b i=f d): ((Bz l.length).filter a).map b=(l.filter p).map f:=by
 have key:∀n,n<=l.length->((Bz n).filter a).map b=((l.take n).filter p).map f:=by
  intro n;induction n with
  |zero=>intro _;rfl
  |succ n k=>
   intro hn;have e:l[n]?=some (l[n]'(by omega)):=AW (by omega);rw[List.range_succ,Fg,Cr,k (by omega),List.take_add_one,e,Fg,Cr];refine A37 (_++ ·) ?_;have j:=m n _ e;have q:=o n _ e;show(List.filter a [n]).map b=(List.filter p [l[n]'(by omega)]).map f;cases h:p (l[n]'(by omega))with
   |true=>rw[CD (by rw[j,h]),CD h];exact A37 (·::[]) q
   |false=>rw[Dd (by rw[j,h];exact BL),Dd (by rw[h];exact BL)];rfl
 have:=key l.length (Bv _);rw[DU]at this;exact this
theorem Wy(ns:List Int):∀n,n<=ns.length->preSum (λi=>ns.getD i 0) n=(ns.take n).sum:=by
 intro n;induction n with
 |zero=>intro _;rfl
 |succ n b=>
  intro hn;have a:ns[n]?=some (ns[n]'(by omega)):=AW (by omega);show preSum _ n+ns.getD n 0=_;rw[b (by omega),List.take_add_one,a,List.sum_append,BD,a];show _+ns[n]'(by omega)=_+ (ns[n]'(by omega) +0);omega
theorem ly{ns:List Int}{b:Int}(h:∀a∈ns,0<=a/\a<=b):0<=ns.sum/\ns.sum<=ns.length*b:=by
 induction ns with
 |nil=>exact⟨Jr _,by simp⟩
 |cons a r c=>
  have h1:=h a (Ds ..);have h2:=c λx d=>h x (CJ _ d);rw[EM,Cj];refine⟨by omega,?_⟩;rw[Int.natCast_add,Int.add_mul];omega
structure WOk(ws:List (Bx×Int))(es:List Ex):Prop where
 fld:∀e∈es,zi e=true
 kind:∀e∈es,Ii ws (JW e)=true
 must:∀e∈es,Jd (vb e)=true
 ws:∀p∈ws,0<=p.2/\p.2<=1000
theorem xS{ws:List (Bx×Int)}{z:Bx}{n:Int}(h:SE ws z=some n): (z,n)∈ws:=by
 unfold SE at h;obtain⟨p,a,rfl⟩:=BS.mp h;have:=List.find?_some a;rw[<-A34 this];exact List.mem_of_find?_eq_some a
theorem uH: (0:Int)<=1/\(1:Int)<=1000:=by decide
theorem fQ{ws:List (Bx×Int)}{es:List Ex}(h:WOk ws es){e:Ex}(c:e∈es):0<=EI ws e/\EI ws e<=1000:=by
 have b:=h.kind e c;unfold EI;cases a:JW e with
 |form d=>
  rw[a]at b;cases d with
  |str z=>
   show 0<= (SE ws z).getD 0/\(SE ws z).getD 0<=1000;cases hw:SE ws z with
   |none=>exact⟨Aa,Aa⟩
   |some n=>exact h.ws _ (xS hw)
  |_=>exact uH
 |_=>exact uH
def XN:Sp:=λvs H Q _=>∃v a f ws,vs=[v,a]/\WI H f v/\WD H ws a/\Ii ws f.kind=true/\Q (.int (bZ ws f.kind)) H
def Uw:Sp:=λvs H Q _=>∃v a g es ws,vs=[v,a]/\OK H g v/\g.fields=some es/\WD H ws a/\WOk ws es/\es.length<40/\(g.choice=true->es≠[])/\∀H',BC H H'->Q (.int (DX ws g.choice es)) H'
theorem Q6: ((AM:List Bx) ++ (["weights"]:List Bx)).Nodup:=by decide+kernel
theorem me(T:Tx K mg):Cm P w K mg base DS 1 790 (Br K 790) Ap XN:=by
 refine T.NS.ok Wg (λvs H Q E h=>?_) (λcdv A outer s H vs Q E B h=>?_)
 ·obtain⟨v,l,f,ws,rfl,_⟩:=h;rfl
 ·obtain⟨v,l,f,ws,rfl,C,⟨o,rfl,hw⟩,j,q⟩:=h;have y:=B.units;refine⟨_,BW (CV (CZ (BJ (CY K rfl) rfl T.Ch Cb (AS (DC (pv 0) rfl) (AS (Wl T.HQ) AZ)))) (Bk (BH (CT (Cp (Cy Aa _) y) (pv 1) (DC (DC (pv 0) rfl) rfl) (λ_ _=>rfl)))) Ci) (Bk (BH Bc)),?_⟩;obtain⟨a,dx,n,z,k,m,d,rfl,ha,h1,h2,h3,I,G⟩:=C;obtain⟨t,ty,k0,k1,k2,k3,F,k5,D,x⟩:=mz T (cc j).may h3;refine⟨_,rfl,a,_,dx,_,_,rfl,ha,T.DF,T.FQ,rfl,k,.ref 609,_,_,_,rfl,ty,rfl,x,_,rfl,?_⟩;obtain⟨num,nam,kind,must,dfl⟩:=f;cases kind with
  |form d'=>
   have b: (ED d'&&UK ws d')=true:=j;rw[BZ]at b;obtain⟨c,rfl⟩:=Ow b.1;obtain⟨r,p,u,rfl,i,g⟩:=h3;obtain⟨rfl,_⟩:=g;obtain⟨e,hn⟩:=Option.isSome_iff_exists.mp (show(SE ws c).isSome=true from b.2);refine Er ⟨_,rfl,_,rfl,a,_,dx,_,_,rfl,ha,T.DF,T.FQ,rfl,r,_,p,_,_,rfl,i,T.IG,T.Jx,rfl,o,.int e,rfl,?_,?_⟩
   ·have:=Go.k (k:=.inr c) hw;rw[fb,hn]at this;exact this
   ·rw[show bZ ws (Fx.mk num nam (.form (.str c)) must dfl).kind=e by show(SE ws c).getD 0=e;rw[hn];rfl]at q;exact q
  |_=>exact Dr q
theorem bU(T:Tx K mg):Cm P w K mg base DS 2 795 (Br K 795) Aq Uw:=by
 have G:Cm P w K mg base DS 1 790 (Br K 790) Ap XN:=me T;refine T.PZ.ok XX (λvs H Q E h=>?_) (λcdv A outer s H vs Q E L h=>?_)
 ·obtain⟨v,I,g,es,ws,rfl,_⟩:=h;rfl
 ·obtain⟨v,I,g,es,ws,rfl,⟨a,dx,z,f,gl,rfl,ha,hn,hf,hl⟩,hg,hw,hok,hz,N,q⟩:=h;have F:=UM T g.choice;rw[hg]at hf;obtain⟨p,xs,rfl,u,he⟩:=hf;refine⟨_,BW (CV (CZ (HU (P:=P) (w:=w) (K:=K) (mg:=mg) (base:=base) (k:=1) rfl rfl rfl rfl rfl (pv 0) (L.mono Aa) BR)) (Bk (BH (BO Eb Bc (BJ (JB rfl) rfl T.mX gd (AS (DY (ts:=AM) (xs:=["weights"]) (js:=[1]) rfl ⟨rfl,rfl,Ab,Ab,DZ rfl⟩ (.cons rfl (.inl rfl) rfl .nil) Ab (Ez (DC (pv 0) rfl)) (λC s_ H_ fp=>CN (X:=Ee _ _ _ C s_ H_ fp) (i:=0) Q6 rfl (BP rfl) (Di rfl)) (λC s_ H_ fp=>DB (X:=Ee _ _ _ C s_ H_ fp)) (λC s_ H_ fp=>BX (X:=Ee _ _ _ C s_ H_ fp) G (L.mono Aa) rfl T.NM T.Kw T.NW .nil BR (AS (pv 0) (AS (pv 1) AZ)))) AZ))))) Ci) (Bk (BH (BO Eb Bc (BJ (QF rfl) rfl T.zF vO (AS (DY (ts:=AM) (xs:=["weights"]) (js:=[1]) rfl ⟨rfl,rfl,Ab,Ab,DZ rfl⟩ (.cons rfl (.inl rfl) rfl .nil) Ab (Ez (DC (pv 0) rfl)) (λC s_ H_ fp=>CN (X:=Ee _ _ _ C s_ H_ fp) (i:=0) Q6 rfl (BP rfl) (Di rfl)) (λC s_ H_ fp=>fH (X:=Ee _ _ _ C s_ H_ fp) (CZ (Lj (X:=Ee _ _ _ C s_ H_ fp) K rfl (pv 0) rfl))) (λC s_ H_ fp=>BX (X:=Ee _ _ _ C s_ H_ fp) G (L.mono Aa) rfl T.NM T.Kw T.NW .nil BR (AS (pv 0) (AS (pv 1) AZ)))) AZ))))),?_⟩;have m:es.length=xs.length:=he.length;have one:∀(j:Nat) (y:V) (H2:Hp),BC H H2->xs[j]?=some y->∃f,es[j]?=some (.fld f)/\WI H2 f y/\Ii ws f.kind=true/\Jd f.must=true:=λj y H2 s2 o=>by
   obtain⟨e,l,J⟩:=Gf he j y o;have hm:=Bp l;have h1:=hok.fld e hm;cases e with
   |thing d=>cases h1
   |fld f=>exact⟨f,l,OL.sm (Sm.of s2) (e:=.fld f) J,hok.kind _ hm,hok.must _ hm⟩
  refine⟨_,rfl,a,_,dx,_,_,rfl,ha,rfl,WG T g.choice,_,rfl,_,rfl,?_⟩;cases hc:g.choice with
  |true=>
   rw[hc]at q;refine Er ⟨_,rfl,a,_,dx,_,_,rfl,ha,F.cl,F.n2,rfl,p,rfl,⟨_,Dk.of u⟩,Du (Wk.list (Dk.of u)) (by omega) (λj=>.int (match es[j]? with|some e=>EI ws e|none=>0)) (λj y o H2 R s2 W=>?_) (λD H2 hD s2 e2=>?_)⟩
   ·obtain⟨f,l,B,O,_⟩:=one j y H2 s2 o;have c:=W H2 λ_ _ e=>e;rw[l]at c;exact⟨Sub.set rfl,_,rfl,_,rfl,y,I,f,ws,rfl,B,hw.sm (Sm.of s2),O,c⟩
   ·have Z:H2 D=some (.lst ((es.map (EI ws)).map V.int)):=by
     rw[e2,<-m,HS es (λe=>V.int (EI ws e)) _ (λi d hd=>by rw[hd]),Cf];rfl
    refine⟨D,_,rfl,Dk.of Z,?_,λM h1 h2=>?_⟩
    ·rw[AV];exact ET.mpr (N hc)
    ·refine⟨_,_,rfl,rfl,?_⟩;rw[fN h1 h2];exact q _ s2
  |false=>
   rw[hc]at q;refine Dr ⟨_,rfl,a,_,dx,_,_,rfl,ha,F.cl,F.n2,rfl,p,rfl,⟨_,Dk.of u⟩,Pp (Wk.list (Dk.of u)) (by omega) (λj=>match es[j]? with|some e=>JV e|none=>false) (λj=>.int (match es[j]? with|some e=>EI ws e|none=>0)) (λj y o H2 R s2 W hN=>?_) (λD H2 hD s2 e2=>?_)⟩
   ·obtain⟨f,l,B,O,r⟩:=one j y H2 s2 o;have c:=W H2 λ_ _ e=>e;have t:=hN H2 λ_ _ e=>e;rw[l]at c t;have Y:=B;obtain⟨a',a1,n',z',k',m',d',rfl,U,h1,h2,h3,h4,h5⟩:=Y;refine⟨Sub.set rfl,_,rfl,a',_,a1,_,_,rfl,U,T.DF,T.IT,rfl,?_⟩;cases hm:f.must with
    |bl b=>
     rw[hm]at h4;obtain rfl:m'=V.bl b:=h4;have em:JV (.fld f)=b:=by show nQ f.must=b;rw[hm];rfl
     refine⟨_,rfl,?_⟩;cases b with
     |true=>exact Er ⟨_,rfl,_,rfl,_,I,f,ws,rfl,B,hw.sm (Sm.of s2),O,c em⟩
     |false=>exact Dr (t em)
    |_=>rw[hm]at r;cases r
   ·have Z:H2 D=some (.lst (((es.filter JV).map (EI ws)).map V.int)):=by
     rw[e2,<-m,Tg es JV (λe=>V.int (EI ws e)) _ _ (λi d hd=>by rw[hd]) (λi d hd=>by rw[hd]),Cf];rfl
    have r:∀x∈ (es.filter JV).map (EI ws),0<=x/\x<=1000:=λx n=>by
     obtain⟨e,S,rfl⟩:=Bm.mp n;exact fQ hok (EX.mp S).1
    have a6: ((es.filter JV).map (EI ws)).length<=40:=by
     rw[AV];exact BF (Ie _ _) (by omega)
    refine⟨D,_,rfl,Z,λj l=>⟨?_,?_⟩,_,_,rfl,rfl,?_⟩
    ·have n: ((es.filter JV).map (EI ws))[j]?=some (((es.filter JV).map (EI ws))[j]'l):=AW l;rw[BD,n];have:=r _ (Bp n);show InLong (((es.filter JV).map (EI ws))[j]'l);exact⟨by omega,by omega⟩
    ·rw[Wy _ _ (by omega)];have hs:=ly (ns:=((es.filter JV).map (EI ws)).take (j+1)) (b:=1000) λx n=>r x (CA n);have a7: (((es.filter JV).map (EI ws)).take (j+1)).length<=40:=by rw[Bt];omega
     exact⟨by omega,by omega⟩
    ·rw[Wy _ _ (Bv _),DU];exact q _ s2
inductive Ox where
 |form (g:Gx)
 |bare
 |thing (d:Dt)
def Ox.may:Ox->Prop
 |.form g=>∀es,g.fields=some es->∀e∈es,Ex.may e
 |.bare=>True
 |.thing d=>∀b,d≠ .bl b
def Ox.isForm:Ox->Bool
 |.form _=>true
 |_=>false
def Ox.few:Ox->Prop
 |.form g=>(∀es,g.fields=some es->es.length<40)/\g.gone.length<40
 |_=>True
def gr(H:Hp):Ox->V->Prop
 |.form g,v=>OK H g v
 |.bare,v=>∃a dx fs,v= .ref a/\H a=some (.ins 696 dx fs)
 |.thing d,v=>Th H d v
theorem gr.sm{H H':Hp}(s:Sm H H'):∀{o:Ox} {v:V},gr H o v->gr H' o v
 |.form _,_,h=>OK.sm s h
 |.bare,_,⟨a,dx,fs,e,h⟩=>⟨a,dx,fs,e,s _ _ h rfl⟩
 |.thing d,v,h=>Th.sm s d v h
def pE(c:Bool):Ex->Bool
 |.fld f=>OF f c
 |.thing _=>false
def HH(ws:List (Bx×Int))(c:Bool)(es:List Ex)(gone:List Int):Bx:=if Gb es=false then "field"
 else if Ec es gone=false then "number"
 else if (es.all λe=>Ii ws (JW e))=false then "kind"
 else if es.all (pE c)=false then "default"
 else if DX ws c es>100 then "great" else ""
def Fk(ws:List (Bx×Int)):Ox->Bx
 |.form g=>if (ED g.nam&& !UK ws g.nam)=false then "name" else if Gz g=false then "many" else HH ws g.choice (g.fields.getD []) g.gone
 |_=>"form"
def A0Y(ws:List (Bx×Int)):Prop:=∀p∈ws,0<=p.2/\p.2<=1000
def iQ:Sp:=λvs H Q _=>∃v a o ws,vs=[v,a]/\gr H o v/\Ox.may o/\Ox.few o/\WD H ws a/\A0Y ws/\∀H',BC H H'->Q (.str (Fk ws o)) H'
theorem A25: ((AM:List Bx) ++ (["form"]:List Bx)).Nodup:=by decide+kernel
theorem bY{es:List Ex}(h:Gb es=true):∀e∈es,zi e=true:=λe a=>by
 unfold Gb at h;rw[BZ]at h;have:=BI.mp h.1 e a;cases e with
 |fld f=>rfl
 |thing d=>cases this
theorem cA{es:List Ex}{c:Bool}(h:es.all (pE c)=true):∀e∈es,Jd (vb e)=true:=λe a=>by
 have:=BI.mp h e a;cases e with
 |thing d=>cases this
 |fld f=>
  have h2:OF f c=true:=this;unfold OF at h2;rw[BZ]at h2;exact h2.1
theorem A2b(T:Tx K mg){H:Hp}{o:Ox}{v:V}(hm:o.may)(h:gr H o v):∃t e c,GK K H v t/\Co K t (.ref 710)=some e/\Co K t (.ref 729)=some c/\(e||c)=o.isForm:=by
 cases o with
 |form g=>
  obtain⟨a,dx,z,f,l,rfl,ha,_⟩:=h;cases hc:g.choice with
  |false=>rw[hc]at ha;exact⟨_,_,_,T.pQ ha,T.VH,T.VI,rfl⟩
  |true=>rw[hc]at ha;exact⟨_,_,_,T.pT ha,T.VQ,T.VR,rfl⟩
 |bare=>obtain⟨a,dx,fs,rfl,ha⟩:=h;exact⟨_,_,_,T.wE ha,T.ZA,T.ZB,rfl⟩
 |thing d=>
  cases d with
  |bl b=>exact A38 rfl (hm b)
  |non=>exact⟨_,_,_,Th.ty h,T.RA,T.RC,rfl⟩
  |int i=>exact⟨_,_,_,Th.ty h,T.db,T.dc,rfl⟩
  |str z=>exact⟨_,_,_,Th.ty h,T.cY,T.da,rfl⟩
  |lst l=>exact⟨_,_,_,Th.ty h,T.Zi,T.Zj,rfl⟩
  |dct=>exact⟨_,_,_,Th.ty h,T.Zk,T.Zl,rfl⟩
theorem uT(T:Tx K mg):Cm P w K mg base DS 7 800 (Br K 800) Aq iQ:=by
 have G1:Cm P w K mg base DS 3 215 (Br K 215) Ad KD:=MM T;have G2:Cm P w K mg base DS 3 745 (Br K 745) ["form"] Qk:=aW T;have G3:Cm P w K mg base DS 4 750 (Br K 750) Al iJ:=uL T;have G4:Cm P w K mg base DS 3 755 (Br K 755) ["form"] Vp:=jq T;have G5:Cm P w K mg base DS 5 769 (Br K 769) An nY:=yF T;have G6:Cm P w K mg base DS 6 783 (Br K 783) Ao XQ:=mh T;have G7:Cm P w K mg base DS 2 795 (Br K 795) Aq Uw:=bU T;obtain⟨_,hM⟩:=T.Zf;refine T.Xv.ok iY (λvs H Q E h=>?_) (λcdv A outer s H vs Q E L h=>?_)
 ·obtain⟨v,r,o,ws,rfl,_⟩:=h;rfl
 ·obtain⟨v,r,o,ws,rfl,ho,hm,m,hw,b7,q⟩:=h;have hu:=L.units;have b9:=Cp (Cy (show 1<=64 by decide) _) hu;refine⟨_,BE (CV (Fh (CZ (BJ (TJ K rfl) rfl T.Ch Cb (AS (pv 0) (AS (Fq (AS (Wl T.Jt) (AS (Wl T.LN) AZ))) AZ))))) (Bk (BH Bs)) Ci) (BE (CV (PW.pt (Oo (Fh (CZ (BX G1 (L.mono Aa) rfl T.Pc T.LP T.Pe .nil BR (AS (DC (pv 0) rfl) AZ)))) (Ly (O5 (uC b9 (DC (pv 0) rfl) (pv 1)) rfl)))) (Bk (BH Bs)) Ci) (BE (CV (Fh (CZ (BX G2 (L.mono Aa) rfl T.dR T.RO T.eF .nil BR (AS (pv 0) AZ)))) (Bk (BH Bs)) Ci) (BE (CV (Fh (CZ (BX G3 (L.mono Aa) rfl T.QS T.Ky T.QZ .nil BR (AS (DC (pv 0) rfl) AZ)))) (Bk (BH Bs)) Ci) (BE (CV (Fh (CZ (BX G4 (L.mono Aa) rfl T.Xf T.NO T.Xx .nil BR (AS (pv 0) AZ)))) (Bk (BH Bs)) Ci) (BE (CV (Fh (CZ (BJ (FX rfl) rfl T.Rz MT (AS (DY (ts:=AM) (xs:=["weights"]) (js:=[1]) rfl ⟨rfl,rfl,Ab,Ab,DZ rfl⟩ (.cons rfl (.inl rfl) rfl .nil) Ab (Ez (DC (pv 0) rfl)) (λC s_ H_ fp=>CN (X:=Ee _ _ _ C s_ H_ fp) (i:=0) Q6 rfl (BP rfl) (Di rfl)) (λC s_ H_ fp=>DB (X:=Ee _ _ _ C s_ H_ fp)) (λC s_ H_ fp=>BX (X:=Ee _ _ _ C s_ H_ fp) G5 (L.mono Aa) rfl T.qc T.bu T.qg .nil BR (AS (Lj (X:=Ee _ _ _ C s_ H_ fp) K rfl (pv 0) rfl) (AS (pv 1) AZ)))) AZ)))) (Bk (BH Bs)) Ci) (BE (CV (Fh (CZ (BJ (FX rfl) rfl T.Rz MT (AS (DY (ts:=AM) (xs:=["form"]) (js:=[0]) rfl ⟨rfl,rfl,Ab,Ab,DZ rfl⟩ (.cons rfl (.inl rfl) rfl .nil) Ab (Ez (DC (pv 0) rfl)) (λC s_ H_ fp=>CN (X:=Ee _ _ _ C s_ H_ fp) (i:=0) A25 rfl (BP rfl) (Di rfl)) (λC s_ H_ fp=>DB (X:=Ee _ _ _ C s_ H_ fp)) (λC s_ H_ fp=>BX (X:=Ee _ _ _ C s_ H_ fp) G6 (L.mono Aa) rfl T.dU T.RQ T.eH .nil BR (AS (pv 0) (AS (HU (X:=Ee _ _ _ C s_ H_ fp) (P:=P) (w:=w) (K:=K) (mg:=mg) (base:=base) (k:=1) rfl rfl rfl rfl rfl (pv 1) (L.mono Aa) BR) AZ)))) AZ)))) (Bk (BH Bs)) Ci) (BE (CV (CK jl (BX G7 (L.mono Aa) rfl T.PF T.Lv T.Qi .nil BR (AS (pv 0) (AS (pv 1) AZ))) (lR hM) (Dc _)) (Bk (BH Bs)) Ci) (Bk (BH Bs))))))))),?_⟩;refine Df (λb H'=>b=[some v,some r]/\BC H H'/\o.isForm=true) ?_ ?_
  ·refine⟨_,rfl,zl 2,λp Y=>?_⟩;have s1:=BM (H:=H) (u:=.tup [.ref 710,.ref 729]) Y;obtain⟨t,b1,b2,ty,h1,h2,hb⟩:=A2b T hm (ho.sm (Sm.of s1));refine⟨v,p,t,_,[710,729],rfl,AX,ty,vh h1 h2,_,rfl,?_⟩;rw[hb];cases hf:o.isForm with
   |true=>exact Dr ⟨rfl,s1,rfl⟩
   |false=>
    have:Fk ws o="form":=by
     cases o with
     |form g=>cases hf
     |bare=>rfl
     |thing d=>rfl
    rw[this]at q;exact Er (q _ s1)
  rintro b H1 ⟨rfl,s1,hf⟩;cases o with
  |bare=>cases hf
  |thing d=>cases hf
  |form g=>
  have c0:=ho;obtain⟨a,dx,z,f,gl,rfl,ha,hn,a8,hgl⟩:=c0;have G:=UM T g.choice;have a1:∀{H':Hp},BC H H'->OK H' g (.ref a):=λs=>OK.sm (Sm.of s) ho;have W:∀H',BC H H'->Q (.str (if (ED g.nam&& !UK ws g.nam)=false then "name" else if Gz g=false then "many" else HH ws g.choice (g.fields.getD []) g.gone)) H':=q
  refine Df (λb H'=>b=[some (.ref a),some r]/\BC H H'/\(ED g.nam&& !UK ws g.nam)=true) ?_ ?_
  ·refine⟨_,rfl,a,_,dx,_,_,rfl,s1 _ _ ha,G.cl,G.n1,rfl,z,g.nam,rfl,Th.sm (Sm.of s1) _ _ hn,λH2 s2=>⟨_,rfl,?_⟩⟩;have B:=s1.trans s2;cases hnm:ED g.nam with
   |false=>
    have:=W _ B;rw[hnm,DK,A36 rfl]at this;exact Er this
   |true=>
    obtain⟨zz,a5⟩:=Ow hnm;rw[a5]at hn;obtain⟨rfl,_⟩:=hn;obtain⟨wa,rfl,b8⟩:=hw;refine Dr ⟨_,rfl,a,_,dx,_,_,rfl,B _ _ ha,G.cl,G.n1,rfl,_,rfl,wa,_,rfl,Go.k (k:=.inr zz) (B _ _ b8),_,rfl,?_⟩;rw[jE,show(SE ws zz).isSome=UK ws g.nam by rw[a5];rfl];cases hi:UK ws g.nam with
    |true=>
     have:=W _ B;rw[hnm,hi,A36 (show(true&& !true)=false from rfl)]at this;exact Er this
    |false=>exact Dr ⟨rfl,B,rfl⟩
  rintro b H2 ⟨rfl,s2,hnm⟩;rw[hnm,A35 Aa]at W;refine Df (λb H'=>b=[some (.ref a),some r]/\BC H H'/\Gz g=true) ?_ ?_
  ·refine⟨_,rfl,_,g,rfl,a1 s2,λes he=>LJ (m.1 es he) Aa,LJ m.2 Aa,_,rfl,?_⟩;cases hsz:Gz g with
   |false=>
    have:=W _ s2;rw[hsz,A36 rfl]at this;exact Er this
   |true=>exact Dr ⟨rfl,s2,rfl⟩
  rintro b H3 ⟨rfl,s3,hsz⟩;rw[hsz,A35 Aa]at W;cases c:g.fields with
  |none=>unfold Gz at hsz;rw[c]at hsz;cases hsz
  |some es=>
  have N:=hm es c;have l:=m.1 es c;have c2:g.choice=true->es≠[]:=λhc he=>by
   unfold Gz at hsz;rw[c,hc,he]at hsz;cases hsz
  rw[c]at a8 W;obtain⟨p,xs,rfl,Y,a0⟩:=a8;have O:es.length=xs.length:=a0.length;have n:∀H',BC H H'->Q (.str (HH ws g.choice es g.gone)) H':=W;unfold HH at n;refine Df (λb H'=>b=[some (.ref a),some r]/\BC H H'/\Gb es=true) ?_ ?_
  ·refine⟨_,rfl,a,_,dx,_,_,rfl,s3 _ _ ha,G.cl,G.n2,rfl,p,xs,es,rfl,s3 _ _ Y,Es.sm (Sm.of s3) a0,N,by omega,λH4 s4=>⟨_,rfl,?_⟩⟩;cases hnd:Gb es with
   |false=>
    have:=n _ (s3.trans s4);rw[hnd,A36 rfl]at this;exact Er this
   |true=>exact Dr ⟨rfl,s3.trans s4,rfl⟩
  rintro b H4 ⟨rfl,s4,hnd⟩;rw[hnd,A35 Aa]at n;have F:=bY hnd;refine Df (λb H'=>b=[some (.ref a),some r]/\BC H H'/\Ec es g.gone=true) ?_ ?_
  ·refine⟨_,rfl,_,g,es,rfl,a1 s4,c,F,l,m.2,λH5 J=>⟨_,rfl,?_⟩⟩;cases Z:Ec es g.gone with
   |false=>
    have:=n _ (s4.trans J);rw[Z,A36 rfl]at this;exact Er this
   |true=>exact Dr ⟨rfl,s4.trans J,rfl⟩
  rintro b H5 ⟨rfl,J,Z⟩;rw[Z,A35 Aa]at n;have M:∀(j:Nat) (y:V) (H':Hp),BC H H'->xs[j]?=some y->∃f,es[j]?=some (.fld f)/\WI H' f y:=λj y H' s' hy=>by
   obtain⟨e,U,b5⟩:=Gf a0 j y hy;have h1:=F e (Bp U);cases e with
   |thing d=>cases h1
   |fld f=>exact⟨f,U,OL.sm (Sm.of s') (e:=.fld f) b5⟩
  refine Df (λb H'=>b=[some (.ref a),some r]/\BC H H'/\(es.all λe=>Ii ws (JW e))=true) ?_ ?_
  ·refine⟨_,rfl,a,_,dx,_,_,rfl,J _ _ ha,G.cl,G.n2,rfl,p,rfl,⟨_,Dk.of (J _ _ Y)⟩,Du (Wk.list (Dk.of (J _ _ Y))) (by omega) (λj=>.bl (match es[j]? with|some e=>Ii ws (JW e)|none=>false)) (λj y hy H6 R x hR=>?_) (λD H6 hD x e6=>?_)⟩
   ·have a3:=J.trans x;obtain⟨f,U,hF⟩:=M j y H6 a3 hy;rw[U]at hR;have c3:f.kind.may:=N _ (Bp U);obtain⟨a',c9,n',z',k',m',d',rfl,c6,h1,h2,h3,h4,h5⟩:=hF;exact⟨Sub.set rfl,_,rfl,a',_,c9,_,_,rfl,c6,T.DF,T.FQ,rfl,_,rfl,k',r,f.kind,ws,rfl,c3,h3,hw.sm (Sm.of a3),hR⟩
   ·refine⟨D,(Bz xs.length).map λj=>(match es[j]? with|some e=>Ii ws (JW e)|none=>false),rfl,by rw[Cf];exact e6,_,rfl,?_⟩;rw[<-O,Kp es (λe=>Ii ws (JW e)) _ (λi d hd=>by rw[hd])];cases hA:es.all λe=>Ii ws (JW e)with
    |false=>
     have:=n _ (J.trans x);rw[hA,A36 rfl]at this;exact Er this
    |true=>exact Dr ⟨rfl,J.trans x,rfl⟩
  rintro b H6 ⟨rfl,x,a7⟩;rw[a7,A35 Aa]at n;have S:=BI.mp a7;refine Df (λb H'=>b=[some (.ref a),some r]/\BC H H'/\es.all (pE g.choice)=true) ?_ ?_
  ·refine⟨_,rfl,a,_,dx,_,_,rfl,x _ _ ha,G.cl,G.n2,rfl,p,rfl,⟨_,Dk.of (x _ _ Y)⟩,Du (Wk.list (Dk.of (x _ _ Y))) (by omega) (λj=>.bl (match es[j]? with|some e=>pE g.choice e|none=>false)) (λj y hy H7 R I hR=>?_) (λD H7 hD I e7=>?_)⟩
   ·have a2:=x.trans I;obtain⟨f,U,hF⟩:=M j y H7 a2 hy;rw[U]at hR;have c4:f.kind.fine:=cc (ws:=ws) (S _ (Bp U));exact⟨Sub.set rfl,_,rfl,_,rfl,a,_,dx,_,_,rfl,a2 _ _ ha,rfl,WG T g.choice,_,rfl,y,f,g.choice,rfl,hF,c4,hR⟩
   ·refine⟨D,(Bz xs.length).map λj=>(match es[j]? with|some e=>pE g.choice e|none=>false),rfl,by rw[Cf];exact e7,_,rfl,?_⟩;rw[<-O,Kp es (pE g.choice) _ (λi d hd=>by rw[hd])];cases hA:es.all (pE g.choice)with
    |false=>
     have:=n _ (x.trans I);rw[hA,A36 rfl]at this;exact Er this
    |true=>exact Dr ⟨rfl,x.trans I,rfl⟩
  rintro b H7 ⟨rfl,I,a9⟩;rw[a9,A35 Aa]at n;refine Df (λb H'=>b=[some (.ref a),some r]/\BC H H'/\¬DX ws g.choice es>100) ?_ ?_
  ·refine⟨_,rfl,_,rfl,_,r,g,es,ws,rfl,a1 I,c,hw.sm (Sm.of I),⟨F,S,cA a9,b7⟩,l,c2,λH8 s8=>⟨_,_,rfl,rfl,_,rfl,Kg (λh=>?_) (λh=>?_)⟩⟩
   ·have:=n _ (I.trans s8);rw[A36 (A34 h)]at this;exact this
   ·exact⟨rfl,I.trans s8,λz=>h (A32 z)⟩
  rintro b H8 ⟨rfl,s8,b6⟩;rw[A35 b6]at n;exact n _ s8
theorem bL{n:Nat}(h:n<=1000):n<=sizeLine:=Gp (Ea h)
theorem gj{x y:Bx}{n m:Nat}(b:x.length<=n)(a:y.length<=m): (x++y).length<=n+m:=by
 rw[strLen_append];omega
theorem qE:∀p:Nat,p<=100->(Str.ofString (toString (p:Int))).length<=3/\(p:Int).natAbs.log2<1920:=by decide+kernel
def kc(H:Hp)(p:Int)(y:Bx)(E:XK):Prop:=∀d (H':Hp),BC H H'->H' d=some (.xd [("place",.int p),("why",.str y)])->E (.ref 111) (some d) H'
def GR:Sp:=λvs H Q _=>∃(e:Ba) (p:Nat) (y:Bx),vs=[.ref e,.int p,.str y]/\H e=some (Za e 111 none)/\p<=100/\y.length<=100/\∀d (H':Hp),H d=none->(∀b o,b≠e->H b=some o->H' b=some o)->H' e=some (Za e 111 (some d))->H' d=some (.xd [("place",.int p),("why",.str y)])->Q .non H'
theorem rg{K:Be}{l:Ba}{xs:List V}{g:TG}{tb:TS}{D:Wt}{σ:L2.St}{H:Hp}(Pv:Nat->L2.St->Hp->Prop)(n:Pv 0 σ H)(j:∀i σ H,i<=xs.length->Pv i σ H->Dk K H l xs)(hs:∀i x T σ H,xs[i]?=some x->Pv i σ H->H T=none->g (.ref T) σ (upd H T (.tup [.int (i:Nat),x])) λa H2=>tb {D with nx:=Pv (i+1),ct:=Pv (i+1),bk:=D.nx} a H2)(hd:∀σ H,Pv xs.length σ H->D.nx σ H):
  ∃W:Nat->Nat->L2.St->Hp->Prop,(∃m,W 0 m σ H)/\∀i m σ H,W i m σ H->((mU K l).stop i H/\D.nx σ H)\/((mU K l).go i H/\∃N:L2.St->Hp->Prop,(∀b H',N b H'->∃f,f<m/\W (i+1) f b H')/\∀x H',(mU K l).yld i H x H'->g x σ H' λa H2=>tb {D with nx:=N,ct:=N,bk:=D.nx} a H2):=by
 refine⟨λi m σ H=>m=xs.length - i/\i<=xs.length/\Pv i σ H,⟨xs.length,by simp,CH _,n⟩,?_⟩;rintro i m σ H ⟨rfl,hi,p⟩;have d:=j i σ H hi p;by_cases c:i<xs.length
 ·refine .inr ⟨⟨xs,xs[i],d,AW c⟩,Pv (i+1),λb H' h=>⟨xs.length - (i+1),by omega,rfl,c,h⟩,λx H' y=>?_⟩;obtain⟨T,x,rfl,k,rfl,hc⟩:=y;exact hs i x T σ _ (hc _ d) p k
 ·have e:i=xs.length:=by omega
  subst e;exact .inl ⟨⟨xs,d,rfl⟩,hd σ H p⟩
def va:Ox->Bx
 |.form g=>XF g.nam
 |_=>""
def Pf(ws:List (Bx×Int)):Ox->Int
 |.form g=>DX ws g.choice (g.fields.getD [])
 |_=>0
def TD:Ox->Bool
 |.form g=>g.choice
 |_=>false
def mD:List Ox->List (Bx×Int)->Nat->(Nat×Bx) ⊕ List (Bx×Int)
 |[],ws,_=>.inr ws
 |o::r,ws,p=>if Fk ws o="" then mD r (ws++[(va o,Pf ws o)]) (p+1)else .inl (p,Fk ws o)
def Ij(os:List Ox): (Nat×Bx) ⊕ List (Bx×Int):=match mD os [] 0 with
 |.inl e=>.inl e
 |.inr ws=>if (os.getLast?.map TD).getD false then .inl (os.length - 1,"head")else .inr ws
def pN(os:List Ox)(H:Hp)(Q:VK)(E:XK):Prop:=match Ij os with
 |.inl (p,y)=>∀H',BC H H'->kc H' (p:Nat) y E
 |.inr ws=>∀a H',BC H H'->H' a=some (.dK (wK ws))->Q (.ref a) H'
def nV:Sp:=λvs H Q E=>∃l xs os,vs=[.ref l]/\H l=some (.lst xs)/\Paired (gr H) os xs/\(∀o∈os,Ox.may o/\Ox.few o)/\0<os.length/\os.length<=8/\pN os H Q E
theorem rn(ws:List (Bx×Int))(o:Ox): (Fk ws o).length<=100:=by
 cases o with
 |form g=>
  show(if _ then _ else _:Bx).length<=100
  split
  ·decide+kernel
  split
  ·decide+kernel
  unfold HH;split
  ·decide+kernel
  split
  ·decide+kernel
  split
  ·decide+kernel
  split
  ·decide+kernel
  split
  ·decide+kernel
  ·decide+kernel
 |bare=>show("form" :Bx).length<=100;decide+kernel
 |thing d=>show("form" :Bx).length<=100;decide+kernel
theorem YM{ws:List (Bx×Int)}{o:Ox}(h:Fk ws o=""):∃g es z,o= .form g/\g.fields=some es/\g.nam= .str z/\Ih z=true/\SE ws z=none/\Gz g=true/\Gb es=true/\Ec es g.gone=true/\(es.all λe=>Ii ws (JW e))=true/\es.all (pE g.choice)=true/\DX ws g.choice es<=100:=by
 have ne:∀{a b:Bx},a=b->a≠b->False:=λh n=>n h;cases o with
 |bare=>exact(ne (show("form" :Bx)="" from h) Ab).elim
 |thing d=>exact(ne (show("form" :Bx)="" from h) Ab).elim
 |form g=>
  have h': (if (ED g.nam&& !UK ws g.nam)=false then "name" else if Gz g=false then "many" else HH ws g.choice (g.fields.getD []) g.gone:Bx)="":=h
  by_cases s: (ED g.nam&& !UK ws g.nam)=false
  ·rw[A36 s]at h';exact(ne h' Ab).elim
  rw[A35 s]at h';by_cases m:Gz g=false
  ·rw[A36 m]at h';exact(ne h' Ab).elim
  rw[A35 m]at h';unfold HH at h';by_cases l:Gb (g.fields.getD [])=false
  ·rw[A36 l]at h';exact(ne h' Ab).elim
  rw[A35 l]at h';by_cases k:Ec (g.fields.getD []) g.gone=false
  ·rw[A36 k]at h';exact(ne h' Ab).elim
  rw[A35 k]at h';by_cases j: ((g.fields.getD []).all λe=>Ii ws (JW e))=false
  ·rw[A36 j]at h';exact(ne h' Ab).elim
  rw[A35 j]at h';by_cases i: (g.fields.getD []).all (pE g.choice)=false
  ·rw[A36 i]at h';exact(ne h' Ab).elim
  rw[A35 i]at h';by_cases r:DX ws g.choice (g.fields.getD []) >100
  ·rw[A36 r]at h';exact(ne h' Ab).elim
  have f:∀{b:Bool},¬b=false->b=true:=λh=>by simpa using h
  have c:=f s;rw[BZ]at c;obtain⟨z,p⟩:=Ow c.1;cases q:g.fields with
  |none=>have:=f m;unfold Gz at this;rw[q]at this;cases this
  |some es=>
   rw[q]at l k j i r;refine⟨g,es,z,rfl,q,p,?_,?_,f m,f l,f k,f j,f i,Int.not_lt.mp r⟩
   ·have:=c.1;rw[p]at this;exact this
   ·have:=c.2;rw[p]at this;cases hw:SE ws z with
    |none=>rfl
    |some n=>
     have e:UK ws (.str z)=true:=by show(SE ws z).isSome=true;rw[hw];rfl
     rw[e]at this;cases this
theorem lr{ws:List (Bx×Int)}{c:Bool}{es:List Ex}(h:WOk ws es)(a:c=true->es≠[]):0<=DX ws c es:=by
 unfold DX;cases c with
 |true=>
  show 0<=1+Rm (es.map (EI ws));have:=KN (l:=es.map (EI ws)) (λz=>a rfl (Ls.mp z));obtain⟨e,g,i⟩:=Bm.mp this;have:=fQ h g;omega
 |false=>
  show 0<=1+ ((es.filter JV).map (EI ws)).sum;have:=ly (ns:=(es.filter JV).map (EI ws)) (b:=1000) λx f=>by
   obtain⟨e,d,rfl⟩:=Bm.mp f;exact fQ h (EX.mp d).1
  omega
theorem oo{g:Gx}{es:List Ex}(h:Gz g=true)(a:g.fields=some es):g.choice=true->es≠[]:=λhc b=>by
 unfold Gz at h;rw[a,hc,b]at h;cases h
theorem L6{ws:List (Bx×Int)}{z:Bx}{n:Int}(h:SE ws z=none):Jp (wK ws) (.inr z) (.int n)=wK (ws++[(z,n)]):=by
 rw[uq _ (by rw[fb,h];rfl)];unfold wK;rw[Cr];rfl
theorem JI(o:Ox)(r:List Ox)(ws:List (Bx×Int))(p:Nat):mD (o::r) ws p=if Fk ws o="" then mD r (ws++[(va o,Pf ws o)]) (p+1)else .inl (p,Fk ws o):=rfl
theorem pi:∀{os:List Ox} {ws b:List (Bx×Int)} {p:Nat},mD os ws p= .inr b->∀o∈os,∃g,o= .form g
 |[],_,_,_,_,o,d=>A38 d (Cq)
 |a::r,ws,b,p,h,o,d=>by
  unfold mD at h;by_cases c:Fk ws a=""
  ·rw[A36 c]at h;rcases BK.mp d with rfl|d
   ·obtain⟨g,_,_,e,_⟩:=YM c;exact⟨g,e⟩
   ·exact pi h o d
  ·rw[A35 c]at h;cases h
theorem oV{xs:List V}(h:0<xs.length):bo xs (-1)=some (xs[xs.length - 1]'(by omega)):=by
 have e:vi xs.length (-1)=some (xs.length - 1):=by
  unfold vi;rw[A35 Aa,A36 (by omega)];exact A37 some (by omega)
 unfold bo;rw[e];exact AW (by omega)
theorem No(T:Tx K mg):Cm P w K mg base DS 1 108 (Br K 108) Ac GR:=by
 refine T.NV.ok Wi (λvs H Q E h=>?_) (λcdv A outer s H vs Q E v h=>?_)
 ·obtain⟨e,p,y,rfl,_⟩:=h;rfl
 ·obtain⟨e,p,y,rfl,i,n,l,q⟩:=h;refine⟨_,BW (Li (uy rfl T.RJ T.xb T.Js (AS (pv 0) (AS (qI (WA Bs (WA (uA (pv 2)) (WA Bs (WA (uA (pv 1)) O7))))) AZ)))) (BW (oK T.Js (pv 0) (pv 1) rfl) (Bk (oK T.Js (pv 0) (pv 2) rfl))),?_⟩;obtain⟨g,a⟩:=qE p n;have k: (Db++ ("no book: " :Bx)).length<=100:=by decide+kernel
  have l2:=gj k l;have j: ((Db++ ("no book: " :Bx) ++y) ++ (" at form " :Bx)).length<=300:=gj l2 (m:=100) Ab;have u:=gj j g;refine⟨_,rfl,_,rfl,bL (by omega),_,rfl,.inl ⟨_,rfl,bL (by omega),_,rfl,bL (by omega),_,rfl,bL (by omega),_,rfl,.inr ⟨_,rfl,a,_,rfl,bL (by omega),bL (by omega),e,_,_,rfl,i,zl 1,?_⟩⟩⟩;refine⟨_,rfl,_,rfl,e,rfl,T.dJ,.inl ⟨i,λd hd=>?_⟩⟩;have c:d≠e:=λz=>by rw[z,i]at hd;cases hd
  refine⟨_,rfl,_,rfl,e,rfl,T.sw,.inr ⟨d,_,AX,by rw[Bo c];exact AX,by show 1<1000;decide,?_⟩⟩;refine q d _ hd (λb o r z=>?_) ?_ ?_
  ·rw[Bo (λf=>by rw[f,hd]at z;cases z),Bo r,Bo (λf=>by rw[f,hd]at z;cases z)];exact z
  ·rw[Bo c.symm,AX]
  ·rw[AX];have t:Lz "why" (V.str y) [(("place" :Bx),V.int p)]=[(("place" :Bx),V.int p),(("why" :Bx),V.str y)]:=by
    show(if ("place" :Bx)="why" then _ else _)=_
    rw[A35 Ab];rfl
   rw[t]
theorem Rr{H1:Hp}{p:Nat}{y:Bx}{E:XK}(j:p<=100)(i:y.length<=100)(k:kc H1 p y E):∀e,H1 e=none->GR (.ref e::[.int p,.str y]) (upd H1 e (Za e 111 none)) (λv H2=>v= .non/\∃dx,H2 e=some (Za e 111 dx)/\E (.ref 111) dx (untr H2 e)) E0:=λe l=>by
 refine⟨e,p,y,rfl,AX,j,i,λd H' hd kp c g=>⟨rfl,some d,c,?_⟩⟩;have f:d≠e:=λz=>by rw[z,AX]at hd;cases hd
 refine k d _ (λb o z=>?_) (by rw[Em f];exact g);have a:b≠e:=λh=>by rw[h,l]at z;cases z
 rw[Em a];exact kp b o a (by rw[Bo a];exact z)
theorem yC(T:Tx K mg):Cm P w K mg base (XC P w true) 8 807 (Br K 807) ["forms"] nV:=by
 have GI:Cm P w K mg base DS 1 108 (Br K 108) Ac GR:=No T;have GF:Cm P w K mg base DS 7 800 (Br K 800) Aq iQ:=uT T;have GW:Cm P w K mg base DS 2 795 (Br K 795) Aq Uw:=bU T;refine T.Sd.okX Iq (λvs H Q E h=>?_) (λcdv A outer s H vs Q E L h=>?_)
 ·obtain⟨l,xs,os,rfl,_⟩:=h;rfl
 ·obtain⟨l,xs,os,rfl,W,ho,hm,h0,h8,q⟩:=h;have hu:=L.units;have a1:=Cp (Cy (show 1<=64 by decide) _) hu;have B:os.length=xs.length:=ho.length;refine⟨_,BW (Ct (i:=1) Iq.nd rfl (BP rfl) Ou) (BE (Ri PassesOwn.leaving rfl (uv rfl T.gw (pv 0)) (lS rfl (n:=2) (KJ (CN (i:=2) Iq.nd rfl (BP rfl)) (KJ (CN (i:=3) Iq.nd rfl (BP rfl)) fJ))) (BE (Ct (i:=4) Iq.nd rfl (BP rfl) (BX GF (L.mono Aa) rfl T.kJ T.Xi T.kY .nil BR (AS (pv 3) (AS (pv 1) AZ)))) (BW (CV (CK jk (pv 4) Bs (Dc _)) (Bk (UD rfl rfl T.Ms T.Js GI (L.mono Aa) T.KC Rh (AS (pv 2) (AS (pv 4) AZ)))) Ci) (Bk (Pk a1 (pv 1) (DC (pv 3) rfl) (BX GW (L.mono Aa) rfl T.PF T.Lv T.Qi .nil BR (AS (pv 3) (AS (pv 1) AZ))) rfl))))) (BW (CV (CZ (HU (P:=P) (w:=w) (K:=K) (mg:=mg) (base:=base) (k:=1) rfl rfl rfl rfl rfl (Dp Dz (pv 0) (Yq Rc Bc) (λ_ _=>rfl)) (L.mono Aa) BR)) (Bk (UD rfl rfl T.Ms T.Js GI (L.mono Aa) T.KC Rh (AS (BO fM (BJ Dg (by rfl) T.Hs Fu (AS (pv 0) AZ)) Bc) (AS Bs AZ)))) Ci) (Bk (BH (pv 1))))),?_⟩;refine λj O=>?_;have s0:BC H (upd H j (.dK [])):=BM O;refine Df (λb H'=>∃F D v4,b=[some (.ref l),some (.ref j),F,D,v4]/\BC H H'/\∃ws,mD os [] 0= .inr ws/\H' j=some (.dK (wK ws))) ?_ ?_
  ·refine⟨_,rfl,l,rfl,⟨_,Dk.of (s0 _ _ W)⟩,?_⟩;refine rg (xs:=xs) (λi b H'=>∃F D v4,b=[some (.ref l),some (.ref j),F,D,v4]/\BC H H'/\∃ws,mD (os.drop i) ws i=mD os [] 0/\H' j=some (.dK (wK ws))/\A0Y ws/\ws.length=i) ⟨none,none,none,rfl,s0,[],rfl,AX,λp G=>A38 G Cq,rfl⟩ (λi b H' _ h=>by obtain⟨_,_,_,_,s',_⟩:=h;exact Dk.of (s' _ _ W)) (λi x Tt b H1 hx h hT=>?_) (λb H' h=>?_)
   ·obtain⟨F,D,v4,rfl,s1,ws,e,c,r,hwl⟩:=h;obtain⟨o,v,t⟩:=Gf ho i x hx;have hi:i<os.length:=(Bi.mp v).1;obtain⟨S,C⟩:=hm o (Bp v);have ed:os.drop i=o::os.drop (i+1):=by
     rw[Gh hi];have:os[i]'hi=o:=by rw[AW hi]at v;exact AR v
     rw[this]
    have s2:=s1.trans (BM (u:=.tup [.int (i:Nat),x]) hT);have f:upd H1 Tt (.tup [.int (i:Nat),x]) j=some (.dK (wK ws)):=by rw[Bo (Ce c hT)];exact c
    refine⟨Tt,_,rfl,Hm.of AX,rfl,_,_,rfl,_,_,rfl,rfl,?_⟩;revert s2 f;generalize upd H1 Tt (.tup [.int (i:Nat),x])=H2;intro s2 f;refine Df (λb H'=>b=[some (.ref l),some (.ref j),some (.int (i:Nat)),some x,some (.str (Fk ws o))]/\BC H H'/\H' j=some (.dK (wK ws))) ?_ ?_
    ·exact⟨_,rfl,_,rfl,x,_,o,ws,rfl,t.sm (Sm.of s2),S,C,⟨j,rfl,f⟩,r,λH3 J=>⟨rfl,s2.trans J,J _ _ f⟩⟩
    rintro b H3 ⟨rfl,J,y⟩;have d:mD (o::os.drop (i+1)) ws i=mD os [] 0:=by rw[<-ed];exact e
    rw[JI]at d;refine⟨_,rfl,rfl,_,rfl,?_⟩;by_cases U:Fk ws o=""
    ·rw[A36 U]at d;rw[U,show(!decide (V.str ""=V.str ""))=false from rfl];obtain⟨g,es,z,rfl,m,hnm,b9,a0,hsz,hnd,b8,a3,a4,b6⟩:=YM U;have hG:OK H3 g x:=OK.sm (Sm.of J) t;have M:WOk ws es:=⟨bY hnd,BI.mp a3,cA a4,r⟩;refine Dr ⟨_,rfl,_,rfl,x,_,g,es,ws,rfl,hG,m,⟨j,rfl,y⟩,M,C.1 es m,oo hsz m,λH4 s4=>?_⟩;have X:=J.trans s4;have N:=s4 _ _ y;obtain⟨a,dx,zv,fv,gl,rfl,ha,hn,_⟩:=OK.sm (Sm.of s4) hG;have fc:=UM T g.choice;rw[hnm]at hn;obtain rfl:zv=V.str z:=hn.1;have ek:Jp (wK ws) (.inr z) (.int (DX ws g.choice es))=wK (ws++[(z,DX ws g.choice es)]):=L6 a0;refine⟨_,rfl,_,rfl,a,_,dx,_,_,rfl,ha,fc.cl,fc.n1,rfl,j,_,rfl,bp.k (k:=.inr z) N ?_,_,_,_,rfl,?_,ws++[(z,DX ws g.choice es)],?_,?_,?_,?_⟩
     ·show(wK ws).length<sizeLine;unfold wK;rw[AV,hwl];exact Ea (by omega)
     ·exact X.put O
     ·have e1:va (.form g)=z:=by show XF g.nam=z;rw[hnm];rfl
      have e2:Pf ws (.form g)=DX ws g.choice es:=by show DX ws g.choice (g.fields.getD [])=_;rw[m];rfl
      rw[e1,e2]at d;exact d
     ·rw[AX,ek]
     ·intro p G;rcases Cg.mp G with G|G
      ·exact r p G
      ·rw[Bu.mp G];exact⟨lr M (oo hsz m),by show DX ws g.choice es<=1000;omega⟩
     ·rw[Bh,hwl];rfl
    ·rw[A35 U]at d;have hd: (!decide (V.str (Fk ws o)=V.str ""))=true:=by
      rw[A33 (λz=>U (V.str.inj z))];rfl
     rw[hd];have eB:Ij os= .inl (i,Fk ws o):=by unfold Ij;rw[<-d]
     unfold pN at q;rw[eB]at q;exact Er ⟨_,rfl,_,rfl,zl 2,Rr (by omega) (rn ws o) (q H3 J)⟩
   ·obtain⟨F,D,v4,rfl,s1,ws,e,c,r,hwl⟩:=h;rw[<-B,List.drop_length]at e;exact⟨F,D,v4,rfl,s1,ws,e.symm,c⟩
  ·rintro b H1 ⟨F,D,v4,rfl,s1,ws,e,c⟩;have Z:0<xs.length:=by omega
   have Y:xs[xs.length - 1]?=some (xs[xs.length - 1]'(by omega)):=AW (by omega);obtain⟨o,R,t⟩:=Gf ho (xs.length - 1) _ Y;obtain⟨g,rfl⟩:=pi e o (Bp R);have I:os.getLast?=some (.form g):=by rw[MZ,B];exact R
   have eB:Ij os=if g.choice then .inl (os.length - 1,"head")else .inr ws:=by
    unfold Ij;rw[e,I];rfl
   unfold pN at q;rw[eB]at q;obtain⟨a,dx,zv,fv,gl,ea,ha,_⟩:=OK.sm (Sm.of s1) t;refine⟨_,rfl,_,rfl,l,_,_,_,rfl,rfl,Dk.of (s1 _ _ W),oV Z,a,_,dx,_,_,ea,ha,rfl,WG T g.choice,_,rfl,_,rfl,?_⟩;cases hc:g.choice with
   |true=>
    rw[hc]at q;refine Er ⟨_,rfl,l,_,rfl,.inl (Dk.of (s1 _ _ W)),_,_,rfl,rfl,zl 2,?_⟩;have e1: ((xs.length:Int) - 1)=((os.length - 1:Nat):Int):=by omega
    dsimp only
    rw[e1];exact Rr (by omega) Ab (q H1 s1)
   |false=>
    rw[hc]at q;exact Dr ⟨_,rfl,q j H1 s1 c⟩
def pbO:HO->Bool
 |.tbl _=>false
 |.ins C _ _=>!(C==838)
 |_=>true
def Sb(H H':Hp):Prop:=∀a o,H a=some o->pbO o=true->H' a=some o
theorem Sb.sf{H H':Hp}(s:Sb H H'):Sf H H':=λa o e n=>s a o e (by
 cases o with
 |ins C dx fs=>
  have b: (!(C==696||C==710||C==729||C==838))=true:=n;show(!(C==838))=true;simp only[Bool.not_or,BZ]at b;exact b.2
 |_=>first|rfl|cases n)
theorem Sb.upd{H:Hp}{x:Ba}{o u:HO}(b:H x=some o)(n:pbO o=false):Sb H (upd H x u):=λa v e m=>by
 rw[Bo]
 ·exact e
 ·rintro rfl;rw[b]at e;cases e;rw[n]at m;cases m
theorem OK.sb{H H':Hp}(s:Sb H H'){g:Gx}{v:V}:OK H g v->OK H' g v
 |⟨a,dx,z,f,l,e,h,h1,h2,h3⟩=>⟨a,dx,z,f,l,e,s _ _ h (by cases g.choice <;> rfl),Th.sn s.sf.sn _ _ h1,h2.sf s.sf,s _ _ h3 rfl⟩
theorem gr.sb{H H':Hp}(s:Sb H H'):∀{o:Ox} {v:V},gr H o v->gr H' o v
 |.form _,_,h=>OK.sb s h
 |.bare,_,⟨a,dx,fs,e,h⟩=>⟨a,dx,fs,e,s _ _ h rfl⟩
 |.thing d,v,h=>Th.sn s.sf.sn d v h
def Os(H:Hp)(os:List Ox)(xs:List V):Prop:=Paired (gr H) os xs
theorem Os.sm{H H':Hp}(s:Sm H H'){os:List Ox}{xs:List V}(h:Os H os xs):Os H' os xs:=Paired.mapP h λ_ _ z=>gr.sm s z
theorem Os.sb{H H':Hp}(s:Sb H H'){os:List Ox}{xs:List V}(h:Os H os xs):Os H' os xs:=Paired.mapP h λ_ _ z=>gr.sb s z
def IsB(H:Hp)(xs:List V)(ws:List (Bx×Int))(v:V):Prop:=∃a dx l b,v= .ref a/\H a=some (.ins 838 dx [("forms",.ref l),("weights",.ref b)])/\H l=some (.lst xs)/\H b=some (.dK (wK ws))
def Lp(K:Be)(H:Hp)(v:V):Prop:=(∃t,GK K H v t/\Co K t (.type "list")=some false)\/∃l xs,v= .ref l/\H l=some (.lst xs)/\xs.length<=1000/\¬ (1<=xs.length/\xs.length<=8)
def fk(K:Be):Sp:=λvs H Q E=>∃x dx v,vs=[.ref x,v]/\H x=some (.ins 838 dx [])/\((Lp K H v/\∀H',U9 x H H'->kc H' 0 "forms" E)\/
  ∃l xs os,v= .ref l/\H l=some (.lst xs)/\Os H os xs/\(∀o∈os,Ox.may o/\Ox.few o)/\0<os.length/\os.length<=8/\match Ij os with
  |.inl (p,y)=>∀H',U9 x H H'->kc H' (p:Nat) y E
  |.inr ws=>∀H',U9 x H H'->IsB H' xs ws (.ref x)->Q .non H')
theorem Tl(T:Tx K mg):Cm P w K mg base (XC P w true) 9 821 (Br K 821) Ar (fk K):=by
 have V:Cm P w K mg base DS 1 108 (Br K 108) Ac GR:=No T;have W:Cm P w K mg base DS 2 203 (Br K 203) Ae FT:=GA T;have U:Cm P w K mg base (XC P w true) 8 807 (Br K 807) ["forms"] nV:=yC T;obtain⟨_,O⟩:=T.cV;refine T.Vl.okX fE (λvs H Q E h=>?_) (λcdv A outer s H vs Q E D h=>?_)
 ·obtain⟨x,dx,v,rfl,_⟩:=h;rfl
 ·obtain⟨x,dx,v,rfl,I,h⟩:=h;refine⟨_,BE (CV (PW.pt (Oo (Fh (CZ (BJ (CY K rfl) rfl T.Ch Cb (AS (pv 1) (AS (kq T.Il Gi) AZ))))) (Ly (Fh (CZ (BX W (D.mono Aa) rfl T.GE T.Ga T.GG .nil BR (AS (BJ Dg (by rfl) T.Hs Fu (AS (pv 1) AZ)) (AS Bc (AS (lR O) AZ))))))))) (Bk (UD rfl rfl T.Ms T.Js V (D.mono Aa) T.KC Rh (AS Bc (AS Bs AZ)))) Ci) (BW (IZ (pv 0) (Gj FW rfl T.Il Gi (AS (pv 1) AZ)) rfl) (Bk (IZ (pv 0) (BX U (D.mono Aa) rfl T.dP T.RN T.eD .nil (yz (λz=>z)) (AS (DC (pv 0) rfl) AZ)) rfl))),?_⟩;have r:∀n:Nat,KZ (.int (n:Int)) 1 8=(decide (1<=n) &&decide (n<=8)):=λn=>by
   show(decide ((1:Int)<= (n:Int)) &&decide ((n:Int)<=8))=_;congr 1 <;> exact decide_eq_decide.mpr (by omega)
  have a: (∀H',U9 x H H'->kc H' 0 "forms" E)->∀e,H e=none->GR (.ref e::[.int ((0:Nat):Int),.str "forms"]) (upd H e (Za e 111 none)) (λv H2=>v= .non/\∃dx,H2 e=some (Za e 111 dx)/\E (.ref 111) dx (untr H2 e)) E0:=λq=>
   Rr Aa Ab (q H λ_ _ _ e=>e)
  rcases h with⟨hn,q⟩|⟨l,xs,os,rfl,g,J,hm,S,R,q⟩
  ·refine⟨λ_ _=>False,?_,λ_ _ h=>h.elim⟩;rcases hn with⟨t,ty,N⟩|⟨l,xs,rfl,g,X,hn⟩
   ·exact⟨_,rfl,v,.ty "list",_,_,_,rfl,ty,rfl,N,_,rfl,Er ⟨zl 2,a q⟩⟩
   ·refine⟨_,rfl,.ref l,.ty "list",_,_,_,rfl,.lst g,rfl,T.HE,_,rfl,Dr ⟨_,rfl,l,_,rfl,.inl (Dk.of g),_,.int _,_,_,rfl,rfl,_,rfl,?_⟩⟩;rw[r,show(decide (1<=xs.length) &&decide (xs.length<=8))=false by
     rw[<-Bool.not_eq_true,BZ];exact λz=>hn ⟨A34 z.1,A34 z.2⟩]
    exact Er ⟨zl 2,a q⟩
  ·have L:os.length=xs.length:=Paired.length J;refine Df (λi H'=>i=[some (.ref x),some (.ref l)]/\H=H') ?_ ?_
   ·refine⟨_,rfl,.ref l,.ty "list",_,_,_,rfl,.lst g,rfl,T.HE,_,rfl,Dr ⟨_,rfl,l,_,rfl,.inl (Dk.of g),_,.int _,_,_,rfl,rfl,_,rfl,?_⟩⟩;rw[r,show(decide (1<=xs.length) &&decide (xs.length<=8))=true by
     rw[BZ];exact⟨A32 (by omega),A32 (by omega)⟩]
    exact Dr ⟨rfl,rfl⟩
   rintro i Y ⟨rfl,rfl⟩;refine⟨_,rfl,l,xs,rfl,.inl (Dk.of g),λl2 c=>⟨_,rfl,x,_,dx,_,rfl,BM c _ _ I,T.Pd,T.Mp,Aa,?_⟩⟩;have B:upd H l2 (.lst xs) x=some (.ins 838 dx []):=BM c _ _ I;have M:U9 x H (upd (upd H l2 (.lst xs)) x (.ins 838 dx [("forms",.ref l2)])):=λb o f e=>by rw[Bo f];exact BM c _ _ e
   have sb:Sb (upd H l2 (.lst xs)) (upd (upd H l2 (.lst xs)) x (.ins 838 dx [("forms",.ref l2)])):=Sb.upd B rfl;have F:=Os.sb sb (Os.sm (Sm.of (BM (u:=.lst xs) c)) J);have d:upd (upd H l2 (.lst xs)) x (.ins 838 dx [("forms",.ref l2)]) l2=some (.lst xs):=sb _ _ AX rfl;have m:upd (upd H l2 (.lst xs)) x (.ins 838 dx [("forms",.ref l2)]) x=some (.ins 838 dx [("forms",.ref l2)]):=AX;refine⟨_,rfl,x,_,dx,_,_,rfl,m,T.Pd,T.Mp,rfl,l2,xs,os,rfl,d,F,hm,S,R,?_⟩;unfold pN;revert q;cases Ij os with
   |inl e=>
    obtain⟨p,y⟩:=e;exact λq H' s'=>q H' λb o f e=>s' _ _ (M b o f e)
   |inr ws=>
    intro q G H' s' C;have k:=s' _ _ m;refine⟨_,rfl,x,_,dx,_,rfl,k,T.Pd,T.NJ,by show 1<1000;decide,?_⟩;have j:Sb H' (upd H' x (.ins 838 dx [("forms",.ref l2),("weights",.ref G)])):=Sb.upd k rfl;refine q _ (λb o f e=>?_) ⟨x,dx,l2,G,rfl,AX,j _ _ (s' _ _ d) rfl,j _ _ C rfl⟩;rw[Bo f];exact s' _ _ (M b o f e)
def nZ:Sp:=λvs H Q _=>∃v xs ws x,vs=[v]/\IsB H xs ws v/\xs.getLast?=some x/\Q x H
theorem yG(T:Tx K mg):Cm P w K mg base DS 1 835 (Br K 835) Ag nZ:=by
 refine T.Vm.ok fF (λvs H Q E h=>?_) (λcdv A outer s H vs Q E i h=>?_)
 ·obtain⟨v,xs,ws,x,rfl,_⟩:=h;rfl
 ·obtain⟨v,xs,ws,x,rfl,⟨a,dx,l,g,rfl,ha,f,d⟩,b,q⟩:=h;refine⟨_,Bk (BH (Dp Dz (DC (pv 0) rfl) (Yq Rc Bc) (λ_ _=>rfl))),?_⟩;have c:0<xs.length:=ET.mpr (λz=>by rw[z]at b;cases b);have e:xs[xs.length - 1]'(by omega)=x:=by
   rw[MZ,AW (by omega)]at b;exact AR b
  exact⟨_,rfl,a,_,dx,_,_,rfl,ha,T.Pd,T.Mp,rfl,_,rfl,l,_,_,_,rfl,rfl,Dk.of f,oV c,by rw[e];exact q⟩
def XR:Sp:=λvs H Q _=>∃v u xs ws g z n,vs=[v,u]/\IsB H xs ws v/\OK H g u/\g.nam= .str z/\SE ws z=some n/\Q (.int n) H
theorem mi(T:Tx K mg):Cm P w K mg base DS 1 849 (Br K 849) As XR:=by
 refine T.io.ok qC (λvs H Q E h=>?_) (λcdv A outer s H vs Q E o h=>?_)
 ·obtain⟨v,u,xs,ws,g,z,n,rfl,_⟩:=h;rfl
 ·obtain⟨v,u,xs,ws,g,z,n,rfl,⟨a,dx,l,i,rfl,ha,t,c⟩,⟨b,r,e,f,gl,rfl,p,hn,_⟩,j,hw,q⟩:=h;have m:=o.units;have d:=UM T g.choice;rw[j]at hn;obtain rfl:e=V.str z:=hn.1;refine⟨_,Bk (BH (CT (Cp (Cy Aa _) m) (DC (pv 0) rfl) (DC (pv 1) rfl) (λ_ _=>rfl))),?_⟩;refine⟨_,rfl,a,_,dx,_,_,rfl,ha,T.Pd,T.NJ,rfl,_,rfl,b,_,r,_,_,rfl,p,d.cl,d.n1,rfl,i,.int n,rfl,?_,q⟩;have:=Go.k (k:=.inr z) c;rw[fb,hw]at this;exact this
theorem wg:cJ.cps.toList=[97,98,99,100,101,102,103,104,105,106,107,108,109,110,111,112,113,114,115,116,117,118,119,120,121,122]:=by decide+kernel
theorem zb{c:Nat}(h1:97<=c)(h2:c<=122):zc cJ c=true:=by
 have all:∀m:Fin 26,zc cJ (97+m.val)=true:=by decide+kernel
 rw[<-Nat.add_sub_cancel' h1];exact all ⟨c - 97,by omega⟩
theorem yP{c:Nat}(h:c<97):zc cJ c=false:=by
 have all:∀m:Fin 97,zc cJ m.val=false:=by decide+kernel
 exact all ⟨c,h⟩
abbrev sg(z:Bx):List Nat:=z.cps.toList
theorem ME(z:Bx): (sg z).length=z.length:=by simp[Str.length]
def lc(i:Int):Nat:=97+ (i%26).toNat
theorem zU(i:Int):97<=lc i/\lc i<=122:=by
 unfold lc;omega
theorem pK:cJ.length=26:=by decide+kernel
theorem wh(i:Int):bo cJ.cps.toList (i%26)=some (lc i):=by
 have a:∀j:Fin 26,cJ.cps.toList[j.val]?=some (97+j.val):=by decide+kernel
 have b: (i%26).toNat<26:=by omega
 have c:bo cJ.cps.toList (((i%26).toNat:Nat):Int)=some (lc i):=EK (a ⟨_,b⟩);rw[Dj (by omega)]at c;exact c
def A2u(l:List Nat):Prop:=1<=l.length/\l.length<=12/\∀c∈l,97<=c/\c<=122
def A2s(l:List Nat):Prop:=(∀x,l≠[122,122,122,x])/\l≠CI 12 122
def UQ(z:Bx):Prop:=Ih z=true/\A2s (sg z)
theorem oR{z:Bx}(h:A2u (sg z)):Ih z=true:=by
 unfold Ih YC;rw[BZ,BZ];have:=h.1;have:=h.2.1;rw[ME]at *;exact⟨⟨A32 (by assumption),A32 (by assumption)⟩,BI.mpr λc hc=>zb (h.2.2 c hc).1 (h.2.2 c hc).2⟩
structure EA(zs:List Bx):Prop where
 ok:∀z∈zs,UQ z
 nd:zs.Nodup
theorem nodup_range{c:Type}(f:Nat->c)(n:Nat)(h:∀i j,i<n->j<n->f i=f j->i=j): ((Bz n).map f).Nodup:=by
 refine JM.mpr (List.Pairwise.imp_of_mem (R:=(·< ·)) (λ{a b} ha e g d=>?_) List.pairwise_lt_range);have:=h a b (DJ.mp ha) (DJ.mp e) d;omega
theorem Tp{a b:Type}{f:a->b}{l:List a}(h: (l.map f).Nodup):l.Nodup:=(JM.mp h).imp λhn e=>hn (by rw[e])
structure wq(b:List Nat):Prop where
 len:b.length=12
 lets:∀c∈b,97<=c/\c<=122
 two:∀x r,b≠x::x::r
theorem qN{b:List Nat}(h:wq b){many:Nat}(hm:many<=12){zs:List Bx}(e:zs.map sg=(Bz many).map λk=>b.take (k+1)):EA zs:=by
 have at_:∀z∈zs,∃k,k<many/\sg z=b.take (k+1):=λz g=>by
  have:sg z∈zs.map sg:=List.mem_map_of_mem g;rw[e]at this;obtain⟨k,m,q⟩:=Bm.mp this;exact⟨k,DJ.mp m,q.symm⟩
 refine⟨λz g=>?_,?_⟩
 ·obtain⟨k,m,n⟩:=at_ z g;refine⟨oR ?_,?_⟩
  ·rw[n];refine⟨?_,?_,λc hc=>h.lets c (CA hc)⟩
   ·rw[Bt,h.len];omega
   ·rw[Bt,h.len];omega
  ·rw[n];obtain⟨d,f,r,p⟩:∃d f r,b=d::f::r:=by
    match b,h.len with
    |d::f::r,_=>exact⟨d,f,r,rfl⟩
   have two:=h.two;subst p;refine⟨λx a=>?_,λa=>?_⟩
   ·cases k with
    |zero=>simp at a
    |succ k=>
     rw[IQ,IQ]at a;injection a with h1 h2;injection h2 with h2 h3;exact two d r (by rw[h1,h2])
   ·cases k with
    |zero=>simp[CI]at a
    |succ k=>
     rw[IQ,IQ]at a;have l:CI 12 122=122::122::CI 10 122:=rfl;rw[l]at a;injection a with h1 h2;injection h2 with h2 h3;exact two d r (by rw[h1,h2])
 ·have nd: (zs.map sg).Nodup:=by
   rw[e];refine nodup_range _ _ λi j hi s o=>?_;have:=A37 List.length o;rw[Bt,Bt,h.len]at this;omega
  exact Tp nd
theorem uY{b:List Nat}(h:wq b){m a many:Nat}(hm:m<=7)(c:Nat->Nat)(hc:∀k,k<many->97<=c k/\c k<=122)(hi:∀i j,i<many->j<many->c i=c j->i=j)(ha:a<= (b.take m).length){zs:List Bx}(e:zs.map sg=(Bz many).map λk=>(b.take m).take a++c k:: (b.take m).drop a):EA zs:=by
 have at_:∀z∈zs,∃k,k<many/\sg z=(b.take m).take a++c k:: (b.take m).drop a:=λz u=>by
  have:sg z∈zs.map sg:=List.mem_map_of_mem u;rw[e]at this;obtain⟨k,v,t⟩:=Bm.mp this;exact⟨k,DJ.mp v,t.symm⟩
 have s: (b.take m).length=m:=by rw[Bt,h.len];omega
 have two:∀x r,b.take m≠x::x::r:=λx r o=>by
  have t:=Ic m b;rw[o]at t;exact h.two x (r++b.drop m) t.symm
 have lets:∀d∈b.take m,97<=d/\d<=122:=λd hd=>h.lets d (CA hd);revert e at_ two lets ha;generalize b.take m=l at s;intro ha e at_ two lets;refine⟨λz u=>?_,?_⟩
 ·obtain⟨k,v,y⟩:=at_ z u;have g: (l.take a++c k::l.drop a).length=m+1:=by
   rw[Bh,Cj,Bt,GX,s];omega
  refine⟨oR ?_,?_⟩
  ·rw[y];refine⟨by omega,by omega,λd hd=>?_⟩;rcases Cg.mp hd with hd|hd
   ·exact lets d (CA hd)
   ·rcases BK.mp hd with rfl|hd
    ·exact hc k v
    ·exact lets d (List.mem_of_mem_drop hd)
  ·rw[y];refine⟨λx o=>?_,λo=>?_⟩
   ·rw[o]at g;have h3:m=3:=by simp at g;omega
    subst h3
    match l,s with
    |[p,q,r],_=>
     match a,ha with
     |0,_=>
      have f: [c k,p,q,r]=[122,122,122,x]:=o;injection f with _ f;injection f with h1 f;injection f with h2 _;exact two p [r] (by rw[h2,<-h1])
     |1,_=>
      have f: [p,c k,q,r]=[122,122,122,x]:=o;injection f with h1 f;injection f with _ f;injection f with h2 _;exact two p [r] (by rw[h2,<-h1])
     |2,_=>
      have f: [p,q,c k,r]=[122,122,122,x]:=o;injection f with h1 f;injection f with h2 _;exact two p [r] (by rw[h2,<-h1])
     |3,_=>
      have f: [p,q,r,c k]=[122,122,122,x]:=o;injection f with h1 f;injection f with h2 _;exact two p [r] (by rw[h2,<-h1])
     |n+4,hn=>exact A38 hn (by simp)
   ·rw[o,JZ]at g;omega
 ·have nd: (zs.map sg).Nodup:=by
   rw[e];refine nodup_range _ _ λi j w A B=>hi i j w A ?_;have:=List.append_cancel_left B;injection this
  exact Tp nd
def VF(n:Int):List Nat:=(Bz 12).map λj:Nat=>lc (n/7+ (3+n%5) * (0+ (j:Int)))
theorem zw(n:Int):wq (VF n):=by
 refine⟨by unfold VF;rw[AV,Bw],λc hc=>?_,λx r d=>?_⟩
 ·obtain⟨j,_,rfl⟩:=Bm.mp hc;exact zU _
 ·have b: (VF n)[0]?=some (lc (n/7+ (3+n%5) * (0+ ((0:Nat):Int)))):=rfl;have h1: (VF n)[1]?=some (lc (n/7+ (3+n%5) * (0+ ((1:Nat):Int)))):=rfl;rw[d]at b h1;have e:x=lc (n/7+ (3+n%5) * (0+ ((0:Nat):Int))):=AR b;have a:x=lc (n/7+ (3+n%5) * (0+ ((1:Nat):Int))):=AR h1;rw[e]at a;unfold lc at a;have a0: (3+n%5) * (0+ ((0:Nat):Int))=0:=by simp
  have f: (3+n%5) * (0+ ((1:Nat):Int))=3+n%5:=by simp
  rw[a0,f]at a;omega
theorem tX(q:Int)(i j:Nat)(hi:i<12)(a:j<12)(h:lc (q+5* (0+ (i:Int)))=lc (q+5* (0+ (j:Int)))):i=j:=by
 unfold lc at h;omega
theorem Wk.rng{H1:Hp}(lo:Int)(n:Nat):Wk (zE lo n) H1 ((Bz n).map λi:Nat=>V.int (lo+ (i:Int))) where
 go:=λH i s hi=>by rw[AV,Bw]at hi;exact hi
 stop:=λH i s hi=>by rw[AV,Bw]at hi;exact Nat.le_of_eq hi.symm
 yld:=λH i x H' s hi y=>by
  rw[AV,Bw]at hi;exact⟨y.1,by rw[Bj,FG hi,y.2];rfl⟩
theorem On{lo:Int}{n j:Nat}{x:V}(h: ((Bz n).map λi:Nat=>V.int (lo+ (i:Int)))[j]?=some x):x= .int (lo+j)/\j<n:=by
 rw[Bj]at h;by_cases a:j<n
 ·rw[FG a]at h;exact⟨(AR h).symm,a⟩
 ·rw[CW (by rw[Bw];omega)]at h;cases h
def Ux(K:Be):Sp:=λvs H Q _=>∃(a:Ba) (ns:List Int) (k:Int),vs=[.ref a,.int k]/\Dk K H a (ns.map V.int)/\0<=k/\k<=1000/\∀r:Int,0<=r->r<2147483629->Q (.int r) H
def bg(c k:Int):Int:=(c%2147483629*40692+ (k+5) * (k+5) *30269) %2147483399
def iK:Sp:=λvs H Q _=>∃(c k:Int),vs=[.int c,.int k]/\0<=k/\k<=1000/\Q (.int (bg c k)) H
theorem Ey(a:Int){b:Int}(h:0<b):0<=a%b/\a%b<b:=⟨Int.emod_nonneg _ (Int.ne_of_gt h),Int.emod_lt_of_pos _ h⟩
theorem tY(x y:Bx):sg (x++y)=sg x++sg y:=by
 show(x++y).cps.toList=_;rw[PySem.Str.cps_append,UZ]
theorem rh(ps:List Bx):∀a:Array Nat,(ps.foldl (λb p=>b++ (Str.ofString "").cps++p.cps) a).toList=a.toList++ (ps.map sg).flatten:=by
 induction ps with
 |nil=>intro a;simp
 |cons p ps c=>
  intro a;rw[List.foldl_cons,c,BV,Ik,UZ,UZ];show a.toList++[] ++p.cps.toList++_=_;simp
theorem yf(ys:List Bx):sg (Txt.join "" ys)=(ys.map sg).flatten:=by
 cases ys with
 |nil=>rfl
 |cons y ys=>
  show((List.drop 1 (y::ys)).foldl (λa p=>a++ (Str.ofString "").cps++p.cps) ((y::ys).headD Db).cps).toList=_;rw[rh];rfl
def one(c:Nat):Bx:=⟨#[c]⟩
theorem yd(a:List Nat): ((a.map one).map sg).flatten=a:=by
 induction a with
 |nil=>rfl
 |cons c a b=>rw[BV,BV,Ik,b];rfl
theorem tS(a:List Nat): ((a.map one).map (·.length)).sum=a.length:=by
 induction a with
 |nil=>rfl
 |cons c a b=>rw[BV,BV,EM,b,Cj];show 1+_=_;omega
theorem Od(z:Bx)(k:Nat)(h:k<=z.length):sg (EF z none (some (k:Int)))=(sg z).take k:=by
 have e:=eq_of_beq (PyProof.Rows.slice_closes_toL (x:=z) (j:=(k:Int)) (by omega) (by omega));rw[e];show((z.cps.toList.drop 0).take ((k:Int) - 0).toNat)=_;rw[List.drop_zero,show((k:Int) - 0).toNat=k by omega]
theorem lD(z:Bx)(k:Nat)(h:k<=z.length):sg (EF z (some (k:Int)) none)=(sg z).drop k:=by
 have e:=eq_of_beq (PyProof.Rows.slice_closes_fromL (x:=z) (i:=(k:Int)) (b:=(z.length:Int)) (by omega) (by omega) rfl);rw[e];show((z.cps.toList.drop (k:Int).toNat).take ((z.length:Int) - (k:Int)).toNat)=_;rw[show((k:Int)).toNat=k by omega];apply HC;rw[GX,ME];omega
theorem A24: ((AN:List Bx) ++ (["_law_letters","_law_number_here","_law_step"]:List Bx)).Nodup:=by decide+kernel
theorem A21: ((["_law_k"]:List Bx) ++ (["_law_base"]:List Bx)).Nodup:=by decide+kernel
theorem A20: ((["_law_k"]:List Bx) ++ (["_law_letters","_law_number_here"]:List Bx)).Nodup:=by decide+kernel
theorem A1X: ((["_law_sign"]:List Bx) ++ (["_law_border","_law_at"]:List Bx)).Nodup:=by decide+kernel
def XI:Sp:=λvs H Q _=>∃(n:Int) (many:Nat),vs=[.int n,.int many]/\0<=n/\n<2147483648/\many<=10/\∀zs,zs.length=many->EA zs->M0 H Q (zs.map V.str)
theorem uM(T:Tx K mg):Cm P w K mg base DS 1 863 (Br K 863) Au iK:=by
 refine T.nD.ok ud (λvs H Q E h=>?_) (λcdv A outer s H vs Q E a h=>?_)
 ·obtain⟨c,k,rfl,_⟩:=h;rfl
 ·obtain⟨c,k,rfl,b,h1,q⟩:=h;refine⟨_,Bk (BH (BO Dl (BO Eb (BO LA (BO Dl (pv 0) Bc) Bc) (BO LA (BO LA (BO Eb (pv 1) Bc) (BO Eb (pv 1) Bc)) Bc)) Bc)),?_⟩;exact⟨_,rfl,_,_,rfl,rfl,(by show(0:Int) <2147483629;decide),_,_,rfl,rfl,.inr ⟨Aa,Aa⟩,_,rfl,_,_,rfl,rfl,_,rfl,_,_,rfl,rfl,_,_,rfl,rfl,.inl ⟨by omega,by omega⟩,_,_,rfl,rfl,.inr ⟨Aa,Aa⟩,_,_,rfl,rfl,_,_,rfl,rfl,(by show(0:Int) <2147483399;decide),q⟩
theorem bV(T:Tx K mg):Cm P w K mg base DS 1 856 (Br K 856) At (Ux K):=by
 refine T.ip.ok Ph (λvs H Q E h=>?_) (λcdv A outer s H vs Q E n h=>?_)
 ·obtain⟨a,ns,k,rfl,_⟩:=h;rfl
 ·obtain⟨a,ns,k,rfl,f,o,h1,q⟩:=h;refine⟨_,BW (Ct (i:=2) Ph.nd rfl (BP rfl) Bc) (BE (CV (CK jl (BJ Dg (by rfl) T.Hs Fu (AS (pv 0) AZ)) Bc (Dc _)) (Bk (Ct (i:=2) Ph.nd rfl (BP rfl) (Dp Dz (pv 0) (BO Dl (pv 1) (BJ Dg (by rfl) T.Hs Fu (AS (pv 0) AZ))) (λ_ _=>rfl))))
    Ci)
   (BW (Ct (i:=3) Ph.nd rfl (BP rfl) (BO Eb (pv 1) Bc))
   (Bk (BH (BO Dl (BO LA (BO Dl (BO Eb (BO LA (BO Dl (pv 2) Bc) Bc) (BO LA (BO LA (pv 3) (pv 3)) Bc)) Bc) Bc) Bc))))),?_⟩
  refine Df (λe H'=>∃c:Int,e=[some (.ref a),some (.int k),some (.int c),none]/\H'=H) ?_ ?_
  ·refine⟨_,rfl,a,_,rfl,.inl f,_,_,rfl,rfl,_,rfl,Kg (λh=>?_) (λh=>⟨1,rfl,rfl⟩)⟩;have j: (0:Int) < ((ns.map V.int).length:Int):=A34 h;have z:=Ey k j;have d: (k% ((ns.map V.int).length:Int)).toNat<ns.length:=by
    have:=AV (as:=ns) V.int;omega
   refine⟨_,rfl,_,rfl,_,rfl,a,_,rfl,.inl f,_,_,rfl,rfl,j,a,_,_,.int (ns[(k% ((ns.map V.int).length:Int)).toNat]'d),rfl,rfl,f,?_,⟨_,rfl,rfl⟩⟩;have l:bo (ns.map V.int) (((k% ((ns.map V.int).length:Int)).toNat:Nat):Int)=some (.int (ns[(k% ((ns.map V.int).length:Int)).toNat]'d)):=EK (by
    rw[Bj,AW d];rfl)
   rw[show(((k% ((ns.map V.int).length:Int)).toNat:Nat):Int)=k% ((ns.map V.int).length:Int)from Dj z.1]at l;exact l
  ·rintro e H' ⟨c,rfl,rfl⟩;refine⟨_,rfl,_,_,rfl,rfl,?_⟩;have y:=Ey c (b:=2147483629) Aa;have m:=Ey (c%2147483629*48271+ (k+3) * (k+3) *69621) (b:=2147483647) Aa;refine⟨_,rfl,_,_,rfl,rfl,(by show(0:Int) <2147483629;decide),_,_,rfl,rfl,.inr ⟨Aa,Aa⟩,_,rfl,_,rfl,_,_,rfl,rfl,.inl ⟨by omega,by omega⟩,_,_,rfl,rfl,.inr ⟨Aa,Aa⟩,_,_,rfl,rfl,_,_,rfl,rfl,(by show(0:Int) <2147483647;decide),_,_,rfl,rfl,.inr ⟨Aa,Aa⟩,_,_,rfl,rfl,(by show(0:Int) <2147483629;decide),?_⟩;have g:=Ey ((c%2147483629*48271+ (k+3) * (k+3) *69621) %2147483647*16807) (b:=2147483629) Aa;exact q _ g.1 g.2
theorem jr(T:Tx K mg):Cm P w K mg base DS 1 868 (Br K 868) Av XI:=by
 refine T.nC.ok KG (λvs H Q E h=>?_) (λcdv A outer s H vs Q E Z h=>?_)
 ·obtain⟨n,many,rfl,_⟩:=h;rfl
 ·obtain⟨n,many,rfl,h0,h1,S,q⟩:=h;refine⟨_,BW (Ct (i:=2) KG.nd rfl (Di rfl) Bs) (BW (Ct (i:=3) KG.nd rfl (Di rfl) (BO Eb Bc (BO Dl (pv 0) Bc))) (BE (Ct (i:=4) KG.nd rfl (Di rfl) (QA PySem.F.plainAttrs_str PySem.F.slot_str_join PySem.F.type_str_join yT Bs (AS (DY (ts:=AN) (xs:=["_law_letters","_law_number_here","_law_step"]) (js:=[2,0,3]) rfl ⟨rfl,rfl,Ab,Ab,DZ rfl⟩ (.cons rfl (.inl rfl) rfl (.cons rfl (.inl rfl) rfl (.cons rfl (.inl rfl) rfl .nil))) Ab (FP rfl T.HP (AS Bc AZ)) (λC s_ H_ fp=>CN (X:=Ee _ _ _ C s_ H_ fp) (i:=0) A24 rfl (BP rfl) (Di rfl)) (λC s_ H_ fp=>DB (X:=Ee _ _ _ C s_ H_ fp)) (λC s_ H_ fp=>Dp (X:=Ee _ _ _ C s_ H_ fp) fS (pv 1) (BO Dl (BO Eb (BO DT (pv 2) Bc) (BO LA (pv 3) (pv 0))) Bc) (λ_ _=>rfl))) AZ))) (BW (CV (CK Gg (BO Dl (BO DT (pv 0) Bc) Bc) Bc (Dc _)) (Bk (BH (DY (ts:=["_law_k"]) (xs:=["_law_base"]) (js:=[4]) rfl ⟨rfl,rfl,Ab,Ab,DZ rfl⟩ (.cons rfl (.inl rfl) rfl .nil) Ab (FP rfl T.HP (AS (pv 1) AZ)) (λC s_ H_ fp=>CN (X:=Ee _ _ _ C s_ H_ fp) (i:=0) A21 rfl (BP rfl) (Di rfl)) (λC s_ H_ fp=>DB (X:=Ee _ _ _ C s_ H_ fp)) (λC s_ H_ fp=>HG (X:=Ee _ _ _ C s_ H_ fp) XS (pv 1) Jb (Ja (BO Eb (pv 0) Bc))))))
    Ci)
   (BE (Ct (i:=5) KG.nd rfl (Di rfl) (HG XS (pv 4) Jb (Ja (BO Dl (pv 0) Bc))))
   (BE (Ct (i:=6) KG.nd rfl (Di rfl) (BO Dl (BO DT (pv 0) Bc) (BO Eb (BJ MS (by rfl) T.Hs Fu (AS (pv 5) AZ)) Bc)))
   (BE (Iz (i:=7) (ts:=["_law_k"]) (xs:=["_law_letters","_law_number_here"]) (js:=[2,0]) rfl ⟨rfl,rfl,Ab,Ab,DZ rfl⟩ (.cons rfl (.inl rfl) rfl (.cons rfl (.inl rfl) rfl .nil)) Ab (FP rfl T.HP (AS (pv 1) AZ)) (λC s_ H_ fp=>CN (X:=Ee _ _ _ C s_ H_ fp) (i:=0) A20 rfl (BP rfl) (Di rfl)) (λC s_ H_ fp=>DB (X:=Ee _ _ _ C s_ H_ fp)) (λC s_ H_ fp=>Dp (X:=Ee _ _ _ C s_ H_ fp) fS (pv 1) (BO Dl (BO Eb (BO DT (pv 2) Bc) (BO LA Bc (pv 0))) Bc) (λ_ _=>rfl))
     KG.nd rfl (BP rfl) rfl)
   (Bk (BH (DY (ts:=["_law_sign"]) (xs:=["_law_border","_law_at"]) (js:=[5,6]) rfl ⟨rfl,rfl,Ab,Ab,DZ rfl⟩ (.cons rfl (.inl rfl) rfl (.cons rfl (.inl rfl) rfl .nil)) Ab (Ez (pv 7)) (λC s_ H_ fp=>CN (X:=Ee _ _ _ C s_ H_ fp) (i:=0) A1X rfl (BP rfl) (Di rfl)) (λC s_ H_ fp=>DB (X:=Ee _ _ _ C s_ H_ fp)) (λC s_ H_ fp=>BO (X:=Ee _ _ _ C s_ H_ fp) ML (BO ML (HG XS (pv 1) Jb (Ja (pv 2))) (pv 0)) (HG XS (pv 1) (Ja (pv 2)) Jb))))))))))),?_⟩
  refine⟨_,rfl,_,_,rfl,rfl,(by show(0:Int) <5;decide),_,_,rfl,rfl,?_⟩;have W:=Ey n (b:=5) Aa;have o:=zw n;refine Df (λd H'=>∃b:Bx,sg b=VF n/\d=[some (.int n),some (.int many),some (.str cJ),some (.int (3+n%5)),some (.str b),none,none,none]/\BC H H') ?_ ?_
  ·refine⟨rfl,12,rfl,Aa,Aa,Du (Wk.rng 0 12) Aa (λj=>.str (one (lc (n/7+ (3+n%5) * (0+ (j:Int)))))) (λj x f H2 R s2 r=>?_) (λD H2 v s2 y=>?_)⟩
   ·obtain⟨rfl,t⟩:=On f;refine⟨Sub.set rfl,_,rfl,_,rfl,_,_,rfl,rfl,⟨Aa,Aa⟩,_,rfl,_,rfl,_,_,rfl,rfl,.inl ⟨by omega,by omega⟩,_,_,rfl,rfl,_,_,rfl,rfl,(by show(0:Int) <26;decide),cJ,_,_,rfl,rfl,by rw[pK];decide,wh _,?_⟩;exact r H2 λ_ _ e=>e
   ·have I:H2 D=some (.lst (((VF n).map one).map V.str)):=by
     unfold VF;rw[Cf,Cf];exact y
    refine⟨"",D,_,rfl,rfl,Dk.of I,?_,?_⟩
    ·rw[tS,AV,o.len];decide
    ·exact⟨_,by rw[yf,yd],rfl,s2⟩
  rintro d H' ⟨b,G,rfl,z⟩;have B:b.length=12:=by rw[<-ME,G,o.len]
  have u:b.length<=sizeLine:=by rw[B];decide
  refine⟨_,rfl,_,_,rfl,rfl,⟨Aa,Aa⟩,_,_,rfl,rfl,(by show(0:Int) <3;decide),rfl,_,rfl,Kg (λ_=>?_) (λ_=>?_)⟩
  ·refine⟨_,rfl,(many:Int),rfl,by omega,by omega,?_⟩;rw[show(((many:Int)).toNat)=many by omega];refine Du (Wk.rng 0 many) (by rw[AV,Bw];omega) (λj=>.str (EF b none (some (0+ (j:Int) +1)))) (λj x f H2 R s2 r=>?_) (λD H2 v s2 y=>?_)
   ·obtain⟨rfl,t⟩:=On f;exact⟨Sub.set rfl,_,rfl,_,rfl,_,_,rfl,rfl,_,rfl,b,rfl,u,r H2 λ_ _ e=>e⟩
   ·refine q ((Bz many).map λj:Nat=>EF b none (some (0+ (j:Int) +1))) (by rw[AV,Bw]) (qN o (many:=many) (by omega) ?_) D _ (z.free v) (z.trans s2) ?_
    ·rw[Cf];refine Lu λk M=>?_;have U:=DJ.mp M;show sg (EF b none (some (0+ (k:Int) +1)))=_;rw[show(0+ (k:Int) +1)=((k+1:Nat):Int)by omega,Od _ _ (by omega),G]
    ·rw[y,AV,Bw,Cf];rfl
  refine Df (λd H2=>∃c:Bx,sg c=(VF n).take (n%8).toNat/\d=[some (.int n),some (.int many),some (.str cJ),some (.int (3+n%5)),some (.str b),some (.str c),none,none]/\H'=H2) ?_ ?_
  ·refine⟨_,rfl,_,rfl,_,_,rfl,rfl,(by show(0:Int) <8;decide),_,rfl,b,rfl,u,_,?_,rfl,rfl⟩;rw[show n%8=(((n%8).toNat:Nat):Int)by omega,Od _ _ (by omega),G];rfl
  rintro d H2 ⟨c,p,rfl,rfl⟩;have N:c.length=(n%8).toNat:=by rw[<-ME,p,Bt,o.len];omega
  have g:c.length<=sizeLine:=BF (show c.length<=8 by omega) Aa;refine Df (λd H2=>∃a:Nat,a<=c.length/\d=[some (.int n),some (.int many),some (.str cJ),some (.int (3+n%5)),some (.str b),some (.str c),some (.int (a:Int)),none]/\H'=H2) ?_ ?_
  ·refine⟨_,rfl,_,_,rfl,rfl,⟨Aa,Aa⟩,_,rfl,c,rfl,g,_,_,rfl,rfl,_,_,rfl,rfl,?_,(n/200% ((c.length:Int) +1)).toNat,?_,?_,rfl⟩
   ·show(0:Int) < (c.length:Int) +1;omega
   ·have:=Ey (n/200) (b:=(c.length:Int) +1) (by omega);omega
   ·have:=Ey (n/200) (b:=(c.length:Int) +1) (by omega);rw[Dj this.1];rfl
  rintro d H2 ⟨a,ha,rfl,rfl⟩;refine Df (λd H2=>∃l:Ba,d=[some (.int n),some (.int many),some (.str cJ),some (.int (3+n%5)),some (.str b),some (.str c),some (.int (a:Int)),some (.ref l)]/\BC H' H2/\H2 l=some (.lst ((Bz many).map λj:Nat=>V.str (one (lc (n/2000+5* (0+ (j:Int)))))))) ?_ ?_
  ·refine⟨_,rfl,(many:Int),rfl,by omega,by omega,?_⟩;rw[show(((many:Int)).toNat)=many by omega];refine Du (Wk.rng 0 many) (by rw[AV,Bw];omega) (λj=>.str (one (lc (n/2000+5* (0+ (j:Int)))))) (λj x f H2 R s2 r=>?_) (λD H2 v s2 y=>?_)
   ·obtain⟨rfl,t⟩:=On f;refine⟨Sub.set rfl,_,rfl,_,rfl,_,_,rfl,rfl,⟨Aa,Aa⟩,_,rfl,_,_,rfl,rfl,.inl ⟨Aa,Aa⟩,_,_,rfl,rfl,_,_,rfl,rfl,(by show(0:Int) <26;decide),cJ,_,_,rfl,rfl,by rw[pK];decide,wh _,?_⟩;exact r H2 λ_ _ e=>e
   ·refine⟨D,rfl,s2,?_⟩;rw[y,AV,Bw]
  rintro d H2 ⟨l,rfl,s2,L⟩;have Y:=Txt.slice_le c none (some (a:Int));have l2:=Txt.slice_le c (some (a:Int)) none;refine⟨_,rfl,l,rfl,⟨_,Dk.of L⟩,Du (Wk.list (Dk.of L)) (by rw[AV,Bw];omega) (λj=>.str ((EF c none (some (a:Int)) ++one (lc (n/2000+5* (0+ (j:Int))))) ++EF c (some (a:Int)) none)) (λj x f O R J r=>?_) (λD O v J I=>?_)⟩
  ·obtain rfl:x= .str (one (lc (n/2000+5* (0+ (j:Int))))):=by
    rw[Bj]at f;by_cases t:j<many
    ·rw[FG t]at f;exact(AR f).symm
    ·rw[CW (by rw[Bw];omega)]at f;cases f
   refine⟨Sub.set rfl,_,rfl,_,rfl,_,rfl,c,rfl,g,_,rfl,_,_,rfl,rfl,?_,_,rfl,_,rfl,_,rfl,c,rfl,g,_,_,rfl,rfl,?_,r O λ_ _ e=>e⟩
   ·show _+1<=sizeLine;exact BF (show _<=20 by omega) Aa
   ·rw[Str.length_append];show _+1+_<=sizeLine;exact BF (show _<=30 by omega) Aa
  ·refine q ((Bz many).map λj:Nat=>(EF c none (some (a:Int)) ++one (lc (n/2000+5* (0+ (j:Int))))) ++EF c (some (a:Int)) none) (by rw[AV,Bw]) (uY o (m:=(n%8).toNat) (a:=a) (many:=many) (by omega) (λk=>lc (n/2000+5* (0+ (k:Int)))) (λk _=>zU _) (λi j hi t h=>tX _ i j (by omega) (by omega) h) (by rw[<-p,ME];exact ha) ?_) D _ (z.free (s2.free v)) ((z.trans s2).trans J) ?_
   ·rw[Cf];refine Lu λk M=>?_;show sg ((EF c none (some (a:Int)) ++one (lc (n/2000+5* (0+ (k:Int))))) ++EF c (some (a:Int)) none)=_;rw[tY,tY,Od _ _ ha,lD _ _ ha,p,Gu];rfl
   ·rw[I,AV,Bw,Cf];rfl
inductive Lk where
 |truth|count|whole
 |upto (n:Int)|text (n:Int)|form (i:Nat)
 |list (k:Lk)
def TL(H:Hp):Lk->V->Prop
 |.truth,v=>∃t,v= .ref t/\H t=some (.tup [.str "truth"])
 |.count,v=>∃t,v= .ref t/\H t=some (.tup [.str "count"])
 |.whole,v=>∃t,v= .ref t/\H t=some (.tup [.str "whole"])
 |.upto n,v=>∃t,v= .ref t/\H t=some (.tup [.str "upto",.int n])
 |.text n,v=>∃t,v= .ref t/\H t=some (.tup [.str "text",.int n])
 |.form i,v=>∃t,v= .ref t/\H t=some (.tup [.str "form",.int (i:Nat)])
 |.list k,v=>∃t u,v= .ref t/\H t=some (.tup [.str "list",u])/\TL H k u
theorem TL.sm{H H':Hp}(s:Sm H H'):∀{k:Lk} {v:V},TL H k v->TL H' k v
 |.truth,_,⟨a,e,h⟩=>⟨a,e,s _ _ h rfl⟩
 |.count,_,⟨a,e,h⟩=>⟨a,e,s _ _ h rfl⟩
 |.whole,_,⟨a,e,h⟩=>⟨a,e,s _ _ h rfl⟩
 |.upto _,_,⟨a,e,h⟩=>⟨a,e,s _ _ h rfl⟩
 |.text _,_,⟨a,e,h⟩=>⟨a,e,s _ _ h rfl⟩
 |.form _,_,⟨a,e,h⟩=>⟨a,e,s _ _ h rfl⟩
 |.list _,_,⟨a,u,e,h,k⟩=>⟨a,u,e,s _ _ h rfl,k.sm s⟩
def Lk.word:Lk->Bx
 |.truth=>"truth" |.count=>"count" |.whole=>"whole" |.upto _=>"upto" |.text _=>"text" |.form _=>"form" |.list _=>"list"
theorem TL.word{H:Hp}:∀{k:Lk} {v:V},TL H k v->∃t xs,v= .ref t/\H t=some (.tup (.str k.word::xs))
 |.truth,_,⟨a,e,h⟩=>⟨a,_,e,h⟩
 |.count,_,⟨a,e,h⟩=>⟨a,_,e,h⟩
 |.whole,_,⟨a,e,h⟩=>⟨a,_,e,h⟩
 |.upto _,_,⟨a,e,h⟩=>⟨a,_,e,h⟩
 |.text _,_,⟨a,e,h⟩=>⟨a,_,e,h⟩
 |.form _,_,⟨a,e,h⟩=>⟨a,_,e,h⟩
 |.list _,_,⟨a,u,e,h,k⟩=>⟨a,_,e,h⟩
def Lk.plain:Lk->Prop
 |.upto n=>1<=n/\n<=2 ^ 64
 |.text n=>1<=n/\n<=100
 |.form _=>False
 |.list _=>False
 |_=>True
def Lk.ok(n:Nat):Lk->Prop
 |.form i=>i<n
 |.list k=>(k.plain\/∃i,k= .form i/\i<n)
 |k=>k.plain
def wm(H:Hp)(xs:List V):Prop:=∀x∈xs,∃k:Lk,k.plain/\TL H k x
theorem wm.sm{H H':Hp}(s:Sm H H'){xs:List V}(h:wm H xs):wm H' xs:=λx c=>let ⟨k,a,b⟩:=h x c;⟨k,a,b.sm s⟩
def iI:Sp:=λvs H Q _=>∃n:Int,vs=[.int n]/\0<=n/\n<2147483648/\∀k:Lk,k.plain->∀u H',BC H H'->TL H' k u->Q u H'
def iL:Sp:=λvs H Q _=>∃(n:Int) (m:Nat),vs=[.int n,.int m]/\0<=n/\n<2147483648/\∀k:Lk,k.ok m->(∀i,k= .form i->n%16=3\/n%16=14)->∀u H',BC H H'->TL H' k u->Q u H'
theorem OH{xs:List V}{i:Int}(b:0<=i)(h1:i<xs.length):∃x,bo xs i=some x/\x∈xs:=by
 have a:i.toNat<xs.length:=by omega
 refine⟨xs[i.toNat]'a,?_,OU a⟩;have e:=EK (xs:=xs) (j:=i.toNat) (v:=xs[i.toNat]'a) (AW a);rw[Dj b]at e;exact e
theorem Ma{l:List Int}{P:Int->Prop}(h:∀i∈l,P i){x:V}(a:x∈l.map V.int):∃i,x= .int i/\P i:=by
 obtain⟨i,hi,rfl⟩:=Bm.mp a;exact⟨i,rfl,h i hi⟩
theorem A1Q:L2.wp 10 12:=⟨Aa,Ab⟩
theorem A1P:L2.wp 2 64:=⟨Aa,Ab⟩
theorem uK(T:Tx K mg):Cm P w K mg base DS 1 875 (Br K 875) Aw iI:=by
 refine T.nB.ok Oe (λvs H Q E h=>?_) (λcdv A outer s H vs Q E hr h=>?_)
 ·obtain⟨n,rfl,_⟩:=h;rfl
 ·obtain⟨n,rfl,h0,h1,q⟩:=h;refine⟨_,BE (Ct (i:=1) Oe.nd rfl (BP rfl) (Dp Dz (DO (AS Bc (AS Bc (AS Bc (AS Bc (AS Bc (AS Bc (AS Bc (AS Bc (AS Bc (AS Bc (AS (BO WC Bc Bc) (AS (BO WC Bc Bc) AZ))))))))))))) (BO Dl (BO DT (pv 0) Bc) Bc) (λ_ _=>rfl))) (BE (Ct (i:=2) Oe.nd rfl (BP rfl) (Dp Dz (DO (AS Bc (AS Bc (AS Bc (AS Bc (AS Bc AZ)))))) (BO Dl (BO DT (pv 0) Bc) Bc) (λ_ _=>rfl))) (BE (Ct (i:=3) Oe.nd rfl (BP rfl) (DO (AS (Fq (AS Bs AZ)) (AS (Fq (AS Bs AZ)) (AS (Fq (AS Bs AZ)) (AS (Fq (AS Bs (AS (pv 1) AZ))) (AS (Fq (AS Bs (AS (pv 2) AZ))) AZ))))))) (BE (Ct (i:=3) Oe.nd rfl (BP rfl) (BO Hl (pv 3) (DO (AS (Fq (AS Bs (AS (pv 1) AZ))) (AS (Fq (AS Bs (AS Bc AZ))) (AS (Fq (AS Bs AZ)) AZ)))))) (Bk (BH (Dp Dz (pv 3) (BO Dl (pv 0) Bc) (λ_ _=>rfl))))))),?_⟩;refine Df (λd H'=>∃m:Int,(1<=m/\m<=2 ^ 64)/\d=[some (.int n),some (.int m),none,none]/\BC H H') ?_ ?_
  ·refine⟨_,_,rfl,rfl,A1Q,_,_,rfl,rfl,A1P,zl 12,λp j=>?_⟩;obtain⟨x,g,hm⟩:=OH (xs:=([1,2,3,7,8,127,128,255,256,300,10 ^ (12:Int).toNat,2 ^ (64:Int).toNat]:List Int).map V.int) (i:=n/8%12) (by omega) (by rw[AV];show n/8%12<12;omega);obtain⟨i,rfl,hi⟩:=Ma (P:=λi=>1<=i/\i<=2 ^ 64) Ab hm;exact⟨_,rfl,_,_,rfl,rfl,⟨Aa,Aa⟩,_,_,rfl,rfl,(by show(0:Int) <12;decide),p,_,_,_,rfl,rfl,Dk.of AX,g,i,hi,rfl,BM j⟩
  rintro d H1 ⟨m,hm,rfl,s1⟩;refine Df (λd H'=>∃c:Int,(1<=c/\c<=100)/\d=[some (.int n),some (.int m),some (.int c),none]/\BC H H') ?_ ?_
  ·refine⟨zl 5,λp j=>?_⟩;obtain⟨x,g,D⟩:=OH (xs:=([1,2,5,99,100]:List Int).map V.int) (i:=n/8%5) (by omega) (by rw[AV];show n/8%5<5;omega);obtain⟨i,rfl,hi⟩:=Ma (P:=λi=>1<=i/\i<=100) Ab D;exact⟨_,rfl,_,_,rfl,rfl,⟨Aa,Aa⟩,_,_,rfl,rfl,(by show(0:Int) <5;decide),p,_,_,_,rfl,rfl,Dk.of AX,g,i,hi,rfl,s1.trans (BM j)⟩
  rintro d H2 ⟨c,hc,rfl,s2⟩;have tp:∀{H':Hp} {t:Ba} {xs:List V},H' t=none->BC H H'->BC H (upd H' t (.tup xs)):=λh s=>s.trans (BM h);have z:∀H':Hp,wm H' []:=λ_ x g=>A38 g Cq;have f:∀{H':Hp} {xs:List V} {k:Lk} {t:Ba} {ys:List V},k.plain->H' t=none->(∀B:Hp,B t=some (.tup ys)->TL B k (.ref t))->wm H' xs->wm (upd H' t (.tup ys)) (xs++[.ref t]):=λG Y I y x g=>by
   rcases Cg.mp g with g|g
   ·exact y.sm (Sm.of (BM Y)) x g
   ·rw[Bu.mp g];exact⟨_,G,I _ AX⟩
  have N:∀{H':Hp} {xs ys:List V},wm H' xs->wm H' ys->wm H' (xs++ys):=λa b x g=>(Cg.mp g).elim (a x) (b x);refine Df (λd H'=>∃l xs,xs.length=5/\wm H' xs/\d=[some (.int n),some (.int m),some (.int c),some (.ref l)]/\BC H H'/\H' l=some (.lst xs)) ?_ ?_
  ·refine⟨zl 1,λS h1=>⟨zl 1,λR h2=>⟨zl 1,λO h3=>⟨_,rfl,zl 2,λt4 W=>⟨_,rfl,zl 2,λt5 U=>⟨zl 5,λp j=>?_⟩⟩⟩⟩⟩⟩;have M:=f (k:=.truth) trivial h1 (λ_ e=>⟨_,rfl,e⟩) (z H2);have L:=f (k:=.count) trivial h2 (λ_ e=>⟨_,rfl,e⟩) M;have J:=f (k:=.whole) trivial h3 (λ_ e=>⟨_,rfl,e⟩) L;have e4:=f (k:=.upto m) hm W (λ_ e=>⟨_,rfl,e⟩) J;have Z:=f (k:=.text c) hc U (λ_ e=>⟨_,rfl,e⟩) e4;exact⟨p,_,rfl,Z.sm (Sm.of (BM j)),rfl,(tp U (tp W (tp h3 (tp h2 (tp h1 s2))))).trans (BM j),AX⟩
  rintro d H3 ⟨l,xs,o,y,rfl,X,F⟩;refine Df (λd H'=>∃l xs,xs.length=8/\wm H' xs/\d=[some (.int n),some (.int m),some (.int c),some (.ref l)]/\BC H H'/\H' l=some (.lst xs)) ?_ ?_
  ·refine⟨_,rfl,_,rfl,zl 2,λS h1=>⟨zl 2,λR h2=>⟨zl 1,λO h3=>⟨zl 3,λp j=>?_⟩⟩⟩⟩;have M:=f (k:=.upto m) hm h1 (λ_ e=>⟨_,rfl,e⟩) (z H3);have L:=f (k:=.text 100) (show(1:Int)<=100/\(100:Int)<=100 by decide) h2 (λ_ e=>⟨_,rfl,e⟩) M;have J:=f (k:=.truth) trivial h3 (λ_ e=>⟨_,rfl,e⟩) L;have s4:=(((BM (u:=.tup [.str "upto",.int m]) h1).trans (BM (u:=.tup [.str "text",.int 100]) h2)).trans (BM (u:=.tup [.str "truth"]) h3)).trans (BM (u:=.lst [.ref S,.ref R,.ref O]) j);refine⟨l,p,xs,_,rfl,rfl,s4 _ _ F,AX,by rw[o];show 8<=sizeLine;decide,λr v=>⟨r,_,by rw[Bh,o];rfl,?_,rfl,(X.trans s4).trans (BM v),AX⟩⟩;exact(N (y.sm (Sm.of s4)) (J.sm (Sm.of (BM j)))).sm (Sm.of (BM v))
  rintro d H4 ⟨l,xs,o,y,rfl,s4,F⟩;obtain⟨x,g,C⟩:=OH (xs:=xs) (i:=n%8) (by omega) (by omega);obtain⟨k,G,I⟩:=y x C;exact⟨_,rfl,_,rfl,_,_,rfl,rfl,(by show(0:Int) <8;decide),l,_,_,_,rfl,rfl,Dk.of F,g,q k G x H4 s4 I⟩
theorem in3(a:Int)(x y z:Int):L2.kr (.int a) [.int x,.int y,.int z]=decide (a=x\/a=y\/a=z):=by
 unfold L2.kr;simp only[Jk,List.any_nil,zp,Bool.or_false];rw[Fw];simp;omega
theorem uN(T:Tx K mg):Cm P w K mg base DS 2 882 (Br K 882) Ax iL:=by
 have c:Cm P w K mg base DS 1 875 (Br K 875) Aw iI:=uK T;refine T.sZ.ok fw (λvs H Q E h=>?_) (λcdv A outer s H vs Q E x h=>?_)
 ·obtain⟨n,m,rfl,_⟩:=h;rfl
 ·obtain⟨n,m,rfl,C,h1,q⟩:=h;refine⟨_,BE (Ct (i:=2) fw.nd rfl (BP rfl) (BX c (x.mono Aa) rfl T.xh T.nj T.xC .nil BR (AS (BO DT (pv 0) Bc) AZ))) (BE (CV (PW.pt (Op (CK jl (pv 1) Bc (Dc _)) (Pj (CK Hj (BO Dl (pv 0) Bc) (Fq (AS Bc (AS Bc (AS Bc AZ)))) rfl)))) (Bk (Ct (i:=2) fw.nd rfl (BP rfl) (Fq (AS Bs (AS (BO Dl (BO DT (pv 0) Bc) (pv 1)) AZ)))))
    Ci)
   (BW (CV (CK Hj (BO Dl (pv 0) Bc) (Fq (AS Bc (AS Bc (AS Bc AZ)))) rfl) (Bk (BH (Fq (AS Bs (AS (pv 2) AZ)))))
    Ci)
   (Bk (BH (pv 2))))),?_⟩
  refine Df (λb H'=>∃k:Lk,k.plain/\∃u,TL H' k u/\b=[some (.int n),some (.int m),some u]/\BC H H') ?_ ?_
  ·exact⟨_,rfl,_,_,rfl,rfl,⟨Aa,Aa⟩,n/16,rfl,by omega,by omega,λk a u H' s' d=>⟨k,a,u,d,rfl,s'⟩⟩
  rintro b H1 ⟨k,a,u,d,rfl,s1⟩;refine Df (λb H'=>∃k:Lk,(k.plain\/∃i,k= .form i/\i<m/\(n%16=3\/n%16=9\/n%16=14))/\∃u,TL H' k u/\b=[some (.int n),some (.int m),some u]/\BC H H') ?_ ?_
  ·refine⟨_,rfl,_,_,rfl,rfl,_,rfl,Kg (λhm=>?_) (λhm=>⟨k,.inl a,u,d,rfl,s1⟩)⟩;have g: (m:Int) >0:=A34 hm;refine⟨_,rfl,_,_,rfl,rfl,(by show(0:Int) <16;decide),zl 3,λp f=>⟨p,_,rfl,.inr (Hm.of AX),rfl,rfl,_,rfl,?_⟩⟩;have s2:=s1.trans (BM (u:=.tup [.int 3,.int 9,.int 14]) f);rw[in3];refine Kg (λhi=>?_) (λhi=>⟨k,.inl a,u,d.sm (Sm.of (BM f)),rfl,s2⟩);have j:=A34 hi;have r:=Ey (n/16) g;refine⟨_,rfl,_,_,rfl,rfl,⟨Aa,Aa⟩,_,rfl,_,_,rfl,rfl,g,zl 2,λt o=>⟨.form (n/16%m).toNat,.inr ⟨_,rfl,by omega,j⟩,.ref t,⟨t,rfl,?_⟩,rfl,s2.trans (BM o)⟩⟩;rw[AX,Dj r.1]
  rintro b H2 ⟨k,a,u,d,rfl,s2⟩;refine⟨_,rfl,_,_,rfl,rfl,(by show(0:Int) <16;decide),zl 3,λp f=>⟨p,_,rfl,.inr (Hm.of AX),rfl,rfl,_,rfl,?_⟩⟩;have v:=s2.trans (BM (u:=.tup [.int 5,.int 9,.int 12]) f);have l:=d.sm (Sm.of (BM (u:=.tup [.int 5,.int 9,.int 12]) f));rw[in3];refine Kg (λhi=>?_) (λhi=>?_)
  ·refine⟨_,rfl,zl 2,λt o=>?_⟩;refine q (.list k) ?_ (λi z=>by cases z) _ _ (v.trans (BM o)) ⟨t,u,rfl,AX,l.sm (Sm.of (BM o))⟩;rcases a with a|⟨i,e,hi,_⟩
   ·exact .inl a
   ·exact .inr ⟨i,e,hi⟩
  ·have j:¬ (n%16=5\/n%16=9\/n%16=12):=λz=>hi (A32 z);refine⟨_,rfl,q k ?_ (λi e=>?_) _ _ v l⟩
   ·rcases a with a|⟨i,rfl,hi,_⟩
    ·cases k with
     |form i=>exact a.elim
     |list k=>exact a.elim
     |_=>exact a
    ·exact hi
   ·rcases a with a|⟨B,D,y,h3⟩
    ·rw[e]at a;exact a.elim
    ·omega
def Ep:Lk->Dt
 |.truth=>.bl false
 |.text _=>.str ""
 |.list _=>.lst []
 |.form _=>.non
 |_=>.int 0
def zq(m:Ba):List (Gv×V):=[(.inr "truth",.bl false),(.inr "text",.str ""),(.inr "list",.ref m),(.inr "form",.non)]
def Pz(m:Ba)(z:Bx):V:=(HF (Jv [] (zq m)) (.inr z)).getD (.int 0)
theorem cw(m:Ba):Pz m "truth"= .bl false:=by kernel_rfl
theorem jN(m:Ba):Pz m "text"= .str "":=by kernel_rfl
theorem jO(m:Ba):Pz m "list"= .ref m:=by kernel_rfl
theorem jP(m:Ba):Pz m "form"= .non:=by kernel_rfl
theorem cy(m:Ba):Pz m "count"= .int 0:=by kernel_rfl
theorem cu(m:Ba):Pz m "whole"= .int 0:=by kernel_rfl
theorem jM(m:Ba):Pz m "upto"= .int 0:=by kernel_rfl
theorem T8{H:Hp}{m:Ba}(h:H m=some (.lst []))(k:Lk):Th H (Ep k) (Pz m k.word):=by
 cases k with
 |truth=>exact cw m
 |count=>exact cy m
 |whole=>exact cu m
 |upto n=>exact jM m
 |text n=>exact⟨jN m,Aa⟩
 |form z=>exact jP m
 |list j=>exact⟨m,[],jO m,h,rfl,Aa⟩
def Fz(H:Hp)(v:V):Prop:=∀m,v= .ref m->H m=none
theorem T9{H:Hp}{m:Ba}(h:H m=none)(k:Lk):Fz H (Pz m k.word):=by
 intro a e;cases k with
 |truth=>rw[show Pz m (Lk.truth).word= .bl false from cw m]at e;cases e
 |count=>rw[show Pz m (Lk.count).word= .int 0 from cy m]at e;cases e
 |whole=>rw[show Pz m (Lk.whole).word= .int 0 from cu m]at e;cases e
 |upto n=>rw[show Pz m (Lk.upto n).word= .int 0 from jM m]at e;cases e
 |text n=>rw[show Pz m (Lk.text n).word= .str "" from jN m]at e;cases e
 |form z=>rw[show Pz m (Lk.form z).word= .non from jP m]at e;cases e
 |list j=>rw[show Pz m (Lk.list j).word= .ref m from jO m]at e;cases e;exact h
theorem LB{x:V}{xs:List V}:bo (x::xs) 0=some x:=by
 have h:=EK (xs:=x::xs) (j:=0) (v:=x) rfl;exact h
theorem wc{x y:V}{xs:List V}:bo (x::y::xs) 1=some y:=by
 have h:=EK (xs:=x::y::xs) (j:=1) (v:=y) rfl;exact h
def OJ:Lk->Dt->Prop
 |.truth,d=>d= .bl true
 |.text n,d=>∃z,d= .str z/\Ih z=true/\(z.length:Int)<=n
 |.upto m,d=>∃i,d= .int i/\0<=i/\i<=m
 |.whole,d=>∃i,d= .int i/\ -2147483648<=i/\i<=2147483648
 |.count,d=>∃i,d= .int i/\0<=i/\i<=2147483648
 |_,_=>False
def Uy:Sp:=λvs H Q _=>∃v k,vs=[v]/\TL H k v/\∀u H',BC H H'->Th H' (Ep k) u->Fz H u->Q u H'
def Vq:Sp:=λvs H Q _=>∃v k n,vs=[v,.int n]/\TL H k v/\k.plain/\0<=n/\n<2147483648/\∀d,OJ k d->∀u H',BC H H'->Th H' d u->Q u H'
theorem zd{c:Int}{n:Nat}(h: (n:Int)<=c):NB none (some c) 1 n=NB none (some (n:Int)) 1 n:=by
 unfold NB;have h1:¬c<0:=by omega
 have h2:¬ (n:Int) <0:=by omega
 simp only[h1,h2,if_false];rw[show min c (n:Int)=n by omega,show min (n:Int) n=n by omega];have h3: (1:Int) >0:=by decide
 simp only[h3,if_true]
theorem qw(z:Bx){c:Int}(h:1<=c):sg (EF z none (some c))=(sg z).take c.toNat:=by
 by_cases hc:c<=z.length
 ·rw[show c=((c.toNat:Nat):Int)by omega,Od _ _ (by omega)];rfl
 ·have e:EF z none (some c)=EF z none (some (z.length:Int)):=by
   unfold EF;rw[zd (by omega)]
  rw[e,Od _ _ (Bv _),<-ME,DU,HC (by rw[ME];omega)]
theorem HY{z:Bx}(h:Ih z=true):1<=z.length/\z.length<=12/\(sg z).all (zc cJ)=true:=by
 unfold Ih YC at h;rw[BZ,BZ]at h;exact⟨A34 h.1.1,A34 h.1.2,h.2⟩
theorem uZ{z:Bx}(h:Ih z=true){c:Int}(hc:1<=c):Ih (EF z none (some c))=true/\((EF z none (some c)).length:Int)<=c:=by
 obtain⟨h1,h2,h3⟩:=HY h;have e:=qw z hc;have b: (EF z none (some c)).length=min c.toNat z.length:=by rw[<-ME,e,Bt,ME]
 refine⟨?_,by omega⟩;unfold Ih YC;rw[BZ,BZ];refine⟨⟨A32 (by omega),A32 (by omega)⟩,?_⟩;show(sg (EF z none (some c))).all (zc cJ)=true;rw[e];exact BI.mpr λx a=>BI.mp h3 x (CA a)
theorem bW(T:Tx K mg):Cm P w K mg base DS 1 889 (Br K 889) Ay Uy:=by
 refine T.nH.ok ue (λvs H Q E h=>?_) (λcdv A outer s H vs Q E g h=>?_)
 ·obtain⟨v,k,rfl,_⟩:=h;rfl
 ·obtain⟨v,k,rfl,d,q⟩:=h;have e:=g.units;have a:=Cp (Cy (show 1<=64 by decide) _) e;refine⟨_,Bk (BH (ji a (WB (EG Bs DR (EG Bs Bs (EG Bs (DO AZ) (EG Bs FC Wz)))) rfl rfl Aa Aa) (Dp Ft (pv 0) Bc (λ_ _=>rfl)) Bc ⟨rfl,rfl,rfl,rfl⟩)),?_⟩;obtain⟨t,ys,rfl,f⟩:=d.word;refine λp b=>⟨zl 0,λm hm=>⟨by rw[Bo (λz=>by rw[<-z,AX]at hm;cases hm)];exact AX,zq m,rfl,by show 4<=15;decide,?_⟩⟩;have s4:BC H (upd (upd (upd H p (.dK [])) m (.lst [])) p (.dK (Jv [] (zq m)))):=BC.put ((BM b).trans (BM hm)) b;have c:m≠p:=λz=>by rw[z,AX]at hm;cases hm
  have i: (upd (upd (upd H p (.dK [])) m (.lst [])) p (.dK (Jv [] (zq m)))) m=some (.lst []):=by rw[Bo c];exact AX
  exact⟨p,rfl,.inl ⟨_,.inl AX⟩,_,rfl,t,_,_,_,rfl,rfl,Hm.of (s4 _ _ f),LB,_,Go.k (k:=.inr k.word) AX,q _ _ s4 (T8 i k) (T9 ((BM b).free hm) k)⟩
theorem jt(T:Tx K mg):Cm P w K mg base DS 2 896 (Br K 896) Az Vq:=by
 have d:Cm P w K mg base DS 1 868 (Br K 868) Av XI:=jr T;refine T.bD.ok lK (λvs H Q E h=>?_) (λcdv A outer s H vs Q E G h=>?_)
 ·obtain⟨v,k,n,rfl,_⟩:=h;rfl
 ·obtain⟨v,k,n,rfl,y,u,L,h1,q⟩:=h;refine⟨_,BW (CV (CK Gg (Dp Ft (pv 0) Bc (λ_ _=>rfl)) Bs (Dc _)) (Bk (BH DR))
    Ci)
   (BW (CV (CK Gg (Dp Ft (pv 0) Bc (λ_ _=>rfl)) Bs (Dc _)) (Bk (BH (HG XS (Dp Dz (BX d (G.mono Aa) rfl T.dQ T.Wu T.eE .nil BR (AS (pv 1) (AS Bc AZ))) Bc (λ_ _=>rfl)) Jb (Ja (Dp Ft (pv 0) Bc (λ_ _=>rfl))))))
    Ci)
   (BW (CV (CK Gg (Dp Ft (pv 0) Bc (λ_ _=>rfl)) Bs (Dc _)) (Bk (BH (Dp Dz (DO (AS Bc (AS (Dp Ft (pv 0) Bc (λ_ _=>rfl)) (AS (BO Dl (pv 1) (BO Eb (Dp Ft (pv 0) Bc (λ_ _=>rfl)) Bc)) AZ)))) (BO Dl (BO DT (pv 1) Bc) Bc) (λ_ _=>rfl))))
    Ci)
   (BW (CV (CK Gg (Dp Ft (pv 0) Bc (λ_ _=>rfl)) Bs (Dc _)) (Bk (BH (Dp Dz (DO (AS (Yq Rc Bc) (AS Bc (AS (pv 1) (AS (BO fM Bc (pv 1)) AZ))))) (BO Dl (BO DT (pv 1) Bc) Bc) (λ_ _=>rfl))))
    Ci)
   (Bk (BH (Dp Dz (DO (AS Bc (AS Bc (AS Bc (AS (pv 1) AZ))))) (BO Dl (BO DT (pv 1) Bc) Bc) (λ_ _=>rfl))))))),?_⟩
  obtain⟨t,ys,rfl,e⟩:=y.word;refine⟨_,rfl,t,_,_,_,rfl,rfl,Hm.of e,LB,rfl,_,rfl,?_⟩;cases k with
  |form i=>exact u.elim
  |list k=>exact u.elim
  |truth=>exact Wn rfl (q _ rfl _ H (BC.refl _) rfl)
  |text c=>
   obtain⟨t',B,f⟩:=y;obtain rfl:t=t':=V.ref.inj B;refine Ia (show ¬V.str "text"=V.str "truth" by decide+kernel) ⟨_,rfl,t,_,_,_,rfl,rfl,Hm.of e,LB,rfl,_,rfl,Wn rfl ?_⟩;refine⟨_,rfl,n,1,rfl,L,h1,Aa,λzs F hok l H2 N s2 M=>?_⟩
   match zs,F with
   |[z],_=>
    have g:=(hok.ok z (Bu.mpr rfl)).1;have r:=(HY g).2.1;obtain⟨D,C⟩:=uZ g u.1;refine⟨l,_,_,_,rfl,rfl,Dk.of M,LB,_,rfl,t,_,_,_,rfl,rfl,Hm.of (s2 _ _ f),wc,_,rfl,z,rfl,BF r Aa,?_⟩;refine q _ ⟨_,rfl,D,C⟩ _ _ s2 ⟨rfl,?_⟩;exact BF (Txt.slice_le _ _ _) (BF r Aa)
  |upto m=>
   obtain⟨t',B,f⟩:=y;obtain rfl:t=t':=V.ref.inj B;refine Ia (show ¬V.str "upto"=V.str "truth" by decide+kernel) ⟨_,rfl,t,_,_,_,rfl,rfl,Hm.of e,LB,rfl,_,rfl,Ia (show ¬V.str "upto"=V.str "text" by decide+kernel) ⟨_,rfl,t,_,_,_,rfl,rfl,Hm.of e,LB,rfl,_,rfl,Wn rfl ?_⟩⟩;have J:1<=m:=u.1;have I:=Ey n (b:=m+1) (by omega);refine⟨_,rfl,t,_,_,_,rfl,rfl,Hm.of f,wc,_,rfl,_,rfl,t,_,_,_,rfl,rfl,Hm.of f,wc,_,_,rfl,rfl,_,_,rfl,rfl,(by show(0:Int) <m+1;omega),zl 3,λp o=>?_⟩;obtain⟨x,j,a⟩:=OH (xs:=([1,m,n% (m+1)]:List Int).map V.int) (i:=n/7%3) (by omega) (by rw[AV];show n/7%3<3;omega);obtain⟨i,rfl,hi⟩:=Ma (P:=λi=>0<=i/\i<=m) (by
    intro i hi;simp only[BK,Cq,or_false]at hi;rcases hi with rfl|rfl|rfl <;> omega) a
   exact⟨_,rfl,_,_,rfl,rfl,⟨Aa,Aa⟩,_,_,rfl,rfl,(by show(0:Int) <3;decide),p,_,_,_,rfl,rfl,Dk.of AX,j,q _ ⟨i,rfl,hi⟩ _ _ (BM o) rfl⟩
  |whole=>
   refine Ia Ab ⟨_,rfl,t,_,_,_,rfl,rfl,Hm.of e,LB,rfl,_,rfl,Ia Ab ⟨_,rfl,t,_,_,_,rfl,rfl,Hm.of e,LB,rfl,_,rfl,Ia Ab ⟨_,rfl,t,_,_,_,rfl,rfl,Hm.of e,LB,rfl,_,rfl,Wn rfl ?_⟩⟩⟩;refine⟨_,rfl,_,rfl,_,rfl,_,_,rfl,rfl,zl 4,λp o=>?_⟩;obtain⟨x,j,a⟩:=OH (xs:=([-1,1,n,0 - n]:List Int).map V.int) (i:=n/7%4) (by omega) (by rw[AV];show n/7%4<4;omega);obtain⟨i,rfl,hi⟩:=Ma (P:=λi=>-2147483648<=i/\i<=2147483648) (by
    intro i hi;simp only[BK,Cq,or_false]at hi;rcases hi with rfl|rfl|rfl|rfl <;> omega) a
   exact⟨_,rfl,_,_,rfl,rfl,⟨Aa,Aa⟩,_,_,rfl,rfl,(by show(0:Int) <4;decide),p,_,_,_,rfl,rfl,Dk.of AX,j,q _ ⟨i,rfl,hi⟩ _ _ (BM o) rfl⟩
  |count=>
   refine Ia Ab ⟨_,rfl,t,_,_,_,rfl,rfl,Hm.of e,LB,rfl,_,rfl,Ia Ab ⟨_,rfl,t,_,_,_,rfl,rfl,Hm.of e,LB,rfl,_,rfl,Ia Ab ⟨_,rfl,t,_,_,_,rfl,rfl,Hm.of e,LB,rfl,_,rfl,Ia Ab ?_⟩⟩⟩;refine⟨_,rfl,zl 4,λp o=>?_⟩;obtain⟨x,j,a⟩:=OH (xs:=([1,127,128,n]:List Int).map V.int) (i:=n/7%4) (by omega) (by rw[AV];show n/7%4<4;omega);obtain⟨i,rfl,hi⟩:=Ma (P:=λi=>0<=i/\i<=2147483648) (by
    intro i hi;simp only[BK,Cq,or_false]at hi;rcases hi with rfl|rfl|rfl|rfl <;> omega) a
   exact⟨_,rfl,_,_,rfl,rfl,⟨Aa,Aa⟩,_,_,rfl,rfl,(by show(0:Int) <4;decide),p,_,_,_,rfl,rfl,Dk.of AX,j,q _ ⟨i,rfl,hi⟩ _ _ (BM o) rfl⟩
structure SF where
 num:Int
 nam:Bx
 kind:Lk
 must:Bool
 dfl:Dt
def bM(f:SF)(a b:V):List (Gv×V):=[(.inr "number",.int f.num),(.inr "name",.str f.nam),(.inr "kind",a),(.inr "must",.bl f.must),(.inr "default",b)]
def UR(H:Hp)(f:SF)(v:V):Prop:=∃a b c,v= .ref a/\H a=some (.dK (bM f b c))/\TL H f.kind b/\Th H f.dfl c
def wn(d H:Hp)(f:SF)(v:V):Prop:=∃a c b,v= .ref a/\H a=some (.dK (bM f c b))/\TL H f.kind c/\Th H f.dfl b/\Fz d b
theorem UR.sm{H H':Hp}(s:Sm H H'){f:SF}{v:V}:UR H f v->UR H' f v
 |⟨a,b,c,e,h,h1,h2⟩=>⟨a,b,c,e,s _ _ h rfl,h1.sm s,Th.sm s _ _ h2⟩
theorem qA(f:SF)(a b:V):HF (bM f a b) (.inr "number")=some (.int f.num):=by kernel_rfl
theorem yh(f:SF)(a b:V):HF (bM f a b) (.inr "name")=some (.str f.nam):=by kernel_rfl
theorem yj(f:SF)(a b:V):HF (bM f a b) (.inr "kind")=some a:=by kernel_rfl
theorem yi(f:SF)(a b:V):HF (bM f a b) (.inr "must")=some (.bl f.must):=by kernel_rfl
theorem lE(f:SF)(b a:V):HF (bM f b a) (.inr "default")=some a:=by kernel_rfl
structure wk(m:Nat)(W:List Int)(c:Bool)(f:SF):Prop where
 kind:f.kind.ok m
 must:c=true->f.must=false
 light:∀i,f.kind= .form i->f.must=true->W.getD i 0<=8
 dfl:f.dfl=Ep f.kind\/(f.must=false/\c=false/\OJ f.kind f.dfl)
def FD(W:List Int):Lk->Int
 |.form i=>W.getD i 0
 |_=>1
def IW(W:List Int)(c:Bool)(fs:List SF):Int:=if c then 1+Rm (fs.map λf=>FD W f.kind)else 1+ ((fs.filter (·.must)).map λf=>FD W f.kind).sum
def WBd(W:List Int):Prop:=∀x∈W,0<=x/\x<=1000
theorem yV{W:List Int}(h:WBd W){m:Nat}(hm:W.length=m){k:Lk}(a:k.ok m):0<=FD W k/\FD W k<=1000:=by
 cases k with
 |form i=>
  have hi:i<W.length:=by rw[hm];exact a
  show 0<=W.getD i 0/\W.getD i 0<=1000;rw[BD,AW hi];exact h _ (OU hi)
 |_=>exact uH
def iP:Sp:=λvs H Q _=>∃(n mark:Int) (nm:Bx) (m:Nat) (wl:Ba) (W:List Int) (c:Bool),vs=[.int n,.int mark,.str nm,.int m,.ref wl,.bl c]/\H wl=some (.lst (W.map V.int))/\W.length=m/\0<=n/\n<2147483648/\∀f,f.num=mark->f.nam=nm->wk m W c f->(∀i,f.kind= .form i->n%16=3\/n%16=14)->∀u H',BC H H'->wn H H' f u->Q u H'
def nX:Sp:=λvs H Q _=>∃v k wl W,vs=[v,.ref wl]/\TL H k v/\H wl=some (.lst (List.map V.int W))/\k.ok W.length/\Q (.int (FD W k)) H
theorem A0A(k:Lk):L2.kr (.str k.word) [.str "list",.str "form"]=(match k with|.list _=>true|.form _=>true|_=>false):=by
 cases k with
 |truth=>exact(by decide+kernel:L2.kr (.str "truth") [.str "list",.str "form"]=false)
 |count=>exact(by decide+kernel:L2.kr (.str "count") [.str "list",.str "form"]=false)
 |whole=>exact(by decide+kernel:L2.kr (.str "whole") [.str "list",.str "form"]=false)
 |upto n=>exact(by decide+kernel:L2.kr (.str "upto") [.str "list",.str "form"]=false)
 |text n=>exact(by decide+kernel:L2.kr (.str "text") [.str "list",.str "form"]=false)
 |form z=>exact(by decide+kernel:L2.kr (.str "form") [.str "list",.str "form"]=true)
 |list j=>exact(by decide+kernel:L2.kr (.str "list") [.str "list",.str "form"]=true)
theorem tK{k:Lk}:decide (V.str k.word=V.str "form")=(match k with|.form _=>true|_=>false):=by
 cases k with
 |truth=>exact(by decide+kernel:decide (V.str "truth"=V.str "form")=false)
 |count=>exact(by decide+kernel:decide (V.str "count"=V.str "form")=false)
 |whole=>exact(by decide+kernel:decide (V.str "whole"=V.str "form")=false)
 |upto n=>exact(by decide+kernel:decide (V.str "upto"=V.str "form")=false)
 |text n=>exact(by decide+kernel:decide (V.str "text"=V.str "form")=false)
 |form z=>exact(by decide+kernel:decide (V.str "form"=V.str "form")=true)
 |list j=>exact(by decide+kernel:decide (V.str "list"=V.str "form")=false)
theorem zj: [V.str "list",.str "form"].all OD=true:=by decide+kernel
def Z7(a b c d:V):List (Gv×V):=[(.inr "number",a),(.inr "name",b),(.inr "kind",c),(.inr "must",d)]
theorem Q7(a b c d:V):Jv [] (Z7 a b c d)=Z7 a b c d:=by kernel_rfl
theorem A1R(f:SF)(a b:V):Jp (Z7 (.int f.num) (.str f.nam) a (.bl f.must)) (.inr "default") b=bM f a b:=by kernel_rfl
theorem A02(f a:SF)(b d c:V)(h1:a.num=f.num)(h2:a.nam=f.nam)(h3:a.must=f.must):Jp (bM f b d) (.inr "default") c=bM a b c:=by
 unfold bM;rw[h1,h2,h3];kernel_rfl
theorem kl{H:Hp}{k:Lk}{u:V}{p:Ba}{kvs:List (Gv×V)}{o:HO}(c:H p=some (.dK kvs))(h:Th H (Ep k) u):Th (upd H p o) (Ep k) u:=by
 cases k with
 |list k=>
  obtain⟨a,xs,rfl,ha,b,d⟩:=h;refine⟨a,xs,rfl,?_,b,d⟩;rw[Bo]
  ·exact ha
  ·rintro rfl;rw[c]at ha;cases ha
 |_=>exact h
theorem mR{H:Hp}{p:Ba}{kvs:List (Gv×V)}{o:HO}(q:H p=some (.dK kvs)):∀{k:Lk} {u:V},TL H k u->TL (upd H p o) k u:=by
 have ne:∀{a:Ba} {xs:List V},H a=some (.tup xs)->upd H p o a=some (.tup xs):=λe=>by
  rw[Bo]
  ·exact e
  ·rintro rfl;rw[q]at e;cases e
 intro k;induction k with
 |truth=>exact λl=>(by obtain⟨a,e,h⟩:=l;exact⟨a,e,ne h⟩)
 |count=>exact λi=>(by obtain⟨a,e,h⟩:=i;exact⟨a,e,ne h⟩)
 |whole=>exact λg=>(by obtain⟨a,e,h⟩:=g;exact⟨a,e,ne h⟩)
 |upto n=>exact λf=>(by obtain⟨a,e,h⟩:=f;exact⟨a,e,ne h⟩)
 |text n=>exact λd=>(by obtain⟨a,e,h⟩:=d;exact⟨a,e,ne h⟩)
 |form n=>exact λc=>(by obtain⟨a,e,h⟩:=c;exact⟨a,e,ne h⟩)
 |list k m=>exact λb=>(by obtain⟨a,u,e,h,j⟩:=b;exact⟨a,u,e,ne h,m j⟩)
theorem wj{H H':Hp}{k:Lk}{d:Dt}{u:V}(hd:OJ k d)(h:Th H d u):Th H' d u:=by
 cases k with
 |truth=>rw[show d= .bl true from hd]at h ⊢;exact h
 |text n=>obtain⟨z,rfl,_⟩:=hd;exact h
 |upto m=>obtain⟨i,rfl,_⟩:=hd;exact h
 |whole=>obtain⟨i,rfl,_⟩:=hd;exact h
 |count=>obtain⟨i,rfl,_⟩:=hd;exact h
 |form i=>exact hd.elim
 |list k=>exact hd.elim
theorem A0r{H a:Hp}{k:Lk}{d:Dt}{u:V}(hd:OJ k d)(h:Th H d u):Fz a u:=by
 intro m e;subst e;cases k with
 |truth=>rw[show d= .bl true from hd]at h;cases h
 |text n=>obtain⟨z,rfl,_⟩:=hd;cases h.1
 |upto m=>obtain⟨i,rfl,_⟩:=hd;cases h
 |whole=>obtain⟨i,rfl,_⟩:=hd;cases h
 |count=>obtain⟨i,rfl,_⟩:=hd;cases h
 |form i=>exact hd.elim
 |list k=>exact hd.elim
theorem jp{m:Nat}{k:Lk}(h:k.ok m)(h1:∀j,k≠ .list j)(h2:∀i,k≠ .form i):k.plain:=by
 cases k with
 |list j=>exact A38 rfl (h1 j)
 |form i=>exact A38 rfl (h2 i)
 |_=>exact h
theorem yE(T:Tx K mg):Cm P w K mg base DS 1 910 (Br K 910) AB nX:=by
 refine T.sY.ok yl (λvs H Q E h=>?_) (λcdv A outer s H vs Q E g h=>?_)
 ·obtain⟨v,k,wl,W,rfl,_⟩:=h;rfl
 ·obtain⟨v,k,wl,W,rfl,b,hw,d,q⟩:=h;refine⟨_,Bk (BH (KL (CK Gg (Dp Ft (pv 0) Bc (λ_ _=>rfl)) Bs (Dc _)) (Dp Dz (pv 1) (Dp Ft (pv 0) Bc (λ_ _=>rfl)) (λ_ _=>rfl)) Bc)),?_⟩;obtain⟨t,ys,rfl,c⟩:=b.word;refine⟨_,rfl,t,_,_,_,rfl,rfl,Hm.of c,LB,rfl,_,rfl,?_⟩;rw[tK];cases k with
  |form i=>
   obtain⟨t',f,a⟩:=b;obtain rfl:t=t':=V.ref.inj f;have hi:i<W.length:=d;refine Er ⟨_,rfl,_,rfl,t,_,_,_,rfl,rfl,Hm.of a,wc,wl,_,_,_,rfl,rfl,Dk.of hw,EK (j:=i) (by rw[Bj,AW hi];rfl),?_⟩;have e:FD W (.form i)=W[i]'hi:=by show W.getD i 0=_;rw[BD,AW hi];rfl
   rw[e]at q;exact q
  |_=>exact Dr q
theorem uS(T:Tx K mg):Cm P w K mg base DS 4 903 (Br K 903) AA iP:=by
 have C:Cm P w K mg base DS 2 882 (Br K 882) Ax iL:=uN T;have x:Cm P w K mg base DS 1 889 (Br K 889) Ay Uy:=bW T;have o:Cm P w K mg base DS 2 896 (Br K 896) Az Vq:=jt T;refine T.nG.ok Og (λvs H Q E h=>?_) (λcdv A outer s H vs Q E X h=>?_)
 ·obtain⟨n,mark,nm,m,wl,W,c,rfl,_⟩:=h;rfl
 ·obtain⟨n,mark,nm,m,wl,W,c,rfl,hw,Z,h0,h1,q⟩:=h;have hu:=X.units;have L:=Cp (Cy (show 1<=64 by decide) _) hu;refine⟨_,BE (Ct (i:=6) Og.nd rfl (BP rfl) (BX C (X.mono Aa) rfl T.F7 T.sM T.K4 .nil BR (AS (pv 0) (AS (pv 3) AZ)))) (BE (Ct (i:=7) Og.nd rfl (BP rfl) (JR (uz (pv 5)) (JQ (GH Gg (BO Dl (BO DT (pv 0) Bc) Bc) Bc (Dc _))))) (BE (CV (PW.pt (Op (CK Gg (Dp Ft (pv 6) Bc (λ_ _=>rfl)) Bs (Dc _)) (Pj (CZ (pv 7))))) (Bk (Ct (i:=7) Og.nd rfl (BP rfl) (GH bT (Dp Dz (pv 4) (Dp Ft (pv 6) Bc (λ_ _=>rfl)) (λ_ _=>rfl)) Bc (Dc _))))
    Ci)
   (BE (Ct (i:=8) Og.nd rfl (BP rfl) (WB (EG Bs (pv 1) (EG Bs (pv 2) (EG Bs (pv 6) (EG Bs (pv 7) Wz)))) rfl rfl Aa Aa))
   (BE (Pk L (pv 8) Bs (BX x (X.mono Aa) rfl T.nh T.dW T.nM .nil BR (AS (pv 6) AZ)) rfl)
   (BE (CV (PW.pt (Op (CK Tj (Dp Ft (pv 6) Bc (λ_ _=>rfl)) (Fq (AS Bs (AS Bs AZ))) rfl) (Op (Fh (CZ (pv 7))) (Op (Fh (CZ (pv 5))) (Pj (CK Gg (BO Dl (BO DT (pv 0) Bc) Bc) Bc (Dc _))))))) (Bk (Pk L (pv 8) Bs (BX o (X.mono Aa) rfl T.qd T.bz T.qh .nil BR (AS (pv 6) (AS (BO DT (pv 0) Bc) AZ))) rfl))
    Ci)
   (Bk (BH (pv 8)))))))),?_⟩
  refine Df (λa H'=>∃(k:Lk) (g:V),k.ok m/\(∀i,k= .form i->n%16=3\/n%16=14)/\TL H' k g/\BC H H'/\a=[some (.int n),some (.int mark),some (.str nm),some (.int m),some (.ref wl),some (.bl c),some g,none,none]) ?_ ?_
  ·exact⟨_,rfl,_,rfl,n,m,rfl,h0,h1,λk N hf u H' s' S=>⟨k,u,N,hf,S,s',rfl⟩⟩
  rintro a H1 ⟨k,g,N,hf,S,s1,rfl⟩;refine Df (λa H'=>∃b:Bool,(c=true->b=false)/\H1=H'/\a=[some (.int n),some (.int mark),some (.str nm),some (.int m),some (.ref wl),some (.bl c),some g,some (.bl b),none]) ?_ ?_
  ·refine⟨_,rfl,_,rfl,_,rfl,?_⟩;cases c with
   |true=>exact Dr ⟨false,λ_=>rfl,rfl,rfl⟩
   |false=>exact Er ⟨_,rfl,_,_,rfl,rfl,⟨Aa,Aa⟩,_,_,rfl,rfl,(by show(0:Int) <4;decide),rfl,⟨_,λz=>(by cases z),rfl,rfl⟩⟩
  rintro a b6 ⟨b0,O,rfl,rfl⟩;refine Df (λa H'=>∃b:Bool,(c=true->b=false)/\(∀i,k= .form i->b=true->W.getD i 0<=8)/\H1=H'/\a=[some (.int n),some (.int mark),some (.str nm),some (.int m),some (.ref wl),some (.bl c),some g,some (.bl b),none]) ?_ ?_
  ·obtain⟨t,ys,rfl,ht⟩:=S.word;refine⟨_,rfl,t,_,_,_,rfl,rfl,Hm.of ht,LB,rfl,_,rfl,?_⟩;rw[tK];cases k with
   |form i=>
    obtain⟨t',e',a1⟩:=S;obtain rfl:t=t':=V.ref.inj e';refine Er ⟨_,rfl,_,rfl,?_⟩;cases b0 with
    |false=>exact Dr ⟨false,λ_=>rfl,(λ_ _ z=>by cases z),rfl,rfl⟩
    |true=>
     have hi:i<W.length:=by rw[Z];exact N
     refine Er ⟨_,rfl,_,rfl,t,_,_,_,rfl,rfl,Hm.of a1,wc,wl,_,_,_,rfl,rfl,Dk.of (s1 _ _ hw),EK (j:=i) (by rw[Bj,AW hi];rfl),_,_,rfl,rfl,?_⟩;refine⟨_,λhc=>A38 (O hc) Aa,λj ej hb=>?_,rfl,rfl⟩;cases ej;rw[BD,AW hi];exact A34 hb
   |_=>exact Dr ⟨b0,O,(λ_ z=>by cases z),rfl,rfl⟩
  rintro a b6 ⟨b,hb,a6,rfl,rfl⟩;refine Df (λa H'=>∃p,H p=none/\TL H' k g/\BC H H'/\H' p=some (.dK (Z7 (.int mark) (.str nm) g (.bl b)))/\a=[some (.int n),some (.int mark),some (.str nm),some (.int m),some (.ref wl),some (.bl c),some g,some (.bl b),some (.ref p)]) ?_ ?_
  ·refine λp I=>⟨_,rfl,_,rfl,_,rfl,_,rfl,AX,Z7 (.int mark) (.str nm) g (.bl b),rfl,by show 4<=15;decide,p,?_,?_,?_,?_,rfl⟩
   ·exact s1.free I
   ·rw[Fo];exact S.sm (Sm.of (BM I))
   ·rw[Fo];exact s1.trans (BM I)
   ·rw[AX,Q7]
  rintro a H2 ⟨p,M,R,s2,I,rfl⟩;refine Df (λa H'=>∃l,TL H' k g/\Th H' (Ep k) l/\Fz H l/\BC H H'/\H' p=some (.dK (bM ⟨mark,nm,k,b,Ep k⟩ g l))/\a=[some (.int n),some (.int mark),some (.str nm),some (.int m),some (.ref wl),some (.bl c),some g,some (.bl b),some (.ref p)]) ?_ ?_
  ·refine⟨_,rfl,g,k,rfl,R,λu H3 D a0 F=>⟨_,rfl,p,_,rfl,bp.k (k:=.inr "default") (D _ _ I) (by show 4<sizeLine;decide),u,?_,?_,(λm e=>s2.free (F m e)),?_,?_,rfl⟩⟩
   ·exact mR (D _ _ I) (R.sm (Sm.of D))
   ·exact kl (D _ _ I) a0
   ·exact(s2.trans D).put M
   ·rw[AX,<-A1R ⟨mark,nm,k,b,Ep k⟩ g u]
  rintro a H3 ⟨l,B,a9,F,D,G,rfl⟩;refine Df (λa H'=>∃f l,f.num=mark/\f.nam=nm/\f.kind=k/\f.must=b/\(f.dfl=Ep k\/(b=false/\c=false/\OJ k f.dfl))/\TL H' k g/\Th H' f.dfl l/\Fz H l/\BC H H'/\H' p=some (.dK (bM f g l))/\a=[some (.int n),some (.int mark),some (.str nm),some (.int m),some (.ref wl),some (.bl c),some g,some (.bl b),some (.ref p)]) ?_ ?_
  ·have keep:∀H',BC H3 H'->∃f l,f.num=mark/\f.nam=nm/\f.kind=k/\f.must=b/\(f.dfl=Ep k\/(b=false/\c=false/\OJ k f.dfl))/\TL H' k g/\Th H' f.dfl l/\Fz H l/\BC H H'/\H' p=some (.dK (bM f g l))/\[some (V.int n),some (.int mark),some (.str nm),some (.int m),some (.ref wl),some (.bl c),some g,some (.bl b),some (.ref p)]=[some (.int n),some (.int mark),some (.str nm),some (.int m),some (.ref wl),some (.bl c),some g,some (.bl b),some (.ref p)]:=λH' s'=>⟨⟨mark,nm,k,b,Ep k⟩,l,rfl,rfl,rfl,rfl,.inl rfl,B.sm (Sm.of s'),Th.sm (Sm.of s') _ _ a9,F,D.trans s',s' _ _ G,rfl⟩;obtain⟨t,ys,rfl,ht⟩:=B.word;refine⟨_,rfl,t,_,_,_,rfl,rfl,Hm.of ht,LB,zl 2,λr a3=>⟨r,_,rfl,.inr (Hm.of AX),rfl,zj,_,rfl,?_⟩⟩;have s4:=BM (H:=H3) (u:=.tup [.str "list",.str "form"]) a3;rw[A0A];by_cases v: (∃j,k= .list j)\/∃i,k= .form i
   ·rcases v with⟨j,rfl⟩|⟨i,rfl⟩
    ·exact Dr (keep _ s4)
    ·exact Dr (keep _ s4)
   ·have a4:=jp N (λj e=>v (.inl ⟨j,e⟩)) (λi e=>v (.inr ⟨i,e⟩));have e1: (match k with|.list _=>true|.form _=>true|_=>false)=false:=by
     cases k with
     |list j=>exact A38 (.inl ⟨j,rfl⟩) v
     |form i=>exact A38 (.inr ⟨i,rfl⟩) v
     |_=>rfl
    rw[e1];refine Er ⟨_,rfl,_,rfl,?_⟩;cases b with
    |true=>exact Dr (keep _ s4)
    |false=>
     refine Er ⟨_,rfl,_,rfl,?_⟩;cases c with
     |true=>exact Dr (keep _ s4)
     |false=>
      refine Er ⟨_,rfl,_,_,rfl,rfl,⟨Aa,Aa⟩,_,_,rfl,rfl,(by show(0:Int) <3;decide),rfl,_,rfl,Kg (λ_=>?_) (λ_=>keep _ s4)⟩;refine⟨_,rfl,_,rfl,_,_,rfl,rfl,⟨Aa,Aa⟩,_,k,n/5,rfl,B.sm (Sm.of s4),a4,by omega,by omega,λd hd u H5 s5 J=>?_⟩;have y:=s4.trans s5;refine⟨_,rfl,p,_,rfl,bp.k (k:=.inr "default") (y _ _ G) (by show 5<sizeLine;decide),⟨mark,nm,k,false,d⟩,u,rfl,rfl,rfl,rfl,.inr ⟨rfl,rfl,hd⟩,mR (y _ _ G) (B.sm (Sm.of y)),wj hd J,A0r hd J,(D.trans y).put M,?_,rfl⟩;rw[AX,A02 ⟨mark,nm,k,false,Ep k⟩ ⟨mark,nm,k,false,d⟩ _ l u rfl rfl rfl]
  rintro a H4 ⟨f,l,e1,e2,U,e4,hd,b2,a8,Y,s4,a5,rfl⟩;refine⟨_,rfl,q f e1 e2 ⟨by rw[U];exact N,λhc=>by rw[e4];exact hb hc,λi e hm=>a6 i (by rw[<-U];exact e) (by rw[<-e4];exact hm),by rw[U,e4];exact hd⟩ (λi e=>hf i (by rw[<-U];exact e)) _ _ s4 ⟨p,g,l,rfl,a5,by rw[U];exact b2,a8,Y⟩⟩
structure SG where
 nam:Bx
 choice:Bool
 gone:List Int
 fields:List SF
def iS(g:SG)(gl fl:Ba):List (Gv×V):=[(.inr "name",.str g.nam),(.inr "choice",.bl g.choice),(.inr "gone",.ref gl),(.inr "fields",.ref fl)]
def Mf(H:Hp)(g:SG)(v:V):Prop:=∃a gl fl xs,v= .ref a/\H a=some (.dK (iS g gl fl))/\H gl=some (.lst (g.gone.map V.int))/\H fl=some (.lst xs)/\Paired (UR H) g.fields xs
theorem Mf.sm{H H':Hp}(s:Sm H H'){g:SG}{v:V}:Mf H g v->Mf H' g v
 |⟨a,gl,fl,xs,e,h,h1,h2,h3⟩=>⟨a,gl,fl,xs,e,s _ _ h rfl,s _ _ h1 rfl,s _ _ h2 rfl,L2.Paired.imp' (λ_ _ z=>z.sm s) h3⟩
theorem ye(g:SG)(gl fl:Ba):HF (iS g gl fl) (.inr "name")=some (.str g.nam):=by kernel_rfl
theorem qy(g:SG)(gl fl:Ba):HF (iS g gl fl) (.inr "choice")=some (.bl g.choice):=by kernel_rfl
theorem yg(g:SG)(gl fl:Ba):HF (iS g gl fl) (.inr "gone")=some (.ref gl):=by kernel_rfl
theorem qx(g:SG)(gl fl:Ba):HF (iS g gl fl) (.inr "fields")=some (.ref fl):=by kernel_rfl
section
variable{H:Hp}{p:Ba}
theorem Hk{f:SF}{a b:V}(h:H p=some (.dK (bM f a b))):Go H p (.str "number") (some (.int f.num)):=by
 have:=Go.k (k:=.inr "number") h;rw[qA]at this;exact this
theorem Ln{f:SF}{a b:V}(h:H p=some (.dK (bM f a b))):Go H p (.str "name") (some (.str f.nam)):=by
 have:=Go.k (k:=.inr "name") h;rw[yh]at this;exact this
theorem Lo{f:SF}{a b:V}(h:H p=some (.dK (bM f a b))):Go H p (.str "kind") (some a):=by
 have:=Go.k (k:=.inr "kind") h;rw[yj]at this;exact this
theorem VC{f:SF}{a b:V}(h:H p=some (.dK (bM f a b))):Go H p (.str "must") (some (.bl f.must)):=by
 have:=Go.k (k:=.inr "must") h;rw[yi]at this;exact this
theorem OC{f:SF}{b a:V}(h:H p=some (.dK (bM f b a))):Go H p (.str "default") (some a):=by
 have:=Go.k (k:=.inr "default") h;rw[lE]at this;exact this
theorem GC{g:SG}{gl fl:Ba}(h:H p=some (.dK (iS g gl fl))):Go H p (.str "name") (some (.str g.nam)):=by
 have:=Go.k (k:=.inr "name") h;rw[ye]at this;exact this
theorem Ir{g:SG}{gl fl:Ba}(h:H p=some (.dK (iS g gl fl))):Go H p (.str "choice") (some (.bl g.choice)):=by
 have:=Go.k (k:=.inr "choice") h;rw[qy]at this;exact this
theorem OB{g:SG}{gl fl:Ba}(h:H p=some (.dK (iS g gl fl))):Go H p (.str "gone") (some (.ref gl)):=by
 have:=Go.k (k:=.inr "gone") h;rw[yg]at this;exact this
theorem Gc{g:SG}{gl fl:Ba}(h:H p=some (.dK (iS g gl fl))):Go H p (.str "fields") (some (.ref fl)):=by
 have:=Go.k (k:=.inr "fields") h;rw[qx]at this;exact this
end
def XJ:Sp:=λvs H Q _=>∃v g wl W,vs=[v,.ref wl]/\Mf H g v/\H wl=some (.lst (List.map V.int W))/\WBd W/\(∀f∈g.fields,f.kind.ok W.length)/\g.fields.length<40/\(g.choice=true->g.fields≠[])/\∀H',BC H H'->Q (.int (IW W g.choice g.fields)) H'
theorem A0f: ((AO:List Bx) ++ (["_law_weights"]:List Bx)).Nodup:=by decide+kernel
theorem ma(T:Tx K mg):Cm P w K mg base DS 2 915 (Br K 915) AC XJ:=by
 have c:Cm P w K mg base DS 1 910 (Br K 910) AB nX:=yE T;refine T.Xq.ok iU (λvs H Q E h=>?_) (λcdv A outer s H vs Q E F h=>?_)
 ·obtain⟨v,g,wl,W,rfl,_⟩:=h;rfl
 ·obtain⟨v,g,wl,W,rfl,⟨a,gl,fl,xs,rfl,ha,hgl,n,U⟩,hw,hW,S,Z,G,q⟩:=h;have hu:=F.units;have k:=Cp (Cy (show 1<=64 by decide) _) hu;refine⟨_,BW (CV (CZ (CT k (pv 0) Bs (λ_ _=>rfl))) (Bk (BH (BO Eb Bc (BJ (JB rfl) rfl T.mX gd (AS (DY (ts:=AO) (xs:=["_law_weights"]) (js:=[1]) rfl ⟨rfl,rfl,Ab,Ab,DZ rfl⟩ (.cons rfl (.inl rfl) rfl .nil) Ab (Ez (CT k (pv 0) Bs (λ_ _=>rfl))) (λC s_ H_ fp=>CN (X:=Ee _ _ _ C s_ H_ fp) (i:=0) A0f rfl (BP rfl) (Di rfl)) (λC s_ H_ fp=>DB (X:=Ee _ _ _ C s_ H_ fp)) (λC s_ H_ fp=>BX (X:=Ee _ _ _ C s_ H_ fp) c (F.mono Aa) rfl T.sJ T.kL T.tE .nil BR (AS (CT k (pv 0) Bs (λ_ _=>rfl)) (AS (pv 1) AZ)))) AZ)))))
    Ci)
   (Bk (BH (BO Eb Bc (BJ (QF rfl) rfl T.zF vO (AS (DY (ts:=AO) (xs:=["_law_weights"]) (js:=[1]) rfl ⟨rfl,rfl,Ab,Ab,DZ rfl⟩ (.cons rfl (.inl rfl) rfl .nil) Ab (Ez (CT k (pv 0) Bs (λ_ _=>rfl))) (λC s_ H_ fp=>CN (X:=Ee _ _ _ C s_ H_ fp) (i:=0) A0f rfl (BP rfl) (Di rfl)) (λC s_ H_ fp=>fH (X:=Ee _ _ _ C s_ H_ fp) (CZ (CT k (pv 0) Bs (λ_ _=>rfl)))) (λC s_ H_ fp=>BX (X:=Ee _ _ _ C s_ H_ fp) c (F.mono Aa) rfl T.sJ T.kL T.tE .nil BR (AS (CT k (pv 0) Bs (λ_ _=>rfl)) (AS (pv 1) AZ)))) AZ))))),?_⟩
  obtain⟨nam,choice,gone,fields⟩:=g;have o:fields.length=xs.length:=U.length;have Y:fields.length<40:=Z;have one:∀(j:Nat) (y:V) (H2:Hp),BC H H2->xs[j]?=some y->∃f,fields[j]?=some f/\UR H2 f y/\f.kind.ok W.length:=λj y H2 s2 t=>by
   obtain⟨f,m,B⟩:=Gf U j y t;exact⟨f,m,B.sm (Sm.of s2),S f (Bp m)⟩
  refine⟨_,rfl,a,_,rfl,Ir ha,_,rfl,?_⟩;cases choice with
  |true=>
   refine Er ⟨_,rfl,a,_,rfl,Gc ha,fl,rfl,⟨_,Dk.of n⟩,Du (Wk.list (Dk.of n)) (by omega) (λj=>.int (match fields[j]? with|some f=>FD W f.kind|none=>0)) (λj y t H2 R s2 L=>?_) (λD H2 hD s2 O=>?_)⟩
   ·obtain⟨f,m,⟨b,z,dv,rfl,p,J,hd⟩,hok⟩:=one j y H2 s2 t;have l:=L H2 λ_ _ e=>e;rw[m]at l;exact⟨Sub.set rfl,_,rfl,b,_,rfl,Lo p,_,rfl,z,f.kind,wl,W,rfl,J,s2 _ _ hw,hok,l⟩
   ·have N:H2 D=some (.lst ((fields.map λf=>FD W f.kind).map V.int)):=by
     rw[O,<-o,HS fields (λf=>V.int (FD W f.kind)) _ (λi d hd=>by rw[hd]),Cf];rfl
    refine⟨D,_,rfl,Dk.of N,?_,λM h1 h2=>?_⟩
    ·rw[AV];exact ET.mpr (G rfl)
    ·refine⟨_,_,rfl,rfl,?_⟩;rw[fN h1 h2];exact q _ s2
  |false=>
   refine Dr ⟨_,rfl,a,_,rfl,Gc ha,fl,rfl,⟨_,Dk.of n⟩,Pp (Wk.list (Dk.of n)) (by omega) (λj=>match fields[j]? with|some f=>f.must|none=>false) (λj=>.int (match fields[j]? with|some f=>FD W f.kind|none=>0)) (λj y t H2 R s2 L hN=>?_) (λD H2 hD s2 O=>?_)⟩
   ·obtain⟨f,m,⟨b,z,dv,rfl,p,J,hd⟩,hok⟩:=one j y H2 s2 t;have l:=L H2 λ_ _ e=>e;have u:=hN H2 λ_ _ e=>e;rw[m]at l u;refine⟨Sub.set rfl,_,rfl,b,_,rfl,VC p,_,rfl,?_⟩;cases hm:f.must with
    |true=>exact Er ⟨_,rfl,b,_,rfl,Lo p,_,rfl,z,f.kind,wl,W,rfl,J,s2 _ _ hw,hok,l hm⟩
    |false=>exact Dr (u hm)
   ·have N:H2 D=some (.lst (((fields.filter (·.must)).map λf=>FD W f.kind).map V.int)):=by
     rw[O,<-o,Tg fields (·.must) (λf=>V.int (FD W f.kind)) _ _ (λi d hd=>by rw[hd]) (λi d hd=>by rw[hd]),Cf];rfl
    have p:∀x∈ (fields.filter (·.must)).map λf=>FD W f.kind,0<=x/\x<=1000:=λx r=>by
     obtain⟨f,I,rfl⟩:=Bm.mp r;exact yV hW rfl (S _ (EX.mp I).1)
    have a1: ((fields.filter (·.must)).map λf=>FD W f.kind).length<=40:=by
     rw[AV];exact BF (Ie _ _) (by omega)
    refine⟨D,_,rfl,N,λj m=>⟨?_,?_⟩,_,_,rfl,rfl,?_⟩
    ·have r: ((fields.filter (·.must)).map λf=>FD W f.kind)[j]?=some (((fields.filter (·.must)).map λf=>FD W f.kind)[j]'m):=AW m;rw[BD,r];have:=p _ (Bp r);show InLong (((fields.filter (·.must)).map λf=>FD W f.kind)[j]'m);exact⟨by omega,by omega⟩
    ·rw[Wy _ _ (by omega)];have hs:=ly (ns:=((fields.filter (·.must)).map λf=>FD W f.kind).take (j+1)) (b:=1000) λx r=>p x (CA r);have a2: (((fields.filter (·.must)).map λf=>FD W f.kind).take (j+1)).length<=40:=by rw[Bt];omega
     exact⟨by omega,by omega⟩
    ·rw[Wy _ _ (Bv _),DU];exact q _ s2
section
variable{J:It}{H1:Hp}{xs:List V}{σ0:L2.St}{g:TG}{te:TE}{Q:VK}
theorem jX(W:Wk J H1 xs)(u:xs.length<=1000)(f:Nat->Hp->V->Prop)(b:∀i H H' v,BC H H'->f i H v->f i H' v)(l:∀i H D zs us v,H D=some (.lst zs)->f i H v->f i (upd H D (.lst us)) v)(hs:∀(j:Nat) (x:V),xs[j]?=some x->∀(H:Hp) (R:VK),BC H1 H->(∀y H',BC H H'->f j H' y->R y H')->g x k H λh H2=>Sub k h/\te h H2 R)(hd:∀D H' ys,H1 D=none->BC H1 H'->H' D=some (.lst ys)->ys.length=xs.length->(∀(i:Nat) y,ys[i]?=some y->f i H' y)->Q (.ref D) H'):QH J H1 k g XE te Q:=by
 intro D o;refine⟨λi m ys H=>m=xs.length - i/\i<=xs.length/\BC H1 H/\H D=some (.lst ys)/\ys.length=i/\∀(j:Nat) y,ys[j]?=some y->f j H y,⟨xs.length,by simp,CH _,BM o,AX,rfl,λj y e=>by simp at e⟩,?_⟩;rintro i m ys H ⟨rfl,hi,sm,a,n,p⟩;refine⟨a,?_⟩;by_cases c:i<xs.length
 ·refine .inr ⟨W.go H i sm c,λx H' y=>?_⟩;obtain⟨e,r⟩:=W.yld H i x H' sm c y;subst e;refine hs i x r H' _ sm λy A s4 q=>?_;refine⟨s4 _ _ a,Ea (by omega),xs.length - (i+1),by omega,rfl,c,(sm.trans s4).put o,AX,by rw[Bh,n];rfl,λj z d=>?_⟩;refine l _ _ _ _ _ _ (s4 _ _ a) ?_;by_cases s:j<i
  ·rw[CU (by omega)]at d;exact b _ _ _ _ s4 (p j z d)
  ·rw[CB (by omega)]at d;have t:j=i:=by
    by_cases w:j - ys.length=0
    ·omega
    ·rw[CW (by simp;omega)]at d;cases d
   subst t;rw[n,Nat.sub_self]at d;cases d;exact q
 ·have e:i=xs.length:=by omega
  subst e;exact .inl ⟨W.stop H _ sm rfl,hd D H ys o sm a n p⟩
end
theorem vG{xs:List V}{k:Nat}{a:Int}(h:a=(k:Int)):MR xs (some a) none=xs.drop k:=by
 subst h;unfold MR;rw[HT.sIx_nat];show(xs.drop (min k xs.length)).take (xs.length - min k xs.length)=_;by_cases c:k<=xs.length
 ·rw[Nat.min_eq_left c,HC (by rw[GX];exact Bv _)]
 ·rw[Nat.min_eq_right (by omega),Nat.sub_self,List.take_zero,List.drop_eq_nil_of_le (by omega)]
theorem OG{xs:List V}{k:Nat}{a:Int}(h:a=(k:Int)):MR xs none (some a)=xs.take k:=by
 subst h;unfold MR;rw[HT.sIx_nat];show(xs.drop 0).take (min k xs.length - 0)=_;rw[List.drop_zero,Nat.sub_zero];by_cases c:k<=xs.length
 ·rw[Nat.min_eq_left c]
 ·rw[Nat.min_eq_right (by omega),DU,HC (by omega)]
def rm(l:List Ba)(H:Hp):Hp:=λb=>if b∈l then none else H b
theorem Te{l:List Ba}{H:Hp}{b:Ba}{o:HO}(h:rm l H b=some o):b∉l/\H b=some o:=by
 unfold rm at h;split at h
 ·cases h
 ·exact⟨by assumption,h⟩
theorem Tf{l:List Ba}{H:Hp}{b:Ba}{o:HO}(n:b∉l)(h:H b=some o):rm l H b=some o:=by
 unfold rm;rw[A35 n];exact h
theorem Wx{l:List Ba}{H H':Hp}(s:BC H H'):BC (rm l H) (rm l H'):=λb o e=>by
 obtain⟨n,e⟩:=Te e;exact Tf n (s _ _ e)
theorem lM{l:List Ba}{H:Hp}{a:Ba}{o:HO}(h:a∈l):BC (rm l H) (rm l (upd H a o)):=λb u e=>by
 obtain⟨n,e⟩:=Te e;exact Tf n (by rw[Bo (λz=>n (by rw[z];exact h))];exact e)
theorem um{l:List Ba}{H:Hp}:BC (rm l H) H:=λb u e=>(Te e).2
theorem ym{l m:List Ba}(h:∀a∈m,a∈l){H:Hp}:BC (rm l H) (rm m H):=λb u e=>by
 obtain⟨n,e⟩:=Te e;exact Tf (λz=>n (h _ z)) e
theorem A10{H:Hp}{L:List Ba}(o:∀a∈L,∃xs,H a=some (.lst xs)):∀{k:Lk} {u:V},TL H k u->TL (rm L H) k u:=by
 have ne:∀{a:Ba} {xs:List V},H a=some (.tup xs)->rm L H a=some (.tup xs):=λe=>Tf (λz=>by
  obtain⟨ys,h⟩:=o _ z;rw[e]at h;cases h) e
 intro k;induction k with
 |truth=>exact λl=>(by obtain⟨a,e,h⟩:=l;exact⟨a,e,ne h⟩)
 |count=>exact λi=>(by obtain⟨a,e,h⟩:=i;exact⟨a,e,ne h⟩)
 |whole=>exact λg=>(by obtain⟨a,e,h⟩:=g;exact⟨a,e,ne h⟩)
 |upto n=>exact λf=>(by obtain⟨a,e,h⟩:=f;exact⟨a,e,ne h⟩)
 |text n=>exact λd=>(by obtain⟨a,e,h⟩:=d;exact⟨a,e,ne h⟩)
 |form n=>exact λc=>(by obtain⟨a,e,h⟩:=c;exact⟨a,e,ne h⟩)
 |list k m=>exact λb=>(by obtain⟨a,u,e,h,j⟩:=b;exact⟨a,u,e,ne h,m j⟩)
theorem A0Z{b H:Hp}{L:List Ba}(g:∀a∈L,∃xs,b a=some (.lst xs)){k:Lk}{d:Dt}{u:V}(hd:d=Ep k\/OJ k d)(h:Th H d u)(c:Fz b u):Th (rm L H) d u:=by
 rcases hd with rfl|hd
 ·cases k with
  |list k=>
   obtain⟨a,xs,rfl,ha,e,f⟩:=h;have n:a∉L:=λz=>by
    obtain⟨ys,h⟩:=g _ z;rw[c a rfl]at h;cases h
   obtain rfl:xs=[]:=e;exact⟨a,[],rfl,Tf n ha,rfl,f⟩
  |_=>exact h
 ·exact wj hd h
theorem wn.rm{c H:Hp}{L:List Ba}(d:∀a∈L,∃xs,c a=some (.lst xs))(s:BC c H){f:SF}{v:V}(hd:f.dfl=Ep f.kind\/OJ f.kind f.dfl):wn c H f v->UR (rm L H) f v
 |⟨a,g,i,e,h,h1,h2,h3⟩=>by
  have b:∀a∈L,∃xs,H a=some (.lst xs):=λa ha=>by obtain⟨xs,z⟩:=d a ha;exact⟨xs,s _ _ z⟩
  refine⟨a,g,i,e,Tf (λz=>?_) h,A10 b h1,A0Z d hd h2 h3⟩;obtain⟨xs,z⟩:=b a z;rw[h]at z;cases z
def jF:Lk->Bool
 |.form _=>true
 |_=>false
theorem thr(p:Nat->Bool)(mono:∀j,p (j+1)=true->p j=true):∀n,∃t,t<=n/\∀j,j<n->p j=decide (j<t)
 |0=>⟨0,Bv _,λj h=>A38 h (Nat.not_lt_zero _)⟩
 |n+1=>by
  obtain⟨t,f,h⟩:=thr p mono n;cases c:p n with
  |true=>
   have all:∀j,j<=n->p j=true:=by
    have go:∀d,d<=n->p (n - d)=true:=by
     intro d;induction d with
     |zero=>exact λ_=>c
     |succ d e=>
      intro hd;refine mono _ ?_;rw[show n - (d+1) +1=n - d by omega];exact e (by omega)
    intro j b;have:=go (n - j) (by omega);rw[show n - (n - j)=j by omega]at this;exact this
   exact⟨n+1,Bv _,λj b=>by rw[all j (by omega)];exact(A32 b).symm⟩
  |false=>
   refine⟨t,by omega,λj b=>?_⟩;by_cases a:j<n
   ·exact h j a
   ·have:j=n:=by omega
    subst this;rw[c];exact(A33 (by omega)).symm
def nT(j:Nat):Int:=(((j:Int) +2) +5) * (((j:Int) +2) +5) *30269
def yo(r:Int)(t j:Nat):Int:=if j<t then (r+nT j) %16 else (r+nT j - 2147483399) %16
def yq(r:Int)(t j:Nat):Bool:=decide (yo r t j=3\/yo r t j=14)
theorem uo:∀r:Fin 16,∀t:Fin 11,((Bz 10).filter (yq r.val t.val)).length<=5:=by decide+kernel
theorem yn{r:Int}{t:Nat}(b:0<=r)(h1:r<16)(a:t<11): ((Bz 10).filter (yq r t)).length<=5:=by
 obtain⟨n,rfl⟩:=Int.eq_ofNat_of_zero_le b;exact uo ⟨n,by omega⟩ ⟨t,a⟩
theorem A27(a s:Int)(b:0<=a)(hs:0<=s)(h1:a+s<2147483399): (a+s) %2147483399%16=(a%16+s) %16:=by
 rw[Int.emod_eq_of_lt (by omega) h1];omega
theorem A26(a s:Int)(b:2147483399<=a+s)(h1:a+s<4294966798): (a+s) %2147483399%16=(a%16+s - 2147483399) %16:=by
 have: (a+s) %2147483399=a+s - 2147483399:=by omega
 rw[this];omega
def zg(c:Int)(j:Nat):Bool:=decide (bg c (j+2) %16=3\/bg c (j+2) %16=14)
theorem yU(c:Int)(n:Nat)(hn:n<=10): ((Bz n).filter (zg c)).length<=5:=by
 have o:=Ey (c%2147483629*40692) (b:=2147483399) Aa;generalize k:c%2147483629*40692%2147483399=a at o;have hm:∀j,bg c ((j:Nat) +2)=(a+nT j) %2147483399:=λj=>by
  unfold bg nT;rw[<-k];omega
 have hs:∀j:Nat,j<10->0<=nT j/\nT j<=7748864:=by
  have:∀j:Fin 10,0<=nT j.val/\nT j.val<=7748864:=by decide+kernel
  exact λj f=>this ⟨j,f⟩
 have g:∀j:Nat,nT j<=nT (j+1):=λj=>by
  unfold nT;have e: (((j+1:Nat):Int) +2+5)=((j:Int) +2+5) +1:=by omega
  rw[e];have m:0<= (j:Int) +2+5:=by omega
  revert m;generalize ((j:Int) +2+5)=x;intro m;rw[Int.add_mul x 1,Int.mul_add,Int.one_mul,Int.mul_one];omega
 obtain⟨t,q,h⟩:=thr (λj=>decide (a+nT j<2147483399)) (λj f=>by
  have:=A34 f;have:=g j;exact A32 (by omega)) 10
 have p:∀j,j<10->zg c j=yq (a%16) t j:=λj f=>by
  have h1:=hs j f;have h2: (decide (a+nT j<2147483399))=decide (j<t):=h j f;have e:bg c (j+2) %16=yo (a%16) t j:=by
   rw[hm];unfold yo;by_cases d:j<t
   ·rw[A36 d];exact A27 _ _ o.1 h1.1 (A34 (by rw[h2];exact A32 d))
   ·rw[A35 d];have:¬a+nT j<2147483399:=of_decide_eq_false (by rw[h2];exact A33 d);exact A26 _ _ (by omega) (by omega)
  unfold zg yq;rw[e]
 have l: ((Bz 10).filter (zg c)).length<=5:=by
  rw[List.filter_congr (λj f=>p j (DJ.mp f))];exact yn (by omega) (by omega) (by omega)
 have i: ((Bz n).filter (zg c)).Sublist ((Bz 10).filter (zg c)):=(List.range_sublist.mpr hn).filter _;exact BF i.length_le l
structure LD(ms:List Int):Prop where
 nd:ms.Nodup
 bd:∀m∈ms,1<=m/\m<=200
theorem R0(one:Int){n:Nat}(hn:n<=12):LD ((Bz n).map λj:Nat=>1+ (one/7+37* (0+ (j:Int))) %200):=by
 refine⟨nodup_range _ _ λi j hi a h=>by omega,λm hm=>?_⟩;obtain⟨j,_,rfl⟩:=Bm.mp hm;omega
theorem Q9(one:Int){n:Nat}(hn:n<=12):LD ((Bz n).map λj:Nat=>1+one%3+ (0+ (j:Int))):=by
 refine⟨nodup_range _ _ λi j hi a h=>by omega,λm hm=>?_⟩;obtain⟨j,a,rfl⟩:=Bm.mp hm;have:=DJ.mp a;omega
structure A8(k:Nat)(W:List Int)(g:SG):Prop where
 len:g.fields.length<=10
 ne:g.choice=true->g.fields≠[]
 fs:∀f∈g.fields,wk k W g.choice f
 nms:EA (g.fields.map (·.nam))
 nums:LD (g.fields.map (·.num) ++g.gone)
 gl:g.gone.length<=2
 few: (g.fields.filter λf=>jF f.kind).length<=5
structure Gn(gs:List SG)(Ws:List Int):Prop where
 len:gs.length=Ws.length
 nms:EA (gs.map (·.nam))
 ok:∀k g,gs[k]?=some g->A8 k (Ws.take k) g
 ws:∀k g,gs[k]?=some g->Ws[k]?=some (IW (Ws.take k) g.choice g.fields)
structure LC(one:Int)(k:Nat)(W:List Int)(c:Bool)(ms:List Int)(zs:List Bx)(fs:List SF):Prop where
 num:∀(i:Nat) (f:SF),fs[i]?=some f->ms[i]?=some f.num
 nam:∀(i:Nat) (f:SF),fs[i]?=some f->zs[i]?=some f.nam
 ok:∀(i:Nat) (f:SF),fs[i]?=some f->wk k W c f
 fm:∀(i:Nat) (f:SF),fs[i]?=some f->∀z,f.kind= .form z->zg one i=true
theorem LC.nil{one:Int}{k:Nat}{W:List Int}{c:Bool}{ms:List Int}{zs:List Bx}:LC one k W c ms zs []:=⟨λi f e=>by simp at e,λi f e=>by simp at e,λi f e=>by simp at e,λi f e=>by simp at e⟩
theorem Lf{a:Type}{l:List a}{x:a}{i:Nat}{y:a}(h: (l++[x])[i]?=some y):l[i]?=some y\/(i=l.length/\y=x):=by
 by_cases hi:i<l.length
 ·rw[CU hi]at h;exact .inl h
 ·rw[CB (by omega)]at h;by_cases b:i - l.length=0
  ·rw[b]at h;exact .inr ⟨by omega,(AR h).symm⟩
  ·rw[CW (by simp;omega)]at h;cases h
theorem LC.snoc{one:Int}{k:Nat}{W:List Int}{c:Bool}{ms:List Int}{zs:List Bx}{fs:List SF}(h:LC one k W c ms zs fs){f:SF}(h1:ms[fs.length]?=some f.num)(h2:zs[fs.length]?=some f.nam)(h3:wk k W c f)(a:∀z,f.kind= .form z->zg one fs.length=true):LC one k W c ms zs (fs++[f]):=by
 refine⟨λi x e=>?_,λi x e=>?_,λi x e=>?_,λi x e=>?_⟩ <;> rcases Lf e with e|⟨rfl,rfl⟩
 ·exact h.num i x e
 ·exact h1
 ·exact h.nam i x e
 ·exact h2
 ·exact h.ok i x e
 ·exact h3
 ·exact h.fm i x e
 ·exact a
def vE:SF:=⟨0,"",.truth,false,.non⟩
theorem lN{a:Type}(l:List a)(d:a): (Bz l.length).map (λj=>l.getD j d)=l:=by
 apply List.ext_getElem
 ·simp
 ·intro i h1 h2;simp[h2]
theorem qG{a:Type}(l:List a)(d:a){js:List Nat}(h:js.Perm (Bz l.length)): (js.map λj=>l.getD j d).Perm l:=by
 have:=h.map λj=>l.getD j d;rw[lN]at this;exact this
theorem EA.perm{xs ys:List Bx}(p:xs.Perm ys)(h:EA ys):EA xs:=⟨λz a=>h.ok z (p.mem_iff.mp a),p.symm.nodup h.nd⟩
theorem EA.take{xs:List Bx}(h:EA xs)(n:Nat):EA (xs.take n):=⟨λz a=>h.ok z (CA a),h.nd.sublist (Gq _ _)⟩
theorem LD.perm{xs ys:List Int}(p:xs.Perm ys)(h:LD ys):LD xs:=⟨p.symm.nodup h.nd,λz a=>h.bd z (p.mem_iff.mp a)⟩
theorem Vz{b a:Type}{l:List b}{m:List a}{f:b->a}(h:∀(i:Nat) x,l[i]?=some x->m[i]?=some (f x)):l.map f=m.take l.length:=by
 apply Nx;intro i;rw[Bj];by_cases hi:i<l.length
 ·rw[Da hi,AW hi,h i _ (AW hi)];rfl
 ·rw[CW (by omega),CW (by rw[Bt];omega)];rfl
theorem YL{b:Type}(l:List b)(p:b->Bool)(q:Nat->Bool)(h:∀(i:Nat) x,l[i]?=some x->p x=true->q i=true): (l.filter p).length<= ((Bz l.length).filter q).length:=by
 have key:∀n,n<=l.length->((l.take n).filter p).length<= ((Bz n).filter q).length:=by
  intro n;induction n with
  |zero=>intro _;simp
  |succ n d=>
   intro hn;have c:l[n]?=some (l[n]'(by omega)):=AW _;rw[Ml,List.range_succ,Fg,Fg,Bh,Bh,c];have:=d (by omega);have: ([l[n]'(by omega)].filter p).length<= ([n].filter q).length:=by
    cases a:p (l[n]'(by omega))with
    |false=>rw[Dd (by rw[a];decide)];exact CH _
    |true=>rw[CD a,CD (h n _ c a)];exact Bv _
   show _+ ([l[n]'(by omega)].filter p).length<=_;omega
 have:=key l.length (Bv _);rw[DU]at this;exact this
theorem LC.gok{one:Int}{k:Nat}{W:List Int}{c:Bool}{ms:List Int}{zs:List Bx}{fs:List SF}(h:LC one k W c ms zs fs)(d:fs.length<=10)(hc:c=true->1<=fs.length)(l:EA zs)(hm:LD ms)(m:ms.length<=fs.length+2)
  {nm:Bx}{go:List Int}{fields:List SF}(a:fields.Perm fs)(j:go.Perm (ms.drop fs.length)):A8 k W ⟨nm,c,go,fields⟩:=by
 have n:fs.map (·.nam)=zs.take fs.length:=Vz h.nam;have em:fs.map (·.num)=ms.take fs.length:=Vz h.num;refine⟨by rw[a.length_eq];exact d,λe z=>?_,λf b=>?_,?_,?_,?_,?_⟩
 ·have:=a.length_eq;rw[show fields=[]from z]at this;have:=hc e;simp at *;omega
 ·obtain⟨i,hi⟩:=DW.mp (a.mem_iff.mp b);exact h.ok i f hi
 ·refine EA.perm (a.map (·.nam)) ?_;rw[n];exact l.take _
 ·have p1: (fields.map (·.num) ++go).Perm (ms.take fs.length++ms.drop fs.length):=by
   rw[<-em];exact(a.map (·.num)).append j
  rw[Ic]at p1;exact LD.perm p1 hm
 ·rw[j.length_eq,GX];omega
 ·have o: (fields.filter λf=>jF f.kind).length=(fs.filter λf=>jF f.kind).length:=(a.filter _).length_eq;rw[o];refine BF (YL fs _ (zg one) λi f hi b=>?_) (yU one fs.length d);cases g:f.kind with
  |form z=>exact h.fm i f hi z g
  |_=>rw[g]at b;cases b
def kj(W:List Int):Prop:=∀(i:Nat) w,W[i]?=some w->1<=w/\w<=81+ (i:Int)
theorem kj.bd{W:List Int}(h:kj W)(b:W.length<=6):WBd W:=λx a=>by
 obtain⟨i,hi⟩:=DW.mp a;have:=h i x hi;have:i<W.length:=(Bi.mp hi).1;omega
theorem fP{W:List Int}(h:kj W){k:Lk}(a:k.ok W.length):1<=FD W k/\(FD W k<=80+ (W.length:Int)\/FD W k=1):=by
 cases k with
 |form i=>
  have hi:i<W.length:=a;have e:W[i]?=some (W[i]'hi):=AW hi;have:=h i _ e;show 1<=W.getD i 0/\(W.getD i 0<=_\/_);rw[BD,e];show 1<=W[i]'hi/\(W[i]'hi<=_\/_);omega
 |_=>exact⟨Jr _,.inr rfl⟩
theorem N5{l:List Int}(h:∀x∈l,0<=x/\x<=8):0<=l.sum/\l.sum<=8* (l.length:Int):=by
 induction l with
 |nil=>exact⟨Aa,Aa⟩
 |cons x r a=>
  have h1:=h x (.head _);have h2:=a λy b=>h y (.tail _ b);rw[EM,Cj];omega
theorem bE{W:List Int}(h:kj W){g:SG}(c:A8 W.length W g):1<=IW W g.choice g.fields/\IW W g.choice g.fields<=81+ (W.length:Int):=by
 unfold IW;cases hc:g.choice with
 |true=>
  rw[A36 rfl];have hm:=KN (l:=g.fields.map λf=>FD W f.kind) (by
   intro z;exact c.ne hc (Ls.mp z))
  obtain⟨f,b,e⟩:=Bm.mp hm;rw[<-e];have:=fP h (c.fs f b).kind;omega
 |false=>
  rw[A35 Aa];have hs:=N5 (l:=(g.fields.filter (·.must)).map λf=>FD W f.kind) λx k=>by
   obtain⟨f,b,rfl⟩:=Bm.mp k;obtain⟨b,a⟩:=EX.mp b;have j:=c.fs f b;have h1:=fP h j.kind;refine⟨by omega,?_⟩;cases d:f.kind with
   |form i=>exact j.light i d a
   |_=>exact(by decide: (1:Int)<=8)
  have m: ((g.fields.filter (·.must)).map λf=>FD W f.kind).length<=10:=by
   rw[AV];exact BF (Ie _ _) c.len
  omega
theorem kj.snoc{W:List Int}(h:kj W){x:Int}(h1:1<=x)(h2:x<=81+ (W.length:Int)):kj (W++[x]):=λi w e=>by
 rcases Lf e with e|⟨rfl,rfl⟩
 ·exact h i w e
 ·exact⟨h1,h2⟩
theorem Gn.snoc{gs:List SG}{Ws:List Int}(h:Gn gs Ws){g:SG}(c:A8 gs.length Ws g)(hn:EA ((gs++[g]).map (·.nam))):Gn (gs++[g]) (Ws++[IW Ws g.choice g.fields]):=by
 have a:=h.len;refine⟨by simp[a],hn,λk x e=>?_,λk x e=>?_⟩
 ·rcases Lf e with e|⟨rfl,rfl⟩
  ·have b:k<gs.length:=(Bi.mp e).1;rw[cK (by omega)];exact h.ok k x e
  ·rw[a,List.take_left']
   ·rw[<-a];exact c
   ·rfl
 ·rcases Lf e with e|⟨rfl,rfl⟩
  ·have b:k<gs.length:=(Bi.mp e).1;rw[cK (by omega),CU (by omega)];exact h.ws k x e
  ·rw[a,List.take_left' rfl,CB (Bv _),Nat.sub_self];rfl
theorem yr{P:Nat->Ba->Prop}:∀(ys:List V),(∀(i:Nat) y,ys[i]?=some y->∃t,y= .ref t/\P i t)->∃ts:List Ba,ys=ts.map V.ref/\∀(i:Nat) t,ts[i]?=some t->P i t:=by
 intro ys;induction ys generalizing P with
 |nil=>exact λ_=>⟨[],rfl,λi t e=>by simp at e⟩
 |cons y r b=>
  intro h;obtain⟨t,rfl,c⟩:=h 0 y rfl;obtain⟨ts,rfl,a⟩:=b (P:=λi=>P (i+1)) λi y e=>h (i+1) y (by simpa using e);refine⟨t::ts,rfl,λi x e=>?_⟩;cases i with
  |zero=>simp at e;subst e;exact c
  |succ i=>exact a i x (by simpa using e)
theorem fL{a:Type}{R:Nat->a->Prop}(ts:List a)(h:∀(i:Nat) t,ts[i]?=some t->R i t):Paired R (Bz ts.length) ts:=by
 suffices ∀(ts:List a) (b:Nat),(∀(i:Nat) t,ts[i]?=some t->R (b+i) t)->Paired R (List.range' b ts.length) ts by
  rw[List.range_eq_range'];exact this ts 0 λi t e=>by rw[Nat.zero_add];exact h i t e
 intro ts;induction ts with
 |nil=>exact λ_ _=>.nil
 |cons t r c=>
  intro b h;refine .cons (h 0 t rfl) (c (b+1) λi x e=>?_);have:=h (i+1) x (by simpa using e)
  rwa [show b+ (i+1)=b+1+i by omega]at this
theorem oM{b a:Type}{R:b->a->Prop}{fs:List b}{vs:List a}(h:Paired R fs vs)(d:b)(e:a):∀(js:List Nat),(∀j∈js,j<fs.length)->Paired R (js.map λj=>fs.getD j d) (js.map λj=>vs.getD j e)
 |[],_=>.nil
 |j::js,g=>by
  refine .cons ?_ (oM h d e js λi hi=>g i (.tail _ hi));have l:=g j (.head _);have f:fs.length=vs.length:=h.length;have c:vs[j]?=some (vs[j]'(by omega)):=AW _;obtain⟨x,k,r⟩:=Gf h j _ c;show R (fs.getD j d) (vs.getD j e);rw[BD,BD,k,c];exact r
theorem wd{xs:List V}{j:Nat}{v:V}(h:xs[j]?=some v):bo xs (0+ (j:Int))=some v:=by
 rw[LK];exact EK h
abbrev sS(sc:Ba)(many:Int)(nl sl wl:Ba)(k one c cnt ml tl rl j fh fm:Option V):L2.St:=[some (.ref sc),some (.int 0),some (.int 6),some (.int many),some (.ref nl),some (.ref sl),some (.ref wl),k,one,c,cnt,ml,tl,rl,j,fh,fm]
inductive SpI(sc:Ba)(n:Nat)(nl sl wl:Ba)(zs:List Bx)(H1:Hp)(k:Nat):L2.St->Hp->Prop
 |mk {H':Hp} {gs:List SG} {Ws:List Int} {as:List Ba} {v7 one c cnt ml tl rl j fh fm:Option V} (hok:Gn gs Ws) (hgl:gs.length=k) (hnm:gs.map (·.nam)=zs.take k) (hlast:∀g,gs[n - 1]?=some g->g.choice=false) (has:∀a∈as,H1 a=none) (hnd:as.Nodup) (s4:BC H1 H') (hsl:H' sl=some (.lst (as.map V.ref))) (hwl:H' wl=some (.lst (Ws.map V.int))) (hW:kj Ws) (hpa:Paired (λg a=>Mf (rm [sl,wl] H') g (.ref a)) gs as):SpI sc n nl sl wl zs H1 k (sS sc n nl sl wl v7 one c cnt ml tl rl j fh fm) H'
def nU(K:Be):Sp:=λvs H Q _=>∃(a:Ba) (ns:List Int),vs=[.ref a,.int 0,.int 6]/\Dk K H a (ns.map V.int)/\∀gs Ws as l H',Gn gs Ws->1<=gs.length->gs.length<=6->(∀g,gs[gs.length - 1]?=some g->g.choice=false)->H l=none->(∀a∈as,H a=none)->as.Nodup->BC H H'->H' l=some (.lst (as.map V.ref))->Paired (λg a=>Mf H' g (.ref a)) gs as->Q (.ref l) H'
theorem A0g: ((AN:List Bx) ++ (["_law_one"]:List Bx)).Nodup:=by decide+kernel
theorem A22: ((AN:List Bx) ++ (["_law_marks"]:List Bx)).Nodup:=by decide+kernel
theorem A0e: ((["_law_mark","_law_j"]:List Bx) ++ (["_law_rows"]:List Bx)).Nodup:=by decide+kernel
def Z6(a b c:V):List (Gv×V):=[(.inr "name",a),(.inr "choice",b),(.inr "gone",c)]
theorem Q8(a b c:V):Jv [] (Z6 a b c)=Z6 a b c:=by kernel_rfl
theorem A1S(g:SG)(gl fl:Ba):Jp (Z6 (.str g.nam) (.bl g.choice) (.ref gl)) (.inr "fields") (.ref fl)=iS g gl fl:=by kernel_rfl
theorem jD{X:Cx}(K:Be)(a:X.K=K):IxR X (A00 K):=by
 subst a;exact Dz
theorem yx{X:Cx}(K:Be)(b:X.K=K){pos:Pos}{es:List Expr}{k:Nat}{t:zZ}{n:Nat}(hc:X.calm=true)(h:V8 X es t)(hn: (LF es X.env).length=n:=by rfl)(a: (LF es X.env).findIdx? (·.1)=none:=by rfl):PG X (.Tuple es k pos) (A0I K n t):=by
 subst b;exact lS hc h hn a
theorem yB(T:Tx K mg):Cm P w K mg base DS 6 920 (Br K 920) AD (nU K):=by
 have G:Cm P w K mg base DS 1 856 (Br K 856) At (Ux K):=bV T;have U:Cm P w K mg base DS 1 868 (Br K 868) Av XI:=jr T;have Y:Cm P w K mg base DS 1 863 (Br K 863) Au iK:=uM T;have c7:Cm P w K mg base DS 4 903 (Br K 903) AA iP:=uS T;have Z:Cm P w K mg base DS 2 915 (Br K 915) AC XJ:=ma T;refine T.sV.ok FU (λvs H Q E h=>?_) (λcdv A outer s H vs Q E hr h=>?_)
 ·obtain⟨a,ns,rfl,_⟩:=h;rfl
 ·obtain⟨sc,ns,rfl,f3,q⟩:=h;have hu:=hr.units;have l1:=Cp (Cy (show 1<=64 by decide) _) hu;refine⟨_,BE (Ct (i:=3) FU.nd rfl (BP rfl) (BO Eb Bc (BO Dl (BX G (hr.mono Aa) rfl T.LO T.Kv T.LS .nil BR (AS (pv 0) (AS (pv 1) AZ))) (pv 2)))) (BE (Ct (i:=4) FU.nd rfl (BP rfl) (BX U (hr.mono Aa) rfl T.dQ T.Wu T.eE .nil BR (AS (BX G (hr.mono Aa) rfl T.LO T.Kv T.LS .nil BR (AS (pv 0) (AS (BO Eb (pv 1) Bc) AZ))) (AS (pv 3) AZ)))) (BW (Ct (i:=5) FU.nd rfl (BP rfl) (DO AZ)) (BW (Ct (i:=6) FU.nd rfl (BP rfl) (DO AZ)) (BE (Ri JN rfl (FP rfl T.HP (AS (pv 3) AZ)) (CN (i:=7) FU.nd rfl (BP rfl)) (BE (Ct (i:=8) FU.nd rfl (Di rfl) (BX G (hr.mono Aa) rfl T.LO T.Kv T.LS .nil BR (AS (pv 0) (AS (BO Eb (BO Eb (pv 1) Bc) (pv 7)) AZ)))) (BE (Ct (i:=9) FU.nd rfl (BP rfl) (JR (GH A06 (pv 7) (BO fM (pv 3) Bc) (Dc _)) (JQ (GH Gg (BO Dl (pv 8) Bc) Bc (Dc _))))) (BE (Ct (i:=10) FU.nd rfl (BP rfl) (Dp Dz (DO (AS (BO Eb Bc (BO Dl (BO DT (pv 8) Bc) Bc)) (AS (BO Dl (BO DT (pv 8) Bc) Bc) (AS (BO Eb Bc (BO Dl (BO DT (pv 8) Bc) Bc)) AZ)))) (BO Dl (BO DT (pv 8) Bc) Bc) (λ_ _=>rfl))) (BE (Ct (i:=10) FU.nd rfl (BP rfl) (BJ (cD rfl) rfl T.zI vR (AS (pv 10) (AS (Gj rD rfl T.zJ vS (AS (pv 9) AZ)) AZ)))) (BE (Ct (i:=11) FU.nd rfl (Di rfl) (DY (ts:=AN) (xs:=["_law_one"]) (js:=[8]) rfl ⟨rfl,rfl,Ab,Ab,DZ rfl⟩ (.cons rfl (.inl rfl) rfl .nil) Ab (FP rfl T.HP (AS (BO Eb (pv 10) (BO Dl (BO DT (pv 8) Bc) Bc)) AZ)) (λC s_ H_ fp=>CN (X:=Ee _ _ _ C s_ H_ fp) (i:=0) A0g rfl (BP rfl) (Di rfl)) (λC s_ H_ fp=>DB (X:=Ee _ _ _ C s_ H_ fp)) (λC s_ H_ fp=>BO (X:=Ee _ _ _ C s_ H_ fp) Eb Bc (BO Dl (BO Eb (BO DT (pv 1) Bc) (BO LA Bc (pv 0))) Bc)))) (BE (CV (CK Gg (BO Dl (BO DT (pv 8) Bc) Bc) Bc (Dc _)) (Bk (Ct (i:=11) FU.nd rfl (Di rfl) (DY (ts:=AN) (xs:=["_law_one"]) (js:=[8]) rfl ⟨rfl,rfl,Ab,Ab,DZ rfl⟩ (.cons rfl (.inl rfl) rfl .nil) Ab (FP rfl T.HP (AS (BJ Dg (by rfl) T.Hs Fu (AS (pv 11) AZ)) AZ)) (λC s_ H_ fp=>CN (X:=Ee _ _ _ C s_ H_ fp) (i:=0) A0g rfl (BP rfl) (Di rfl)) (λC s_ H_ fp=>DB (X:=Ee _ _ _ C s_ H_ fp)) (λC s_ H_ fp=>BO (X:=Ee _ _ _ C s_ H_ fp) Eb (BO Eb Bc (BO Dl (pv 1) Bc)) (pv 0)))))
      Ci)
     (BE (Ct (i:=12) FU.nd rfl (BP rfl) (BX U (hr.mono Aa) rfl T.dQ T.Wu T.eE .nil BR (AS (BX Y (hr.mono Aa) rfl T.ng T.dV T.nL .nil BR (AS (pv 8) (AS Bc AZ))) (AS (BJ (cD rfl) rfl T.zI vR (AS Bc (AS (pv 10) AZ))) AZ))))
     (BW (Ct (i:=13) FU.nd rfl (Di rfl) (DO AZ))
     (BE (Ri JN rfl (FP rfl T.HP (AS (pv 10) AZ)) (CN (i:=14) FU.nd rfl (BP rfl)) (BW (Ct (i:=15) FU.nd rfl (BP rfl) (BX c7 (hr.mono Aa) rfl T.xk T.nr T.xF .nil BR (AS (BX Y (hr.mono Aa) rfl T.ng T.dV T.nL .nil BR (AS (pv 8) (AS (BO Eb (pv 14) Bc) AZ))) (AS (Dp Dz (pv 11) (pv 14) (λ_ _=>rfl)) (AS (Dp Dz (pv 12) (pv 14) (λ_ _=>rfl)) (AS (pv 7) (AS (pv 6) (AS (pv 9) AZ)))))))) (Bk (Li (QA DI Eu Et IJ (pv 13) (AS (pv 15) AZ))))))
     (BE (Ct (i:=16) FU.nd rfl (BP rfl) (WB (EG Bs (Dp Dz (pv 4) (pv 7) (λ_ _=>rfl)) (EG Bs (pv 9) (EG Bs (BJ Md rfl T.Ry UO (AS (HG Pg (pv 11) (Ja (pv 10)) Jb) AZ)) Wz))) rfl rfl Aa Aa))
     (BE (Pk l1 (pv 16) Bs (DY (ts:=["_law_mark","_law_j"]) (xs:=["_law_rows"]) (js:=[13]) rfl ⟨rfl,rfl,Ab,Ab,DZ rfl⟩ (.cons rfl (.inl rfl) rfl .nil) Ab (Ez (BJ TF rfl T.Ry UO (AS (DY (ts:=AN) (xs:=["_law_marks"]) (js:=[11]) rfl ⟨rfl,rfl,Ab,Ab,DZ rfl⟩ (.cons rfl (.inl rfl) rfl .nil) Ab (FP rfl T.HP (AS (pv 10) AZ))
     (λC s_ H_ fp=>CN (X:=Ee _ _ _ C s_ H_ fp) (i:=0) A22 rfl (BP rfl) (Di rfl))
     (λC s_ H_ fp=>DB (X:=Ee _ _ _ C s_ H_ fp))
     (λC s_ H_ fp=>Fq (X:=Ee _ _ _ C s_ H_ fp) (AS (Dp (jD K rfl) (pv 1) (pv 0) (λ_ _=>rfl)) (AS (pv 0) AZ)))) AZ)))
     (λC s_ H_ fp=>yx (X:=Ee _ _ _ C s_ H_ fp) K rfl (n:=2) rfl (KJ (CN (i:=0) A0e rfl (BP rfl) (Di rfl)) (KJ (CN (i:=1) A0e rfl (BP rfl) (Di rfl)) fJ)))
     (λC s_ H_ fp=>DB (X:=Ee _ _ _ C s_ H_ fp))
     (λC s_ H_ fp=>Dp (X:=Ee _ _ _ C s_ H_ fp) (jD K rfl) (pv 2) (pv 1) (λ_ _=>rfl))) rfl)
     (BW (Li (QA DI Eu Et IJ (pv 5) (AS (pv 16) AZ)))
     (Bk (Li (QA DI Eu Et IJ (pv 6) (AS (BX Z (hr.mono Aa) rfl T.kH T.Xg T.kW .nil BR (AS (pv 16) (AS (pv 6) AZ))) AZ)))))))))))))))))
   (Bk (BH (pv 5))))))),?_⟩
  refine Df (λl H'=>∃n:Nat,1<=n/\n<=6/\H=H'/\l=[some (.ref sc),some (.int 0),some (.int 6),some (.int (n:Int)),none,none,none,none,none,none,none,none,none,none,none,none,none]) ?_ ?_
  ·refine⟨_,rfl,_,rfl,sc,ns,0,rfl,f3,Aa,Aa,λr h0 h1=>⟨_,rfl,_,_,rfl,rfl,(by show(0:Int) <6;decide),_,_,rfl,rfl,(1+r%6).toNat,by omega,by omega,rfl,?_⟩⟩;rw[show(((1+r%6).toNat:Nat):Int)=1+r%6 by omega];rfl
  rintro l H' ⟨n,o6,o5,rfl,rfl⟩;refine Df (λl H'=>∃(nl:Ba) (zs:List Bx),zs.length=n/\EA zs/\BC H H'/\H' nl=some (.lst (zs.map V.str))/\l=[some (.ref sc),some (.int 0),some (.int 6),some (.int (n:Int)),some (.ref nl),none,none,none,none,none,none,none,none,none,none,none,none]) ?_ ?_
  ·refine⟨_,rfl,_,rfl,_,_,rfl,rfl,sc,ns,1,rfl,f3,Aa,Aa,λr h0 h1=>⟨_,rfl,r,n,rfl,h0,by omega,by omega,λzs hz hok nl H1 j1 s1 e1=>⟨nl,zs,hz,hok,s1,e1,rfl⟩⟩⟩
  rintro l H1 ⟨nl,zs,n9,h5,s1,j1,rfl⟩;refine⟨zl 0,λsl hsl=>⟨zl 0,λwl hwl=>?_⟩⟩;have s3:BC H1 (upd (upd H1 sl (.lst [])) wl (.lst [])):=(BM hsl).trans (BM hwl);have f2:sl≠wl:=λz=>by rw[z,AX]at hwl;cases hwl
  have h8:H1 wl=none:=(BM hsl).free hwl;refine Df (SpI sc n nl sl wl zs H1 n) ?_ ?_
  ·refine⟨_,rfl,(n:Int),rfl,by omega,by omega,?_⟩;rw[show((n:Int)).toNat=n by omega];refine UL (SpI sc n nl sl wl zs H1) ?_ (λk l H' hk h=>?_) (λl H' h=>h)
   ·refine .mk (gs:=[]) (Ws:=[]) (as:=[]) ⟨rfl,⟨(λ_ z=>nomatch z),List.Pairwise.nil⟩,(λk g e=>by simp at e),(λk g e=>by simp at e)⟩ rfl (by simp) (λg e=>by simp at e) (λ_ z=>nomatch z) List.Pairwise.nil s3 ?_ AX (λi w e=>by simp at e) .nil;rw[Bo f2];exact AX
   ·obtain @⟨_,gs,Ws,as,v7,m5,c0,e0,d3,b2,a3,j0,S,O,hok,hgl,hnm,hlast,has,hnd,s4,b6,a8,hW,hpa⟩:=h;have o7:k<6:=by omega
    have i7:Dk K H' sc (ns.map V.int):=(s1.trans s4).seq f3;refine Df (λl H5=>∃one:Int,0<=one/\one<2147483629/\H'=H5/\l=sS sc n nl sl wl (some (.int (0+ (k:Int)))) (some (.int one)) c0 e0 d3 b2 a3 j0 S O) ?_ ?_
    ·exact⟨_,rfl,_,rfl,_,_,rfl,rfl,_,rfl,_,_,rfl,rfl,sc,ns,0+2+ (0+ (k:Int)),rfl,i7,by omega,by omega,λr h0 h1=>⟨r,h0,h1,rfl,rfl⟩⟩
    rintro l H5 ⟨one,o4,o3,rfl,rfl⟩;refine Df (λl H5=>∃c:Bool,(c=true->k+1<n)/\H'=H5/\l=sS sc n nl sl wl (some (.int (0+ (k:Int)))) (some (.int one)) (some (.bl c)) e0 d3 b2 a3 j0 S O) ?_ ?_
    ·refine⟨_,rfl,_,rfl,_,_,rfl,rfl,_,_,rfl,rfl,_,rfl,Kg (λj3=>?_) (λ_=>?_)⟩
     ·have m9:=A34 j3;exact⟨_,rfl,_,_,rfl,rfl,(by show(0:Int) <4;decide),rfl,_,λ_=>by omega,rfl,rfl⟩
     ·rename_i j3;exact⟨false,λz=>(by cases z),rfl,rfl⟩
    rintro l H5 ⟨c,hc,rfl,rfl⟩;refine Df (λl H5=>∃x:Int,0<=x/\x<=10/\BC H' H5/\l=sS sc n nl sl wl (some (.int (0+ (k:Int)))) (some (.int one)) (some (.bl c)) (some (.int x)) d3 b2 a3 j0 S O) ?_ ?_
    ·refine⟨_,rfl,_,_,rfl,rfl,⟨Aa,Aa⟩,_,_,rfl,rfl,(by show(0:Int) <4;decide),_,_,rfl,rfl,_,rfl,_,_,rfl,rfl,⟨Aa,Aa⟩,_,_,rfl,rfl,(by show(0:Int) <4;decide),_,rfl,_,_,rfl,rfl,⟨Aa,Aa⟩,_,_,rfl,rfl,(by show(0:Int) <10;decide),_,_,rfl,rfl,zl 3,λp hp=>?_⟩;obtain⟨x,hx,k9⟩:=OH (xs:=([1+one/4%4,one/4%4,1+one/4%10]:List Int).map V.int) (i:=one/64%3) (by omega) (by rw[AV];show one/64%3<3;omega);obtain⟨i,rfl,hi⟩:=Ma (P:=λi=>0<=i/\i<=10) (by
      intro i hi;simp only[BK,Cq,or_false]at hi;rcases hi with rfl|rfl|rfl <;> omega) k9
     exact⟨_,rfl,_,_,rfl,rfl,⟨Aa,Aa⟩,_,_,rfl,rfl,(by show(0:Int) <3;decide),p,_,_,_,rfl,rfl,Dk.of AX,hx,i,hi.1,hi.2,BM hp,rfl⟩
    rintro l H5 ⟨x,o1,o0,s5,rfl⟩;refine Df (λl H6=>∃m:Nat,m<=10/\(c=true->1<=m)/\H5=H6/\l=sS sc n nl sl wl (some (.int (0+ (k:Int)))) (some (.int one)) (some (.bl c)) (some (.int (m:Int))) d3 b2 a3 j0 S O) ?_ ?_
    ·refine⟨_,rfl,_,rfl,.inr ⟨c,rfl,_,_,rfl,(if (if c then (1:Int)else 0) >x then (if c then (1:Int)else 0)else x).toNat,?_,?_,rfl,?_⟩⟩
     ·cases c with
      |true=>
       show(if (1:Int) >x then (1:Int)else x).toNat<=10
       split <;> omega
      |false=>
       show(if (0:Int) >x then (0:Int)else x).toNat<=10
       split <;> omega
     ·rintro rfl;show 1<= (if (1:Int) >x then (1:Int)else x).toNat
      split <;> omega
     ·rw[Dj (by cases c <;> simp <;> split <;> omega)];rfl
    rintro l H6 ⟨m,m8,l3,rfl,rfl⟩;have p0: (one/11%3).toNat<=2:=by omega
    refine Df (λl H6=>∃(ml:Ba) (ms:List Int),ms.length=m+ (one/11%3).toNat/\LD ms/\BC H5 H6/\H6 ml=some (.lst (ms.map V.int))/\l=sS sc n nl sl wl (some (.int (0+ (k:Int)))) (some (.int one)) (some (.bl c)) (some (.int (m:Int))) (some (.ref ml)) b2 a3 j0 S O) ?_ ?_
    ·refine⟨_,rfl,_,rfl,_,_,rfl,rfl,⟨Aa,Aa⟩,_,_,rfl,rfl,(by show(0:Int) <3;decide),_,_,rfl,rfl,(m:Int) +one/11%3,rfl,by omega,by omega,?_⟩;rw[show((m:Int) +one/11%3).toNat=m+ (one/11%3).toNat by omega];refine Du (Wk.rng 0 _) (by rw[AV,Bw];omega) (λj=>.int (1+ (one/7+37* (0+ (j:Int))) %200)) (λj x hx H2 R s2 hR=>?_) (λD H2 hD s2 e2=>?_)
     ·obtain⟨rfl,hj⟩:=On hx;exact⟨Sub.set rfl,_,rfl,_,_,rfl,rfl,⟨Aa,Aa⟩,_,rfl,_,_,rfl,rfl,.inl ⟨Aa,Aa⟩,_,_,rfl,rfl,_,_,rfl,rfl,(by show(0:Int) <200;decide),_,_,rfl,rfl,hR H2 λ_ _ e=>e⟩
     ·refine⟨D,_,?_,R0 one (n:=m+ (one/11%3).toNat) (by omega),s2,?_,rfl⟩
      ·rw[AV,Bw]
      ·rw[e2,AV,Bw,Cf];rfl
    rintro l H6 ⟨ml,ms,j2,f8,s6,d4,rfl⟩;refine Df (λl H7=>∃(ml:Ba) (ms:List Int),ms.length=m+ (one/11%3).toNat/\LD ms/\BC H6 H7/\H7 ml=some (.lst (ms.map V.int))/\l=sS sc n nl sl wl (some (.int (0+ (k:Int)))) (some (.int one)) (some (.bl c)) (some (.int (m:Int))) (some (.ref ml)) b2 a3 j0 S O) ?_ ?_
    ·refine⟨_,rfl,_,_,rfl,rfl,⟨Aa,Aa⟩,_,_,rfl,rfl,(by show(0:Int) <2;decide),rfl,_,rfl,Kg (λ_=>?_) (λ_=>⟨ml,ms,j2,f8,BC.refl _,d4,rfl⟩)⟩;refine⟨_,rfl,ml,_,rfl,.inl (Dk.of d4),_,rfl,by omega,by rw[AV];omega,?_⟩;rw[show((((ms.map V.int).length:Nat):Int)).toNat=m+ (one/11%3).toNat by rw[AV];omega];refine Du (Wk.rng 0 _) (by rw[AV,Bw];omega) (λj=>.int (1+one%3+ (0+ (j:Int)))) (λj x hx H2 R s2 hR=>?_) (λD H2 hD s2 e2=>?_)
     ·obtain⟨rfl,hj⟩:=On hx;exact⟨Sub.set rfl,_,rfl,_,_,rfl,rfl,(by show(0:Int) <3;decide),_,_,rfl,rfl,_,rfl,_,_,rfl,rfl,hR H2 λ_ _ e=>e⟩
     ·refine⟨D,_,?_,Q9 one (n:=m+ (one/11%3).toNat) (by omega),s2,?_,rfl⟩
      ·rw[AV,Bw]
      ·rw[e2,AV,Bw,Cf];rfl
    rintro l H7 ⟨ml,ms,j2,f8,s7,d4,rfl⟩;refine Df (λl H8=>∃(tl:Ba) (ts:List Bx),ts.length=max 1 m/\EA ts/\BC H7 H8/\H8 tl=some (.lst (ts.map V.str))/\l=sS sc n nl sl wl (some (.int (0+ (k:Int)))) (some (.int one)) (some (.bl c)) (some (.int (m:Int))) (some (.ref ml)) (some (.ref tl)) a3 j0 S O) ?_ ?_
    ·have e: (if (m:Int) >1 then (m:Int)else 1)=((max 1 m:Nat):Int):=by split <;> omega
     have b9:=Ey (one%2147483629*40692+ (1+5) * (1+5) *30269) (b:=2147483399) Aa;refine⟨_,rfl,one,1,rfl,Aa,Aa,_,rfl,_,_,rfl,bg one 1,max 1 m,(by show [V.int (bg one 1),V.int (if (m:Int) >1 then (m:Int)else 1)]=_;rw[e]),b9.1,Int.lt_trans b9.2 Aa,by omega,λts i2 f1 tl H8 i3 s8 e8=>⟨tl,ts,i2,f1,s8,e8,rfl⟩⟩
    rintro l H8 ⟨tl,ts,i2,f1,s8,i3,rfl⟩;refine⟨zl 0,λrl i8=>?_⟩;have I:BC H' H8:=((s5.trans s6).trans s7).trans s8;have d7:=s8 _ _ d4;have g4:Ws.length=k:=by rw[<-hok.len];exact hgl
    refine Df (λl o=>∃fs vs a1 a0,l=sS sc n nl sl wl (some (.int (0+ (k:Int)))) (some (.int one)) (some (.bl c)) (some (.int (m:Int))) (some (.ref ml)) (some (.ref tl)) (some (.ref rl)) a1 a0 O/\fs.length=m/\LC one k Ws c ms ts fs/\BC H8 o/\o rl=some (.lst vs)/\Paired (UR (rm [sl,wl,rl] o)) fs vs) ?_ ?_
    ·refine⟨_,rfl,(m:Int),rfl,by omega,by omega,?_⟩;rw[show((m:Int)).toNat=m by omega];refine UL (λj l o=>∃fs vs a1 a0,l=sS sc n nl sl wl (some (.int (0+ (k:Int)))) (some (.int one)) (some (.bl c)) (some (.int (m:Int))) (some (.ref ml)) (some (.ref tl)) (some (.ref rl)) a1 a0 O/\fs.length=j/\LC one k Ws c ms ts fs/\BC H8 o/\o rl=some (.lst vs)/\Paired (UR (rm [sl,wl,rl] o)) fs vs) ⟨[],[],j0,S,rfl,rfl,LC.nil,BM i8,AX,.nil⟩ (λj l o hj h=>?_) (λl o h=>h);obtain⟨fs,vs,a1,a0,rfl,M,f4,B,J,b8⟩:=h;have c2:ms[j]?=some (ms[j]'(by omega)):=AW _;have i4:ts[j]?=some (ts[j]'(by omega)):=AW _;have b9:=Ey (one%2147483629*40692+ (0+ (j:Int) +2+5) * (0+ (j:Int) +2+5) *30269) (b:=2147483399) Aa;refine⟨_,rfl,_,rfl,_,_,rfl,rfl,one,0+ (j:Int) +2,rfl,by omega,by omega,_,rfl,_,rfl,ml,_,_,_,rfl,rfl,Dk.of (B _ _ d7),wd (v:=.int (ms[j]'(by omega))) (by rw[Bj,c2];rfl),_,rfl,_,rfl,tl,_,_,_,rfl,rfl,Dk.of (B _ _ i3),wd (v:=.str (ts[j]'(by omega))) (by rw[Bj,i4];rfl),_,rfl,_,rfl,_,rfl,bg one (0+ (j:Int) +2),ms[j]'(by omega),ts[j]'(by omega),k,wl,Ws,c,(by show [V.int (bg one (0+ (j:Int) +2)),V.int (ms[j]'(by omega)),V.str (ts[j]'(by omega)),V.int (0+ (k:Int)),V.ref wl,V.bl c]=_;rw[LK (k:Int)]),B _ _ (I _ _ a8),g4,b9.1,Int.lt_trans b9.2 Aa,λf e1 e2 j8 l6 u k2 b5 hz=>?_⟩;have hL:∀a∈ [sl,wl,rl],∃xs,o a=some (.lst xs):=λa ha=>by
      simp only[BK,Cq,or_false]at ha;rcases ha with rfl|rfl|rfl
      ·exact⟨_,B _ _ (I _ _ b6)⟩
      ·exact⟨_,B _ _ (I _ _ a8)⟩
      ·exact⟨_,J⟩
     have l0:fs.length=vs.length:=b8.length;refine⟨_,rfl,.inl ⟨rfl,_,Dk.of (b5 _ _ J)⟩,_,rfl,rl,vs,u,rfl,rfl,b5 _ _ J,Ea (by omega),fs++[f],vs++[u],_,_,rfl,by rw[Bh,M];rfl,?_,(B.trans b5).put i8,AX,?_⟩
     ·refine f4.snoc (by rw[M,e1];exact c2) (by rw[M,e2];exact i4) j8 λz hz=>?_;have:=l6 z hz;rw[LK]at this;rw[M];exact A32 this
     ·have sr:BC (rm [sl,wl,rl] k2) (rm [sl,wl,rl] (upd k2 rl (.lst (vs++[u])))):=lM (by simp);refine MK (L2.Paired.imp' (λ_ _ z=>z.sm (Sm.of ((Wx b5).trans sr))) b8) (.cons ?_ .nil);exact(hz.rm hL b5 (j8.dfl.imp id λz=>z.2.2)).sm (Sm.of sr)
    rintro l o ⟨fs,vs,a1,a0,rfl,M,f4,B,J,b8⟩;obtain⟨nm,e7⟩:∃nm,zs[k]?=some nm:=⟨_,AW (by omega)⟩;have f7:o nl=some (.lst (zs.map V.str)):=B _ _ (I _ _ (s4 _ _ j1));have c1:=B _ _ d7;refine Df (λl c6=>∃(fm gl:Ba) (go:List Int),l=sS sc n nl sl wl (some (.int (0+ (k:Int)))) (some (.int one)) (some (.bl c)) (some (.int (m:Int))) (some (.ref ml)) (some (.ref tl)) (some (.ref rl)) a1 a0 (some (.ref fm))/\o fm=none/\o gl=none/\go.Perm (ms.drop m)/\BC o c6/\c6 gl=some (.lst (go.map V.int))/\c6 fm=some (.dK (Z6 (.str (nm)) (.bl c) (.ref gl)))) ?_ ?_
    ·refine λp hp=>?_;have t0:BC o (upd o p (.dK [])):=BM hp;refine⟨_,rfl,_,rfl,nl,_,_,_,rfl,rfl,Dk.of (t0 _ _ f7),wd (v:=.str (nm)) (by rw[Bj,e7];rfl),_,rfl,_,rfl,_,rfl,_,rfl,ml,_,rfl,Dk.of (t0 _ _ c1),λpS l2=>?_⟩;have t1:=BM (u:=.lst (MR (ms.map V.int) (some (m:Int)) none)) l2;refine⟨pS,ms.drop m,rfl,Dk.of (by rw[AX,vG rfl,List.map_drop]),by rw[GX];omega,λgl hgl=>?_⟩;have t2:=BM (u:=.lst ((Gy (ms.drop m)).map V.int)) hgl;refine⟨t2 _ _ (t1 _ _ AX),Z6 (.str (nm)) (.bl c) (.ref gl),rfl,by show 3<=15;decide,p,gl,_,rfl,hp,t0.free (t1.free hgl),PySem.W.sortI_perm _,((t0.trans t1).trans t2).put hp,?_,?_⟩
     ·rw[Bo]
      ·exact AX
      ·rintro rfl;rw[t1 _ _ AX]at hgl;cases hgl
     ·rw[AX,Q8]
    rintro l c6 ⟨fm,gl,go,rfl,L,b0,l5,b4,a7,c5⟩;have l0:fs.length=vs.length:=b8.length;have f9:=b4 _ _ c1;have f5:=b4 _ _ J;refine Df (λl N=>∃(fl:Ba) (js:List Nat),js.Perm (Bz m)/\l=sS sc n nl sl wl (some (.int (0+ (k:Int)))) (some (.int one)) (some (.bl c)) (some (.int (m:Int))) (some (.ref ml)) (some (.ref tl)) (some (.ref rl)) a1 a0 (some (.ref fm))/\c6 fl=none/\BC o N/\N gl=some (.lst (go.map V.int))/\N fl=some (.lst (js.map λj=>vs.getD j .non))/\N fm=some (.dK (iS ⟨nm,c,go,js.map λj=>fs.getD j vE⟩ gl fl))) ?_ ?_
    ·refine⟨_,rfl,(m:Int),rfl,by omega,by omega,?_⟩;rw[show((m:Int)).toNat=m by omega];refine jX (Wk.rng 0 m) (by rw[AV,Bw];omega) (λj H y=>∃t,y= .ref t/\H t=some (.tup [.int (ms.getD j 0),.int (0+ (j:Int))])) (λi H H' v s j7=>(by obtain⟨t,e,h⟩:=j7;exact⟨t,e,s _ _ h⟩)) (λi H D zs us v hD j6=>(by obtain⟨t,e,h⟩:=j6;exact⟨t,e,by rw[Bo (λz=>by rw[z,hD]at h;cases h)];exact h⟩)) (λj x hx H2 R s2 hR=>?_) (λD1 d5 ys p3 e5 m1 e9 k8=>?_)
     ·obtain⟨rfl,hj⟩:=On hx;have c2:ms[j]?=some (ms[j]'(by omega)):=AW _;refine⟨Sub.set rfl,_,rfl,_,rfl,ml,_,_,_,rfl,rfl,Dk.of (s2 _ _ f9),wd (v:=.int (ms[j]'(by omega))) (by rw[Bj,c2];rfl),_,rfl,zl 2,λt ht=>hR _ _ (BM ht) ⟨t,rfl,?_⟩⟩;rw[AX,BD,c2];rfl
     ·obtain⟨tt,rfl,i1⟩:=yr (P:=λi t=>d5 t=some (.tup [.int (ms.getD i 0),.int (0+ (i:Int))])) ys k8;rw[AV,AV,Bw]at e9;refine⟨D1,tt,rfl,m1,λt ht=>?_,by omega,λD2 e3 l9 pt=>?_⟩
      ·obtain⟨i,hi⟩:=DW.mp ht;exact⟨_,_,i1 i t hi⟩
      ·have t2:BC d5 (upd d5 D2 (.lst (e3.map V.ref))):=BM l9;obtain⟨js,pj,hj⟩:=L2.Paired.perm pt.symm (fL (R:=λi t=>d5 t=some (.tup [.int (ms.getD i 0),.int (0+ (i:Int))])) tt i1);rw[e9]at pj;have l4:js.length=e3.length:=hj.length;have m7:e3.length=m:=by rw[pt.length_eq,e9]
       refine⟨D2,rfl,⟨_,Dk.of AX⟩,Du (Wk.list (Dk.of AX)) (by rw[AV];omega) (λi=>match js[i]? with|some j=>vs.getD j .non|none=>.non) (λi x hx g9 R d2 hR=>?_) (λfl g9 M d2 g6=>?_)⟩
       ·rw[Bj]at hx;obtain⟨t,ht,rfl⟩:=BS.mp hx;obtain⟨j,j5,i0⟩:=Gf hj i t ht;have o8:j<m:=DJ.mp (pj.mem_iff.mp (Bp j5));have h9:vs[j]?=some (vs[j]'(by omega)):=AW _;have j9:R (vs.getD j .non) g9:=by
         have:=hR g9 λ_ _ e=>e;rw[j5]at this;exact this
        refine⟨t,_,rfl,Hm.of (d2 _ _ (t2 _ _ i0)),rfl,_,_,rfl,_,_,rfl,rfl,(Sub.set rfl).trans (Sub.set rfl),_,rfl,_,rfl,rl,_,_,_,rfl,rfl,Dk.of (d2 _ _ (t2 _ _ (e5 _ _ f5))),wd h9,?_⟩;rw[show vs.getD j .non=vs[j]'(by omega)by rw[BD,h9];rfl]at j9;exact j9
       ·have a2:=(e5.trans t2).trans d2;have c4:=a2 _ _ c5;refine⟨_,rfl,fm,_,rfl,bp.k (k:=.inr "fields") c4 (by show 3<sizeLine;decide),fl,js,pj,rfl,e5.free (t2.free M),(b4.trans a2).put L,?_,?_,?_⟩
        ·rw[Bo (λz=>by rw[z,c5]at a7;cases a7)];exact a2 _ _ a7
        ·rw[Bo (λz=>by rw[z,c4]at g6;cases g6),g6,AV,<-l4,HS js (λj=>vs.getD j .non) _ (λi d hd=>by rw[hd])]
        ·rw[AX,<-A1S]
    rintro l N ⟨fl,js,pj,rfl,b1,b3,g1,g3,g2⟩;have j4:∀j∈js,j<fs.length:=λj hj=>by rw[M];exact DJ.mp (pj.mem_iff.mp hj)
    have f6: (js.map λj=>fs.getD j vE).Perm fs:=qG fs vE (by rw[M];exact pj);have a9:A8 k Ws ⟨nm,c,go,js.map λj=>fs.getD j vE⟩:=f4.gok (by omega) (by rw[M];exact l3) f1 f8 (by omega) f6 (by rw[M];exact l5);have b7:=b3 _ _ (B _ _ (I _ _ b6));have f0:=b3 _ _ (B _ _ (I _ _ a8));have n0:gs.length=as.length:=hpa.length;refine⟨_,rfl,.inl ⟨rfl,_,Dk.of b7⟩,_,rfl,sl,_,.ref fm,rfl,rfl,b7,Ea (by rw[AV];omega),?_⟩;have a6:=B _ _ (I _ _ b6);have a5:=B _ _ (I _ _ a8);have e6:∀{b:Ba},b≠sl->b≠wl->b∉ [sl,wl]:=λh1 h2 z=>by
     simp only[BK,Cq,or_false]at z;exact z.elim h1 h2
    have d9:Mf (rm [sl,wl] N) ⟨nm,c,go,js.map λj=>fs.getD j vE⟩ (.ref fm):=by
     refine⟨fm,gl,fl,_,rfl,Tf (e6 (λz=>?_) (λz=>?_)) g2,Tf (e6 (λz=>?_) (λz=>?_)) g1,Tf (e6 (λz=>?_) (λz=>?_)) g3,?_⟩
     ·rw[z,a6]at L;cases L
     ·rw[z,a5]at L;cases L
     ·rw[z,a6]at b0;cases b0
     ·rw[z,a5]at b0;cases b0
     ·rw[z,b4 _ _ a6]at b1;cases b1
     ·rw[z,b4 _ _ a5]at b1;cases b1
     ·exact oM (L2.Paired.imp' (λ_ _ z=>z.sm (Sm.of ((Wx b3).trans (ym (by intro a ha;simp only[BK,Cq,or_false]at ha ⊢;rcases ha with h|h <;> simp[h]))))) b8) vE .non js j4
    have sa:BC (rm [sl,wl] N) (rm [sl,wl] (upd N sl (.lst (as.map V.ref++[.ref fm])))):=lM (by simp);have a4:upd N sl (.lst (as.map V.ref++[.ref fm])) wl=some (.lst (Ws.map V.int)):=by rw[Bo (DP f2)];exact f0
    have g0:Ws.length<=6:=by omega
    have c3:A8 Ws.length Ws ⟨nm,c,go,js.map λj=>fs.getD j vE⟩:=by rw[g4];exact a9
    have h7:=bE hW c3;refine⟨_,rfl,.inl ⟨rfl,_,Dk.of a4⟩,_,rfl,_,rfl,.ref fm,⟨nm,c,go,js.map λj=>fs.getD j vE⟩,wl,Ws,rfl,d9.sm (Sm.of (sa.trans um)),a4,hW.bd g0,λf hf=>(c3.fs f hf).kind,Cp a9.len Aa,a9.ne,λk1 d1=>?_⟩;have sb:BC (rm [sl,wl] k1) (rm [sl,wl] (upd k1 wl (.lst (Ws.map V.int++[.int (IW Ws c (js.map λj=>fs.getD j vE))])))):=lM (by simp);have h4:=(sa.trans (Wx d1)).trans sb;refine⟨wl,_,_,rfl,rfl,d1 _ _ a4,Ea (by rw[AV,g4];omega),.mk (gs:=gs++[⟨nm,c,go,js.map λj=>fs.getD j vE⟩]) (Ws:=Ws++[IW Ws c (js.map λj=>fs.getD j vE)]) (as:=as++[fm]) (hok.snoc (by rw[hgl];exact a9) ?_) (by rw[Bh,hgl];rfl) ?_ ?_ ?_ ?_ ?_ ?_ ?_ (hW.snoc h7.1 h7.2) ?_⟩
    ·rw[Cr,hnm,BV,Gs];have:zs.take k++[nm]=zs.take (k+1):=by rw[Ml,e7];rfl
     rw[this];exact h5.take _
    ·rw[Cr,hnm,BV,Gs,Ml,e7];rfl
    ·intro g' e;rcases Lf e with e|⟨e,rfl⟩
     ·rw[CW (by omega)]at e;cases e
     ·cases l7:c with
      |false=>rfl
      |true=>have:=hc l7;omega
    ·intro a ha;rcases Cg.mp ha with ha|ha
     ·exact has a ha
     ·rw[Bu.mp ha];exact s4.free (I.free (B.free L))
    ·refine Gr.mpr ⟨hnd,List.pairwise_singleton _ _,λa ha b hb z=>?_⟩;rw[Bu.mp hb]at z;obtain⟨i,hi⟩:=DW.mp ha;obtain⟨g',_,a',p4,p5,n2,e',l8,_⟩:=Gf hpa i a hi;cases e';have:=B _ _ (I _ _ (Te l8).2);rw[z,L]at this;cases this
    ·have sH:BC H1 (upd N sl (.lst (as.map V.ref++[.ref fm]))):=(((s4.trans I).trans B).trans b3).put hsl;exact(sH.trans d1).put h8
    ·rw[Bo f2,d1 _ _ AX,Cr];rfl
    ·rw[AX,Cr];rfl
    ·exact MK (L2.Paired.imp' (λ_ _ z=>z.sm (Sm.of ((Wx ((I.trans B).trans b3)).trans h4))) hpa) (.cons (d9.sm (Sm.of h4)) .nil)
  rintro l H2 @⟨_,gs,Ws,as,k,one,c,cnt,ml,tl,rl,j,fh,fm,hok,hgl,hnm,hlast,has,hnd,s2,i6,m6,hW,hpa⟩;exact⟨_,rfl,q gs Ws as sl H2 hok (by omega) (by omega) (by rw[hgl];exact hlast) (s1.free hsl) (λa ha=>s1.free (has a ha)) hnd (s1.trans s2) i6 (L2.Paired.imp' (λ_ _ z=>z.sm (Sm.of um)) hpa)⟩
def DQ(g:SG):SG:={g with fields:=g.fields.take 6}
def iH(K:Be):Sp:=λvs H Q _=>∃(a:Ba) (ns:List Int),vs=[.ref a]/\Dk K H a (ns.map V.int)/\∀gs Ws as l H',Gn gs Ws->1<=gs.length->gs.length<=6->(∀g,gs[gs.length - 1]?=some g->g.choice=false)->BC H H'->H' l=some (.lst (as.map V.ref))->Paired (λg a=>Mf H' g (.ref a)) (gs.map DQ) as->Q (.ref l) H'
theorem N9{f:SF}{a b:V}{g:SG}{gl fl:Ba}:bM f a b≠iS g gl fl:=λe=>by
 have:=A37 List.length e;cases this
theorem UR.updD{H:Hp}{a gl fl:Ba}{g:SG}{o:HO}(ha:H a=some (.dK (iS g gl fl))){f:SF}{v:V}(hd:f.dfl=Ep f.kind\/OJ f.kind f.dfl):UR H f v->UR (upd H a o) f v
 |⟨b,c,d,e,h,h1,h2⟩=>by
  refine⟨b,c,d,e,?_,mR ha h1,?_⟩
  ·rw[Bo]
   ·exact h
   ·rintro rfl;rw[ha]at h;injection h with h;injection h with h;exact N9 h.symm
  ·rcases hd with hd|hd
   ·rw[hd]at h2 ⊢;exact kl ha h2
   ·exact wj hd h2
theorem Mf.updD{H:Hp}{a gl fl:Ba}{g:SG}{o:HO}(ha:H a=some (.dK (iS g gl fl))){g':SG}{b:Ba}(j:b≠a)(hd:∀f∈g'.fields,f.dfl=Ep f.kind\/OJ f.kind f.dfl):Mf H g' (.ref b)->Mf (upd H a o) g' (.ref b)
 |⟨m,d,i,xs,e,h,h1,h2,h3⟩=>by
  cases e;have ne:∀{c:Ba} {ys:List V},H c=some (.lst ys)->upd H a o c=some (.lst ys):=λe=>by
   rw[Bo]
   ·exact e
   ·rintro rfl;rw[ha]at e;cases e
  refine⟨b,d,i,xs,rfl,by rw[Bo j];exact h,ne h1,ne h2,?_⟩;clear h h1 h2 ne j;generalize g'.fields=fs at hd h3;induction h3 with
  |nil=>exact .nil
  |cons x r k=>exact .cons (x.updD ha (hd _ (.head _))) (k λf l=>hd f (.tail _ l))
theorem A03(g g':SG)(gl fl a:Ba)(h1:g'.nam=g.nam)(h2:g'.choice=g.choice):Jp (iS g gl fl) (.inr "fields") (.ref a)=iS g' gl a:=by
 unfold iS;rw[h1,h2];kernel_rfl
theorem fG{c b:Type}{R:c->b->Prop}:∀{l:List c} {m:List b} (n:Nat),Paired R l m->Paired R (l.take n) (m.take n)
 |_,_,0,_=>by rw[List.take_zero,List.take_zero];exact .nil
 |_,_,n+1,.nil=>.nil
 |_,_,n+1,.cons a r=>.cons a (fG n r)
def KQ(i:Nat)(gs:List SG):List SG:=(gs.take i).map DQ++gs.drop i
theorem vJ{i j:Nat}{gs:List SG}{g:SG}(h: (KQ i gs)[j]?=some g):∃a,gs[j]?=some a/\(g=a\/g=DQ a):=by
 unfold KQ at h;by_cases b:j<min i gs.length
 ·rw[CU (by rw[AV,Bt];exact b),Bj,Da (by omega)]at h;obtain⟨a,c,e⟩:=BS.mp h;exact⟨a,c,.inr e.symm⟩
 ·rw[CB (by rw[AV,Bt];omega),AV,Bt,List.getElem?_drop]at h;by_cases hi:i<=gs.length
  ·rw[show i+ (j - min i gs.length)=j by omega]at h;exact⟨g,h,.inl rfl⟩
  ·rw[CW (by omega)]at h;cases h
theorem Rp{i:Nat}{gs:List SG}{g:SG}(h:gs[i]?=some g):KQ i gs=(gs.take i).map DQ++g::gs.drop (i+1)/\KQ (i+1) gs=(gs.take i).map DQ++DQ g::gs.drop (i+1):=by
 have hi:i<gs.length:=(Bi.mp h).1;have e:gs[i]'hi=g:=by rw[AW hi]at h;exact AR h
 unfold KQ;constructor
 ·rw[Gh hi,e]
 ·rw[Ml,h,Cr,Gu];rfl
theorem Kq{d c:Type}{R:d->c->Prop}:∀{l:List d} {m:List c},l.length=m.length->(∀(i:Nat) x y,l[i]?=some x->m[i]?=some y->R x y)->Paired R l m
 |[],[],_,_=>.nil
 |x::l,y::m,e,h=>.cons (h 0 x y rfl rfl) (Kq (HB e) λi a b h1 h2=>h (i+1) a b (by simpa using h1) (by simpa using h2))
theorem rB(i:Nat)(gs:List SG): (KQ i gs).length=gs.length:=by
 unfold KQ;rw[Bh,AV,Bt,GX];omega
theorem vH{i j:Nat}{gs:List SG}{g:SG}(a:gs[i]?=some g)(h:j≠i): (KQ (i+1) gs)[j]?=(KQ i gs)[j]?:=by
 obtain⟨e,c⟩:=Rp a;have hi:i<gs.length:=(Bi.mp a).1;have b: ((gs.take i).map DQ).length=i:=by rw[AV,Bt];omega
 rw[e,c];by_cases f:j<i
 ·rw[CU (by omega),CU (by omega)]
 ·rw[CB (by omega),CB (by omega),b];obtain⟨d,hd⟩:∃d,j - i=d+1:=⟨j - i - 1,by omega⟩;rw[hd,List.getElem?_cons_succ,List.getElem?_cons_succ]
theorem vI{i:Nat}{gs:List SG}{g:SG}(a:gs[i]?=some g): (KQ (i+1) gs)[i]?=some (DQ g)/\(KQ i gs)[i]?=some g:=by
 obtain⟨d,c⟩:=Rp a;have hi:i<gs.length:=(Bi.mp a).1;have b: ((gs.take i).map DQ).length=i:=by rw[AV,Bt];omega
 rw[d,c,CB (by omega),CB (by omega),b,Nat.sub_self];exact⟨rfl,rfl⟩
theorem LZ{a:Type}{l:List a}(h:l.Nodup){i j:Nat}{x:a}(hi:l[i]?=some x)(b:l[j]?=some x):i=j:=by
 obtain⟨h1,d⟩:=Bi.mp hi;obtain⟨h2,c⟩:=Bi.mp b;exact(List.getElem_inj h).mp (d.trans c.symm)
theorem uJ(T:Tx K mg):Cm P w K mg base DS 7 958 (Br K 958) AH (iH K):=by
 have v:Cm P w K mg base DS 6 920 (Br K 920) AD (nU K):=yB T;refine T.nz.ok XT (λvs H Q E h=>?_) (λcdv A outer s H vs Q E hr h=>?_)
 ·obtain⟨a,ns,rfl,_⟩:=h;rfl
 ·obtain⟨sc,ns,rfl,U,q⟩:=h;have hu:=hr.units;have L:=Cp (Cy (show 1<=64 by decide) _) hu;refine⟨_,BW (Ct (i:=1) XT.nd rfl (BP rfl) (BX v (hr.mono Aa) rfl T.E9 T.sK T.K2 .nil BR (AS (pv 0) (AS Bc (AS Bc AZ))))) (BE (Ri JN rfl (Ez (pv 1)) (CN (i:=2) XT.nd rfl (BP rfl)) (Bk (Pk L (pv 2) Bs (HG Pg (CT L (pv 2) Bs (λ_ _=>rfl)) Jb (Ja Bc)) rfl))) (Bk (BH (pv 1)))),?_⟩;refine⟨_,rfl,sc,ns,rfl,U,λgs Ws as l H1 hok h1 h6 hlast b0 has hnd s1 M hpa=>?_⟩;have m:gs.length=as.length:=hpa.length;refine Df (λb H'=>∃J,b=[some (.ref sc),some (.ref l),J]/\BC H H'/\H' l=some (.lst (as.map V.ref))/\Paired (λg a=>Mf H' g (.ref a)) (KQ gs.length gs) as) ?_ ?_
  ·refine⟨_,rfl,l,rfl,⟨_,Dk.of M⟩,?_⟩;refine vu (xs:=as.map V.ref) (λi b H'=>∃J,b=[some (.ref sc),some (.ref l),J]/\BC H H'/\H' l=some (.lst (as.map V.ref))/\Paired (λg a=>Mf H' g (.ref a)) (KQ i gs) as) ⟨none,rfl,s1,M,hpa⟩ (λi b H' _ h=>by obtain⟨_,_,_,e,_⟩:=h;exact Dk.of e) (λi x b H' B h=>?_) (λb H' h=>?_)
   ·obtain⟨J,rfl,s2,n,d⟩:=h;rw[Bj]at B;obtain⟨a,ha,rfl⟩:=BS.mp B;have hi:i<gs.length:=by rw[m];exact(Bi.mp ha).1
    have N:gs[i]?=some (gs[i]'hi):=AW hi;generalize gs[i]'hi=g at N;obtain⟨e1,e2⟩:=Rp N;have W:A8 i (Ws.take i) g:=hok.ok i g N;have dflt:∀(j:Nat) g',(KQ i gs)[j]?=some g'->∀f∈g'.fields,f.dfl=Ep f.kind\/OJ f.kind f.dfl:=λj g' hj f I=>by
     obtain⟨g0,h0,h⟩:=vJ hj;have a0:f∈g0.fields:=by
      rcases h with rfl|rfl
      ·exact I
      ·exact CA I
     exact((hok.ok j g0 h0).fs f a0).dfl.imp id λz=>z.2.2
    obtain⟨g',X,a',gl,fl,xs,ea,hA,hgl,Z,Y⟩:=Gf d i a ha;cases ea;obtain⟨q1,q2⟩:=vI N;obtain rfl:g'=g:=AR (X.symm.trans q2);refine⟨_,rfl,a,_,rfl,Gc hA,_,rfl,fl,xs,rfl,Dk.of Z,λp hp=>?_⟩;have G:=BM (u:=.lst (MR xs none (some 6))) hp;have t:=G _ _ hA;refine⟨_,rfl,a,_,rfl,bp.k (k:=.inr "fields") t (by show 4<sizeLine;decide),_,rfl,?_,?_,?_⟩
    ·have hH:H a=none:=has a (Bp ha);exact(s2.trans G).put hH
    ·rw[Bo (λz=>by rw[z,hA]at n;cases n)];exact G _ _ n
    ·refine Kq (by rw[rB];exact m) λj x y B O=>?_;by_cases C:j=i
     ·subst C;obtain rfl:x=DQ g':=AR (B.symm.trans q1);obtain rfl:y=a:=AR (O.symm.trans ha);have ne:∀{c:Ba} {ys:List V} {o:HO},upd H' p (.lst (MR xs none (some 6))) c=some (.lst ys)->upd (upd H' p (.lst (MR xs none (some 6)))) y o c=some (.lst ys):=λe=>by
       rw[Bo]
       ·exact e
       ·rintro rfl;rw[t]at e;cases e
      refine⟨y,gl,p,xs.take 6,rfl,?_,ne (G _ _ hgl),?_,?_⟩
      ·rw[AX];rw[A03 g' (DQ g') gl fl p rfl rfl]
      ·refine ne ?_;rw[AX,show(6:Int)=((6:Nat):Int)from rfl,OG rfl]
      ·have D:Paired (UR (upd H' p (.lst (MR xs none (some 6))))) (g'.fields.take 6) (xs.take 6):=fG 6 (L2.Paired.imp' (λ_ _ z=>z.sm (Sm.of G)) Y);have F:∀f∈g'.fields.take 6,f.dfl=Ep f.kind\/OJ f.kind f.dfl:=λf I=>(W.fs f (CA I)).dfl.imp id λz=>z.2.2;show Paired _ (g'.fields.take 6) _;generalize g'.fields.take 6=fs at D F;generalize xs.take 6=us at D;induction D with
       |nil=>exact .nil
       |cons x r ih=>exact .cons (x.updD t (F _ (.head _))) (ih λf I=>F f (.tail _ I))
     ·rw[vH N C]at B;obtain⟨x',S,R⟩:=Gf d j y O;obtain rfl:x=x':=AR (B.symm.trans S);exact(R.sm (Sm.of G)).updD t (λz=>C (by rw[z]at O;exact LZ hnd O ha)) (dflt j x B)
   ·rw[AV,<-m]at h;exact h
  rintro b H' ⟨J,rfl,s2,n,d⟩;refine⟨_,rfl,q gs Ws as l H' hok h1 h6 hlast s2 n ?_⟩;unfold KQ at d;rw[DU,List.drop_length,De]at d;exact d
def Ll(gs:List SG)(i:Nat):Bx:=((gs[i]?).map (·.nam)).getD ""
def Kf(gs:List SG):Lk->Kx
 |.truth=>.truth
 |.count=>.count
 |.whole=>.whole
 |.upto n=>.upto (.int n)
 |.text n=>.text (.int n)
 |.form i=>.form (.str (Ll gs i))
 |.list k=>.list (Kf gs k)
def YW(H:Hp)(gs:List SG)(v:V):Prop:=∃l as,v= .ref l/\H l=some (.lst (List.map V.ref as))/\Paired (λg a=>Mf H g (.ref a)) gs as
theorem YW.sm{H H':Hp}(s:Sm H H'){gs:List SG}{v:V}:YW H gs v->YW H' gs v
 |⟨l,as,e,h,p⟩=>⟨l,as,e,s _ _ h rfl,L2.Paired.imp' (λ_ _ z=>z.sm s) p⟩
theorem YW.at{H:Hp}{gs:List SG}{v:V}(h:YW H gs v){i:Nat}{g:SG}(hi:gs[i]?=some g):∃l as a,v= .ref l/\H l=some (.lst (List.map V.ref as))/\as[i]?=some a/\Mf H g (.ref a):=by
 obtain⟨l,as,e,d,p⟩:=h;have c:gs.length=as.length:=p.length;have f:i<gs.length:=(Bi.mp hi).1;have ha:as[i]?=some (as[i]'(by omega)):=AW _;obtain⟨g',b,r⟩:=Gf p i _ ha;obtain rfl:g=g':=AR (hi.symm.trans b);exact⟨l,as,_,e,d,ha,r⟩
def Oc(gs:List SG)(k:Lk):Sp:=λvs H Q _=>∃v sv,vs=[v,sv]/\TL H k v/\YW H gs sv/\EA (gs.map (·.nam))/\k.ok gs.length/\∀u H',BC H H'->Rx H' (Kf gs k) u->Q u H'
theorem A08{n:Nat}{k:Lk}(h: (Lk.list k).ok n):k.ok n:=by
 rcases h with h|⟨i,rfl,h⟩
 ·cases k with
  |form i=>exact h.elim
  |list j=>exact h.elim
  |_=>exact h
 ·exact h
theorem pz{k:Nat}{f:Ba}{fd:Ek}{ps:List Bx}:Cm P w K mg base DS k f fd ps (λ_ _ _ _=>False):=⟨λ_ _ _ _ h=>h.elim,λ_ _ _ _ _ _ _ _ _ _ _ _ _ _ _ h=>h.elim⟩
theorem QB(T:Tx K mg){r:Nat}{o:Sp}(G:Cm P w K mg base DS (r+1) 927 (Br K 927) AE o){gs:List SG}{k:Lk}(N:∀I,k= .list I->∀vs H Q E,Oc gs I vs H Q E->o vs H Q E):
  Cm P w K mg base DS (r+3) 927 (Br K 927) AE (Oc gs k):=by
 obtain⟨J,D⟩:=TK T;have S:CQ [V.int 100] [HK 100 J]:=.cons ⟨_,rfl⟩ .nil;refine T.Vh.ok fu (λvs H Q E h=>?_) (λcdv A outer s H vs Q E y h=>?_)
 ·obtain⟨v,sv,rfl,_⟩:=h;rfl
 ·obtain⟨v,sv,rfl,g,hs,hn,hok,q⟩:=h;have Kr:Fm (1+1) _:=y.mono (by omega);have L:=y.units;have p:=Cp (Cy (show 1<=64 by decide) _) L;refine⟨_,BW (CV (CK Gg (Dp Ft (pv 0) Bc (λ_ _=>rfl)) Bs (Dc _)) (Bk (BH (Dy ⟨T.Pa,T.IF,T.ID,T.OX⟩ (HX T) Kr rfl T.Mr T.II .nil BR (AS (BX G (y.mono (by omega)) rfl T.Vc T.NN T.Vn .nil BR (AS (Dp Ft (pv 0) Bc (λ_ _=>rfl)) (AS (pv 1) AZ))) AZ)))) Ci) (BW (CV (CK Gg (Dp Ft (pv 0) Bc (λ_ _=>rfl)) Bs (Dc _)) (Bk (BH (Dy ⟨T.Ko,T.Hg,T.GY,T.Km⟩ (Gk T) Kr rfl T.HQ T.Hh .nil BR (AS (CT p (Dp Dz (pv 1) (Dp Ft (pv 0) Bc (λ_ _=>rfl)) (λ_ _=>rfl)) Bs (λ_ _=>rfl)) AZ)))) Ci) (BW (CV (CK Gg (Dp Ft (pv 0) Bc (λ_ _=>rfl)) Bs (Dc _)) (Bk (BH (Dy ⟨T.OZ,T.IE,T.IB,T.OW⟩ (HW T) Kr rfl T.Mq T.IH .nil BR (AS (Dp Ft (pv 0) Bc (λ_ _=>rfl)) AZ)))) Ci) (BW (CV (CK Gg (Dp Ft (pv 0) Bc (λ_ _=>rfl)) Bs (Dc _)) (Bk (BH (KL (CK Gg (Dp Ft (pv 0) Bc (λ_ _=>rfl)) Bc (Dc _)) (jh ⟨T.Kc,T.FS,T.FR,T.Kb⟩ (Fs T) Kr rfl T.IU D S BR) (Dy ⟨T.Kc,T.FS,T.FR,T.Kb⟩ (Fs T) Kr rfl T.IU (Ji T) .nil BR (AS (Dp Ft (pv 0) Bc (λ_ _=>rfl)) AZ))))) Ci) (BW (CV (CK Gg (Dp Ft (pv 0) Bc (λ_ _=>rfl)) Bs (Dc _)) (Bk (BH (Ti T.Fb T.Dv T.Fa rfl T.EN))) Ci) (Bk (BH (KL (CK Gg (Dp Ft (pv 0) Bc (λ_ _=>rfl)) Bs (Dc _)) (Ti T.NL T.IV T.NK rfl T.LM) (Ti T.hY T.Sa T.hV rfl T.Xe)))))))),?_⟩;have new:∀(C:Ba) (fs:List (Bx×V)) (x dx:Ba),H x=none->H dx=none->dx≠x->BC H (upd (upd (upd H dx (.own x)) x (.ins C dx [])) x (.ins C dx fs)):=λC fs x dx e c b=>by
   rw[Fo];refine(BM c).trans (BM ?_);rw[Bo (DP b)];exact e
  have f:∀(C:Ba) (x dx:Ba),H x=none->H dx=none->dx≠x->BC H (upd (upd H dx (.own x)) x (.ins C dx [])):=λC x dx e c b=>by
   refine(BM c).trans (BM ?_);rw[Bo (DP b)];exact e
  cases k with
  |upto n=>
   obtain⟨t,rfl,d⟩:=g;refine⟨_,rfl,t,_,_,_,rfl,rfl,Hm.of d,LB,rfl,_,rfl,Ia Ab ?_⟩;refine⟨_,rfl,t,_,_,_,rfl,rfl,Hm.of d,LB,rfl,_,rfl,Ia Ab ?_⟩;refine⟨_,rfl,t,_,_,_,rfl,rfl,Hm.of d,LB,rfl,_,rfl,Wn rfl ?_⟩;refine⟨_,rfl,t,_,_,_,rfl,rfl,Hm.of d,wc,λx dx e c b=>⟨x,dx,_,rfl,AX,rfl,?_⟩⟩;exact q _ _ (new 443 _ x dx e c b) ⟨x,dx,_,rfl,AX,rfl⟩
  |form i=>
   obtain⟨t,rfl,d⟩:=g;have hi:i<gs.length:=hok;have B:gs[i]?=some (gs[i]'hi):=AW hi;have hnm:Ll gs i=(gs[i]'hi).nam:=by unfold Ll;rw[B];rfl
   obtain⟨l,as,a,rfl,M,ha,U,gl,fl,xs,R,O,_⟩:=hs.at B;cases R;have z:=(HY (hn.ok _ (Bm.mpr ⟨_,Bp B,rfl⟩)).1).2.1;refine⟨_,rfl,t,_,_,_,rfl,rfl,Hm.of d,LB,rfl,_,rfl,Ia Ab ?_⟩;refine⟨_,rfl,t,_,_,_,rfl,rfl,Hm.of d,LB,rfl,_,rfl,Wn rfl ?_⟩;refine⟨_,rfl,_,rfl,t,_,_,_,rfl,rfl,Hm.of d,wc,l,_,_,_,rfl,rfl,Dk.of M,EK (j:=i) (v:=.ref a) (by rw[Bj,ha];rfl),a,_,rfl,GC O,λx dx e c b=>⟨x,dx,_,rfl,AX,rfl,?_⟩⟩;refine q _ _ (new 609 _ x dx e c b) ⟨x,dx,_,rfl,AX,?_⟩;rw[hnm];exact⟨rfl,BF z Aa⟩
  |text n=>
   obtain⟨t,rfl,d⟩:=g;refine⟨_,rfl,t,_,_,_,rfl,rfl,Hm.of d,LB,rfl,_,rfl,Ia Ab ?_⟩;refine⟨_,rfl,t,_,_,_,rfl,rfl,Hm.of d,LB,rfl,_,rfl,Ia Ab ?_⟩;refine⟨_,rfl,t,_,_,_,rfl,rfl,Hm.of d,LB,rfl,_,rfl,Ia Ab ?_⟩;refine⟨_,rfl,t,_,_,_,rfl,rfl,Hm.of d,LB,rfl,_,rfl,Wn rfl ?_⟩;refine⟨_,rfl,t,_,_,_,rfl,rfl,Hm.of d,wc,rfl,_,rfl,Kg (λh=>?_) (λh=>?_)⟩
   ·obtain rfl:n=100:=V.int.inj (A34 h);refine λx dx e c b=>⟨x,dx,_,rfl,AX,rfl,?_⟩;exact q _ _ (new 496 _ x dx e c b) ⟨x,dx,_,rfl,AX,rfl⟩
   ·refine⟨_,rfl,t,_,_,_,rfl,rfl,Hm.of d,wc,λx dx e c b=>⟨x,dx,_,rfl,AX,rfl,?_⟩⟩;exact q _ _ (new 496 _ x dx e c b) ⟨x,dx,_,rfl,AX,rfl⟩
  |truth=>
   obtain⟨t,rfl,d⟩:=g;refine⟨_,rfl,t,_,_,_,rfl,rfl,Hm.of d,LB,rfl,_,rfl,Ia Ab ?_⟩;refine⟨_,rfl,t,_,_,_,rfl,rfl,Hm.of d,LB,rfl,_,rfl,Ia Ab ?_⟩;refine⟨_,rfl,t,_,_,_,rfl,rfl,Hm.of d,LB,rfl,_,rfl,Ia Ab ?_⟩;refine⟨_,rfl,t,_,_,_,rfl,rfl,Hm.of d,LB,rfl,_,rfl,Ia Ab ?_⟩;refine⟨_,rfl,t,_,_,_,rfl,rfl,Hm.of d,LB,rfl,_,rfl,Wn rfl ?_⟩;exact λx dx e c b=>q _ _ (f 323 x dx e c b) ⟨x,dx,rfl,AX⟩
  |count=>
   obtain⟨t,rfl,d⟩:=g;refine⟨_,rfl,t,_,_,_,rfl,rfl,Hm.of d,LB,rfl,_,rfl,Ia Ab ?_⟩;refine⟨_,rfl,t,_,_,_,rfl,rfl,Hm.of d,LB,rfl,_,rfl,Ia Ab ?_⟩;refine⟨_,rfl,t,_,_,_,rfl,rfl,Hm.of d,LB,rfl,_,rfl,Ia Ab ?_⟩;refine⟨_,rfl,t,_,_,_,rfl,rfl,Hm.of d,LB,rfl,_,rfl,Ia Ab ?_⟩;refine⟨_,rfl,t,_,_,_,rfl,rfl,Hm.of d,LB,rfl,_,rfl,Ia Ab ?_⟩;refine⟨_,rfl,t,_,_,_,rfl,rfl,Hm.of d,LB,rfl,_,rfl,Wn rfl ?_⟩;exact λx dx e c b=>q _ _ (f 356 x dx e c b) ⟨x,dx,rfl,AX⟩
  |whole=>
   obtain⟨t,rfl,d⟩:=g;refine⟨_,rfl,t,_,_,_,rfl,rfl,Hm.of d,LB,rfl,_,rfl,Ia Ab ?_⟩;refine⟨_,rfl,t,_,_,_,rfl,rfl,Hm.of d,LB,rfl,_,rfl,Ia Ab ?_⟩;refine⟨_,rfl,t,_,_,_,rfl,rfl,Hm.of d,LB,rfl,_,rfl,Ia Ab ?_⟩;refine⟨_,rfl,t,_,_,_,rfl,rfl,Hm.of d,LB,rfl,_,rfl,Ia Ab ?_⟩;refine⟨_,rfl,t,_,_,_,rfl,rfl,Hm.of d,LB,rfl,_,rfl,Ia Ab ?_⟩;refine⟨_,rfl,t,_,_,_,rfl,rfl,Hm.of d,LB,rfl,_,rfl,Ia Ab ?_⟩;exact λx dx e c b=>q _ _ (f 389 x dx e c b) ⟨x,dx,rfl,AX⟩
  |list k=>
   obtain⟨t,u,rfl,d,m⟩:=g;refine⟨_,rfl,t,_,_,_,rfl,rfl,Hm.of d,LB,rfl,_,rfl,Wn rfl ?_⟩;refine⟨_,rfl,t,_,_,_,rfl,rfl,Hm.of d,wc,_,rfl,N _ rfl _ _ _ _ ⟨u,sv,rfl,m,hs,hn,A08 hok,λF H' s' m=>?_⟩⟩;refine λx dx e c b=>⟨x,dx,_,rfl,AX,rfl,?_⟩;have s2:BC H' (upd (upd (upd H' dx (.own x)) x (.ins 555 dx [])) x (.ins 555 dx [("item",F)])):=by
    rw[Fo];refine(BM c).trans (BM ?_);rw[Bo (DP b)];exact e
   exact q _ _ (s'.trans s2) ⟨x,dx,F,rfl,AX,m.sm (Sm.of s2)⟩
theorem S8{k:Nat}{f:Ba}{fd:Ek}{ps:List Bx}{sp r:Sp}(h:∀vs H Q E,r vs H Q E->sp vs H Q E)(F:Cm P w K mg base DS k f fd ps sp):Cm P w K mg base DS k f fd ps r:=⟨λvs H Q E x=>F.1 vs H Q E (h _ _ _ _ x),λa b c d e f g i j l m n o p q x=>F.2 a b c d e f g i j l m n o p q (h _ _ _ _ x)⟩
theorem A0L{t:Type}{k:Nat}{f:Ba}{fd:Ek}{ps:List Bx}{sp:t->Sp}(F:∀i,Cm P w K mg base DS k f fd ps (sp i)):Cm P w K mg base DS k f fd ps (λvs H Q E=>∃i,sp i vs H Q E):=⟨λvs H Q E s=>(by obtain⟨i,x⟩:=s;exact(F i).1 vs H Q E x),λa b c d e f g h j l m n o p q r=>(by obtain⟨i,x⟩:=r;exact(F i).2 a b c d e f g h j l m n o p q x)⟩
theorem qL(T:Tx K mg)(gs:List SG)(k:Lk):Cm P w K mg base DS 6 927 (Br K 927) AE (Oc gs k):=by
 have base:∀k:Lk,(∀j,k≠ .list j)->Cm P w K mg base DS 3 927 (Br K 927) AE (Oc gs k):=λk c=>
  QB T (r:=0) (pz (k:=0+1)) (λa e=>A38 e (c a))
 cases k with
 |list k=>
  by_cases b:∃j,k= .list j
  ·obtain⟨j,rfl⟩:=b;refine S8 (sp:=λ_ _ _ _=>False) (λvs H Q E h=>?_) pz;obtain⟨v,sv,_,_,_,_,hok,_⟩:=h;rcases hok with h|⟨i,h,_⟩
   ·exact h
   ·cases h
  ·exact(QB T (r:=2) (base k λj e=>b ⟨j,e⟩) λa e vs H Q E h=>by cases e;exact h).mono Aa
 |_=>exact(base _ λj e=>by cases e).mono Aa
def bI:Sp:=λvs H Q E=>∃i:List SG×Lk,Oc i.1 i.2 vs H Q E
theorem uO(T:Tx K mg):Cm P w K mg base DS 6 927 (Br K 927) AE bI:=A0L λi=>qL T i.1 i.2
def Rn(gs:List SG)(f:SF):Fx:=⟨.int f.num,.str f.nam,Kf gs f.kind,.bl f.must,f.dfl⟩
theorem ke(gs:List SG)(k:Lk):HI (Kf gs k)=Ep k:=by cases k <;> rfl
theorem mr(gs:List SG):∀k:Lk,(Kf gs k).may
 |.truth=>trivial
 |.count=>trivial
 |.whole=>trivial
 |.upto _=>trivial
 |.text _=>trivial
 |.form _=>trivial
 |.list k=>mr gs k
def A19(f:SF):Prop:=f.dfl=Ep f.kind\/(f.must=false/\OJ f.kind f.dfl)
theorem P0{gs:List SG}{k:Lk}{d:Dt}(h:d=Ep k\/OJ k d):lV (Kf gs k) d=d:=by
 rcases h with rfl|h
 ·cases k <;> rfl
 ·cases k with
  |truth=>rw[show d= .bl true from h];rfl
  |text n=>obtain⟨z,rfl,_⟩:=h;rfl
  |upto m=>obtain⟨i,rfl,_⟩:=h;rfl
  |whole=>obtain⟨i,rfl,_⟩:=h;rfl
  |count=>obtain⟨i,rfl,_⟩:=h;rfl
  |form i=>exact h.elim
  |list k=>exact h.elim
theorem vd{H H':Hp}{k:Lk}{d:Dt}{v:V}(h:OJ k d)(h1:Th H d v)(h2:Th H' (Ep k) v):d=Ep k:=by
 cases k with
 |truth=>
  rw[show d= .bl true from h]at h1;rw[show v=V.bl true from h1]at h2;cases h2
 |text n=>
  obtain⟨z,rfl,_⟩:=h;rw[h1.1]at h2;obtain⟨e,_⟩:=h2;injection e with e;rw[e];rfl
 |upto m=>
  obtain⟨i,rfl,_⟩:=h;rw[show v=V.int i from h1]at h2;cases h2;rfl
 |whole=>
  obtain⟨i,rfl,_⟩:=h;rw[show v=V.int i from h1]at h2;cases h2;rfl
 |count=>
  obtain⟨i,rfl,_⟩:=h;rw[show v=V.int i from h1]at h2;cases h2;rfl
 |form i=>exact h.elim
 |list k=>exact h.elim
def XO:Sp:=λvs H Q _=>∃v sv gs f,vs=[v,sv]/\UR H f v/\YW H gs sv/\EA (gs.map (·.nam))/\f.kind.ok gs.length/\UQ f.nam/\A19 f/\∀u H',BC H H'->Rt H H' (Rn gs f) u->Q u H'
theorem zk{H H':Hp}{k:Lk}{d:Dt}{v u:V}(a:∀j,k≠ .list j)(hd:d=Ep k\/OJ k d)(h:Th H d v)(h2:Th H' (Ep k) u):O0 v u=true:=by
 cases k with
 |truth=>
  rw[show u=V.bl false from h2];rcases hd with rfl|hd
  ·rw[show v=V.bl false from h];rfl
  ·rw[show d= .bl true from hd]at h;rw[show v=V.bl true from h];rfl
 |text n=>
  rw[h2.1];rcases hd with rfl|hd
  ·rw[h.1];rfl
  ·obtain⟨z,rfl,_⟩:=hd;rw[h.1];rfl
 |form i=>
  rw[show u=V.non from h2];rcases hd with rfl|hd
  ·rw[show v=V.non from h];rfl
  ·exact hd.elim
 |list j=>exact A38 rfl (a j)
 |count=>
  rw[show u=V.int 0 from h2];rcases hd with rfl|hd
  ·rw[show v=V.int 0 from h];rfl
  ·obtain⟨i,rfl,_⟩:=hd;rw[show v=V.int i from h];rfl
 |whole=>
  rw[show u=V.int 0 from h2];rcases hd with rfl|hd
  ·rw[show v=V.int 0 from h];rfl
  ·obtain⟨i,rfl,_⟩:=hd;rw[show v=V.int i from h];rfl
 |upto m=>
  rw[show u=V.int 0 from h2];rcases hd with rfl|hd
  ·rw[show v=V.int 0 from h];rfl
  ·obtain⟨i,rfl,_⟩:=hd;rw[show v=V.int i from h];rfl
theorem ju(T:Tx K mg):Cm P w K mg base DS 7 934 (Br K 934) AF XO:=by
 have c:Cm P w K mg base DS 6 927 (Br K 927) AE bI:=uO T;have r:Cm P w K mg base DS 1 889 (Br K 889) Ay Uy:=bW T;have v1:CQ [V.non] [CM]:=.cons rfl .nil;have v2:CQ [V.bl false,V.non] [Dm false,CM]:=.cons rfl (.cons rfl .nil);refine T.Si.ok Qn (λvs H Q E h=>?_) (λcdv A outer s H vs Q E L h=>?_)
 ·obtain⟨v,sv,gs,f,rfl,_⟩:=h;rfl
 ·obtain⟨v,sv,gs,f,rfl,hf,hs,hn,hok,hnm,I,q⟩:=h;have Kr:Fm (3+1) _:=L.mono Aa;have Z:=L.units;have b:=Cp (Cy (show 1<=64 by decide) _) Z;refine⟨_,BE (Ct (i:=2) Qn.nd rfl (BP rfl) (BX c (L.mono Aa) rfl T.Vc T.NN T.Vn .nil BR (AS (CT b (pv 0) Bs (λ_ _=>rfl)) (AS (pv 1) AZ)))) (BW (CV (CZ (CT b (pv 0) Bs (λ_ _=>rfl))) (Bk (BH (Dy ⟨T.FA,T.DN,T.DM,T.Fy⟩ (Dw T) Kr rfl T.Fc (JD T) v1 BR (AS (CT b (pv 0) Bs (λ_ _=>rfl)) (AS (CT b (pv 0) Bs (λ_ _=>rfl)) (AS (pv 2) (AS DR AZ)))))))
    Ci)
   (BW (CV (CK (Ny.or Gg (jm Z)) (CT b (pv 0) Bs (λ_ _=>rfl)) (BX r (L.mono Aa) rfl T.nh T.dW T.nM .nil BR (AS (CT b (pv 0) Bs (λ_ _=>rfl)) AZ)) (Dc _)) (Bk (BH (Dy ⟨T.FA,T.DN,T.DM,T.Fy⟩ (Dw T) Kr rfl T.Fc (Ge T) v2 BR (AS (CT b (pv 0) Bs (λ_ _=>rfl)) (AS (CT b (pv 0) Bs (λ_ _=>rfl)) (AS (pv 2) AZ))))))
    Ci)
   (Bk (BH (Dy ⟨T.FA,T.DN,T.DM,T.Fy⟩ (Dw T) Kr rfl T.Fc (JC T) .nil BR (AS (CT b (pv 0) Bs (λ_ _=>rfl)) (AS (CT b (pv 0) Bs (λ_ _=>rfl)) (AS (pv 2) (AS DR (AS (CT b (pv 0) Bs (λ_ _=>rfl)) AZ)))))))))),?_⟩
  obtain⟨a,Y,dv,rfl,ha,hT,hd⟩:=hf;have S:=(HY hnm.1).2.1;have B:f.dfl=Ep f.kind\/OJ f.kind f.dfl:=I.imp id λz=>z.2;refine Df (λF H'=>∃k,F=[some (.ref a),some sv,some k]/\BC H H'/\Rx H' (Kf gs f.kind) k) ?_ ?_
  ·exact⟨_,rfl,a,_,rfl,Lo ha,_,rfl,(gs,f.kind),Y,sv,rfl,hT,hs,hn,hok,λu H' s' O=>⟨u,rfl,s',O⟩⟩
  rintro F H1 ⟨k,rfl,s1,hk⟩;have o:=s1 _ _ ha;have G:Th H1 (.str f.nam) (.str f.nam):=⟨rfl,BF S Aa⟩;have mk:∀{H2:Hp} {m J:V} {d:Dt} {x dx:Ba},BC H1 H2->H2 x=none->H2 dx=none->dx≠x->Th H2 (.bl f.must) m->Th H2 d J->f.dfl=lV (Kf gs f.kind) d->KE (.ref x::[.int f.num,.str f.nam,k,m,J]) (upd (upd H2 dx (.own x)) x (.ins 636 dx [])) (λv H2=>v= .non/\Q (.ref x) H2) E0:=λs2 t l g hm X e=>
   Fj (f:=Rn gs f) t l g (mr gs _) rfl (Th.sm (Sm.of s2) _ _ G) (hk.sm (Sm.of s2)) hm X e λv H' s' hF=>q v H' ((s1.trans s2).trans s') (hF.back (s1.trans s2))
  refine⟨_,rfl,a,_,rfl,VC o,_,rfl,?_⟩;cases hm:f.must with
  |true=>
   have e:f.dfl=Ep f.kind:=I.resolve_right λz=>by rw[hm]at z;cases z.1
   refine Er ⟨_,rfl,a,_,rfl,Hk o,_,rfl,a,_,rfl,Ln o,_,rfl,λx dx t l g=>?_⟩;exact mk (BC.refl _) t l g (by rw[hm];rfl) (d:=.non) rfl (by rw[e];exact(ke gs _).symm)
  |false=>
   refine Dr ⟨_,rfl,a,_,rfl,OC o,_,rfl,a,_,rfl,Lo o,Y,f.kind,rfl,hT.sm (Sm.of s1),λu H2 s2 y _=>?_⟩;have n:=s2 _ _ o;have C:Th H2 f.dfl dv:=Th.sm (Sm.of (s1.trans s2)) _ _ hd;have yes:f.dfl=Ep f.kind->∀x dx,H2 x=none->H2 dx=none->dx≠x->KE (.ref x::[.int f.num,.str f.nam,k,.bl false,.non]) (upd (upd H2 dx (.own x)) x (.ins 636 dx [])) (λv H2=>v= .non/\Q (.ref x) H2) E0:=λe x dx t l g=>
    mk s2 t l g (by rw[hm];rfl) (d:=.non) rfl (by rw[e];exact(ke gs _).symm)
   by_cases hl:∃j,f.kind= .list j
   ·obtain⟨j,W⟩:=hl;have e:f.dfl=Ep f.kind:=B.resolve_right λz=>by rw[W]at z;exact z
    have D:=C;rw[e,W]at D;rw[W]at y;obtain⟨p,xs,rfl,hp,t,_⟩:=D;obtain⟨p',M,rfl,R,N,_⟩:=y;obtain rfl:xs=[]:=t;obtain rfl:M=[]:=N;refine .inr ⟨p,p',[],rfl,rfl,hp,R,_,rfl,?_⟩;exact Er ⟨_,rfl,a,_,rfl,Hk n,_,rfl,a,_,rfl,Ln n,_,rfl,yes e⟩
   ·have U:∀j,f.kind≠ .list j:=λj e=>hl ⟨j,e⟩;refine .inl ⟨zk U B C y,_,rfl,Kg (λh=>?_) (λh=>?_)⟩
    ·have e1:dv=u:=A34 h;have e:f.dfl=Ep f.kind:=B.elim id λz=>vd z C (by rw[e1];exact y);exact⟨_,rfl,a,_,rfl,Hk n,_,rfl,a,_,rfl,Ln n,_,rfl,yes e⟩
    ·refine⟨_,rfl,a,_,rfl,Hk n,_,rfl,a,_,rfl,Ln n,_,rfl,_,rfl,a,_,rfl,OC n,λx dx t l g=>?_⟩;exact mk s2 t l g (by rw[hm];rfl) C (P0 B).symm
theorem GQ{H:Hp}{D:Ba}{o:HO}(h:H D=none):untr (upd H D o) D=H:=by
 funext b;by_cases a:b=D
 ·subst a;rw[Hi,h]
 ·rw[Em a,Bo a]
theorem cB{K:Be}{l:Ba}{xs:List V}{H1:Hp}{b:L2.St}{g:TG}{te:TE}{Q:VK}(q:H1 l=some (.lst xs))(I:xs.length<=1000)(Y:Hp->Prop)(B:Y H1)(n:Nat->Hp->V->Prop)(p:∀i H H' v,Sm H H'->n i H v->n i H' v)(hs:∀(j:Nat) x,xs[j]?=some x->∀(D:Ba) (ys:List V) (a:Hp) (R:VK),a D=none->Sm H1 a->Y a->(∀y H',Sm a H'->Y H'->H' D=none->n j H' y->R y (upd H' D (.lst ys)))->g x b (upd a D (.lst ys)) λh H2=>Sub b h/\te h H2 R)(hd:∀D H' ys,H' D=none->Sm H1 H'->Y H'->ys.length=xs.length->(∀(i:Nat) y,ys[i]?=some y->n i H' y)->Q (.ref D) (upd H' D (.lst ys))):QH (A6 K l) H1 b g XE te Q:=by
 intro D w;refine⟨λi m ys H=>m=xs.length - i/\i<=xs.length/\ys.length=i/\∃a,a D=none/\H=upd a D (.lst ys)/\Sm H1 a/\Y a/\∀(j:Nat) y,ys[j]?=some y->n j a y,⟨xs.length,by simp,CH _,rfl,H1,w,rfl,Sm.refl _,B,λj y e=>by simp at e⟩,?_⟩;rintro i m ys H ⟨rfl,hi,c,a,k,rfl,sm,t,u⟩;have f:upd a D (.lst ys) l=some (.lst xs):=by
  rw[Bo (λz=>by rw[z,w]at q;cases q)];exact sm _ _ q rfl
 refine⟨AX,?_⟩;by_cases d:i<xs.length
 ·have E:xs[i]?=some (xs[i]'d):=AW d;refine .inr ⟨⟨xs,_,Dk.of f,E⟩,λx H' y=>?_⟩;obtain⟨e,C⟩:=y;subst e;have o:xs[i]?=some x:=C _ (Dk.of f);refine hs i x o D ys a _ k sm t λy G s4 A F s=>?_;refine⟨AX,Ea (by omega),xs.length - (i+1),by omega,rfl,d,by rw[Bh,c];rfl,G,F,by rw[Fo],sm.trans s4,A,λj z r=>?_⟩;rcases Lf r with r|⟨rfl,rfl⟩
  ·exact p _ _ _ _ s4 (u j z r)
  ·rw[c];exact s
 ·have e:i=xs.length:=by omega
  subst e;exact .inl ⟨⟨xs,Dk.of f,by omega⟩,hd D a ys k sm t c u⟩
def A18(n:Nat)(fs:List SF):Prop:=∀f∈fs,f.kind.ok n/\UQ f.nam/\A19 f
def DG(gs:List SG)(f:SF):Ex:=.fld (Rn gs f)
def iN:Sp:=λvs H Q _=>∃v sv gs g,vs=[v,sv,.int 0]/\Mf H g v/\YW H gs sv/\EA (gs.map (·.nam))/\UQ g.nam/\A18 gs.length g.fields/\g.fields.length<40/\g.gone.length<40/\Lm H/\∀v es H',Sm H H'->Lm H'->es.Perm (g.fields.map (DG gs))->OK H' ⟨g.choice,.str g.nam,some es,Gy g.gone⟩ v->Q v H'
theorem A0j: ((AO:List Bx) ++ (AQ:List Bx)).Nodup:=by decide+kernel
theorem Yp{o:Option (List Ex)}{es:List Ex}(h:TQ o (some es)):∃a,o=some a/\a.Perm es:=by
 cases o with
 |none=>exact h.elim
 |some a=>exact⟨a,rfl,h⟩
theorem mu(gs:List SG)(fs:List SF):∀e∈fs.map (DG gs),Ex.may e:=λe a=>by
 obtain⟨f,_,rfl⟩:=Bm.mp a;exact mr gs f.kind
theorem uQ(T:Tx K mg)(O:K.In base):Cm P w K mg base DS 8 939 (Br K 939) AG iN:=by
 have b:Cm P w K mg base DS 7 934 (Br K 934) AF XO:=ju T;have v1:CQ [V.non] [CM]:=.cons rfl .nil;refine T.Vi.ok MG (λvs H Q E h=>?_) (λcdv A outer s H vs Q E hr h=>?_)
 ·obtain⟨v,sv,gs,g,rfl,_⟩:=h;rfl
 ·obtain⟨v,sv,gs,g,rfl,hg,hs,hn,a8,b0,G,J,hL,q⟩:=h;have Kr:Fm (4+1) _:=hr.mono Aa;have hu:=hr.units;have d:=Cp (Cy (show 1<=64 by decide) _) hu;refine⟨_,BE (Iz (i:=3) (ts:=AO) (xs:=AQ) (js:=[1]) rfl ⟨rfl,rfl,Ab,Ab,DZ rfl⟩ (.cons rfl (.inl rfl) rfl .nil) Ab (Ez (CT d (pv 0) Bs (λ_ _=>rfl))) (λC s_ H_ fp=>CN (X:=Ee _ _ _ C s_ H_ fp) (i:=0) A0j rfl (BP rfl) (Di rfl)) (λC s_ H_ fp=>DB (X:=Ee _ _ _ C s_ H_ fp)) (λC s_ H_ fp=>Jz (X:=Ee _ _ _ C s_ H_ fp) (BX (X:=Ee _ _ _ C s_ H_ fp) b (hr.mono Aa) rfl T.RK T.Mu T.Sx .nil BR (AS (pv 0) (AS (pv 1) AZ))))
     MG.nd rfl (BP rfl) rfl)
   (BE (Ct (i:=4) MG.nd rfl (BP rfl) (Gj FW rfl T.Il Gi (AS (CT d (pv 0) Bs (λ_ _=>rfl)) AZ)))
   (BW (CV (CK Gg (pv 2) Bc (Dc _)) (BW LY (Bk LY)) Ci)
   (BW (CV (CK Gg (BJ Dg (by rfl) T.Hs Fu (AS (pv 4) AZ)) Bc (Dc _)) (Bk (BH (KL (CZ (CT d (pv 0) Bs (λ_ _=>rfl))) (Dy ⟨T.Pb,T.Jy,T.Fd,T.OY⟩ (EH T O (Mc T)) Kr rfl T.LN (GJ T) v1 BR (AS (CT d (pv 0) Bs (λ_ _=>rfl)) (AS (pv 3) AZ))) (Dy ⟨T.Kn,T.GZ,T.Fd,T.Kl⟩ (EH T O (Ib T)) Kr rfl T.Jt (GJ T) v1 BR (AS (CT d (pv 0) Bs (λ_ _=>rfl)) (AS (pv 3) AZ))))))
    Ci)
   (Bk (BH (KL (CZ (CT d (pv 0) Bs (λ_ _=>rfl))) (Dy ⟨T.Pb,T.Jy,T.Fd,T.OY⟩ (EH T O (Mc T)) Kr rfl T.LN (Ki T) .nil BR (AS (CT d (pv 0) Bs (λ_ _=>rfl)) (AS (pv 3) (AS (pv 4) AZ)))) (Dy ⟨T.Kn,T.GZ,T.Fd,T.Kl⟩ (EH T O (Ib T)) Kr rfl T.Jt (Ki T) .nil BR (AS (CT d (pv 0) Bs (λ_ _=>rfl)) (AS (pv 3) (AS (pv 4) AZ)))))))))),?_⟩
  obtain⟨a,gl,fl,xs,rfl,ha,hgl,L,hp⟩:=hg;obtain⟨nam,choice,gone,fields⟩:=g;have F:fields.length=xs.length:=hp.length;have a7:fields.length<40:=G;have a9:gone.length<40:=J;have a6:=(HY a8.1).2.1;refine Df (λo H'=>∃D ys,o=[some (.ref a),some sv,some (.int 0),some (.ref D),none]/\Sm H H'/\Lm H'/\H' D=some (.lst ys)/\Es H' (fields.map (DG gs)) ys) ?_ ?_
  ·refine⟨_,rfl,a,_,rfl,Gc ha,fl,rfl,⟨_,Dk.of L⟩,?_⟩;refine cB L (by omega) Lm hL (λj H' y=>∃f,fields[j]?=some f/\WI H' (Rn gs f) y) (λi H' H2 v s I=>(by obtain⟨f,e,h⟩:=I;exact⟨f,e,OL.sm s (e:=.fld (Rn gs f)) h⟩)) (λj x n D ys Hu R a1 sm Z hR=>?_) (λD H' ys B sm Z U hP=>?_)
   ·obtain⟨f,S,a0⟩:=Gf hp j x n;obtain⟨h1,h2,h3⟩:=b0 f (Bp S);refine⟨Sub.set rfl,D,ys,AX,?_⟩;rw[GQ a1];refine⟨_,rfl,_,rfl,x,sv,gs,f,rfl,a0.sm sm,hs.sm sm,hn,h1,h2,h3,λu H' s' a2 B=>?_⟩;exact hR u H' (Sm.of s') (Z.same s') B ⟨f,S,a2.isF⟩
   ·refine⟨D,ys,rfl,sm.trans (Sm.of (BM B)),Z.same (BM B),AX,?_⟩;refine Kq (by rw[AV,U,F]) λi x y n Y=>?_;obtain⟨f,S,hF⟩:=hP i y Y;rw[Bj,S]at n;obtain rfl:DG gs f=x:=AR n;exact OL.sm (Sm.of (BM B)) (e:=.fld (Rn gs f)) hF
  rintro o H1 ⟨D,ys,rfl,s1,b1,hD,M⟩;have N:=s1 _ _ ha rfl;refine Df (λo H'=>∃p,o=[some (.ref a),some sv,some (.int 0),some (.ref D),some (.ref p)]/\BC H1 H'/\H' p=some (.lst (gone.map V.int))) ?_ ?_
  ·exact⟨_,rfl,a,_,rfl,OB N,gl,_,rfl,.inl (Dk.of (s1 _ _ hgl rfl)),λp a5=>⟨p,rfl,BM a5,AX⟩⟩
  rintro o H2 ⟨p,rfl,s2,z⟩;have m:=s2 _ _ N;have t:=b1.same s2;have r:gm H2 (some (fields.map (DG gs))) (.ref D):=⟨D,ys,rfl,s2 _ _ hD,M.sm (Sm.of s2),mu gs fields,by rw[<-M.length,AV];omega⟩;have hnm:Th H2 (.str nam) (.str nam):=⟨rfl,BF a6 Aa⟩;have fin:∀v o' H',Sm H2 H'->Lm H'->TQ o' (some (fields.map (DG gs)))->OK H' ⟨choice,.str nam,o',Gy gone⟩ v->Q v H':=λv o' H' s' b2 a4 hG=>by
   obtain⟨es,rfl,pe⟩:=Yp a4;exact q v es H' ((s1.trans (Sm.of s2)).trans s') b2 pe hG
  refine⟨_,rfl,rfl,_,rfl,Ia Ab ?_⟩;refine⟨_,rfl,p,_,rfl,.inl (Dk.of z),rfl,_,rfl,Kg (λB=>?_) (λ_=>?_)⟩
  ·have e0:gone=[]:=by
    have:=V.int.inj (A34 B);rw[AV]at this;exact List.eq_nil_of_length_eq_zero (by omega)
   refine⟨_,rfl,a,_,rfl,Ir m,_,rfl,?_⟩;cases choice with
   |true=>
    refine Er ⟨_,rfl,a,_,rfl,GC m,_,rfl,λx dx n l k=>?_⟩;exact HZ (c:=true) n l k hnm r (.inl ⟨rfl,e0⟩) t fin
   |false=>
    refine Dr ⟨_,rfl,a,_,rfl,GC m,_,rfl,λx dx n l k=>?_⟩;exact HZ (c:=false) n l k hnm r (.inl ⟨rfl,e0⟩) t fin
  ·refine⟨_,rfl,a,_,rfl,Ir m,_,rfl,?_⟩;cases choice with
   |true=>
    refine Er ⟨_,rfl,a,_,rfl,GC m,_,rfl,_,rfl,λx dx n l k=>?_⟩;exact HZ (c:=true) n l k hnm r (.inr ⟨p,rfl,z,by omega⟩) t fin
   |false=>
    refine Dr ⟨_,rfl,a,_,rfl,GC m,_,rfl,_,rfl,λx dx n l k=>?_⟩;exact HZ (c:=false) n l k hnm r (.inr ⟨p,rfl,z,by omega⟩) t fin
theorem qJ{X:Cx}(K:Be)(a:X.K=K):Ny X (EE .NotIn) (rIn K true):=by
 subst a;exact Tj
def numsOf(g:SG):List Int:=g.fields.map (·.num) ++g.gone
def VD(ms:List Int):List Int:=((Bz 200).filter λj:Nat=>!ms.contains (1+ (j:Int))).map λj:Nat=>1+ (j:Int)
def EO(ms:List Int)(j:Nat):Int:=(VD ms).getD j 0
theorem jG(x:Int)(ms:List Int):L2.kr (.int x) (ms.map V.int)=ms.contains x:=by
 unfold L2.kr;induction ms with
 |nil=>rfl
 |cons y r a=>
  rw[BV,Jk,a,HD];congr 1;show(y==x)=(x==y);exact Fw.mpr ⟨λh=>by simpa using (eq_of_beq h).symm,λh=>by simpa using (eq_of_beq h).symm⟩
theorem ri(ms:List Int): (ms.map V.int).all OD=true:=by
 rw[List.all_map];exact BI.mpr λ_ _=>rfl
theorem TB{b:Type}(p q r:b->Bool)(h:∀x,p x=true->q x=true\/r x=true):∀l:List b,(l.filter p).length<= (l.filter q).length+ (l.filter r).length
 |[]=>CH _
 |x::l=>by
  have c:=TB p q r h l;have e: (l.filter q).length<= ((x::l).filter q).length:=(List.sublist_cons_self x l).filter q |>.length_le;have d: (l.filter r).length<= ((x::l).filter r).length:=(List.sublist_cons_self x l).filter r |>.length_le;cases a:p x with
  |false=>rw[Dd (by rw[a];decide)];omega
  |true=>
   rw[CD a,Cj];rcases h x a with h1|h1
   ·rw[CD h1,Cj]at *;omega
   ·rw[CD (p:=r) h1,Cj]at *;omega
theorem YK{b:Type}(p:b->Bool):∀l:List b,(l.filter p).length+ (l.filter λx=>!p x).length=l.length
 |[]=>rfl
 |x::l=>by
  have c:=YK p l;cases a:p x with
  |false=>
   rw[Dd (by rw[a];decide),CD (by rw[a];rfl),Cj,Cj];omega
  |true=>
   rw[CD a,Dd (by rw[a];decide),Cj,Cj];omega
theorem P3(y:Int)(n:Nat): ((Bz n).filter λj:Nat=>(1+ (j:Int))==y).length<=1:=by
 have nd: ((Bz n).filter λj:Nat=>(1+ (j:Int))==y).Nodup:=List.nodup_range.sublist List.filter_sublist;have hm:∀j∈ (Bz n).filter λj:Nat=>(1+ (j:Int))==y,1+ (j:Int)=y:=λj d=>eq_of_beq (EX.mp d).2;revert nd hm;generalize ((Bz n).filter λj:Nat=>(1+ (j:Int))==y)=l;intro nd hm
 match l,nd,hm with
 |[],_,_=>exact CH _
 |[_],_,_=>exact Bv _
 |a::b::r,nd,hm=>
  have h1:=hm a (.head _);have h2:=hm b (.tail _ (.head _));have c:a=b:=by omega
  rw[c]at nd;exact A38 (List.Mem.head r) (Jn.mp nd).1
theorem jV:∀ms:List Int,((Bz 200).filter λj:Nat=>ms.contains (1+ (j:Int))).length<=ms.length
 |[]=>by
  rw[List.filter_eq_nil_iff.mpr (λa _=>by simp)];exact Bv _
 |y::r=>by
  have h:=TB (λj:Nat=>(y::r).contains (1+ (j:Int))) (λj:Nat=>(1+ (j:Int))==y) (λj:Nat=>r.contains (1+ (j:Int))) (λx b=>by
   rw[HD,Bool.or_eq_true]at b;exact b) (Bz 200)
  have h1:=P3 y 200;have h2:=jV r;rw[Cj];omega
theorem vp{ms:List Int}(h:ms.length<=20):180<= (VD ms).length:=by
 unfold VD;rw[AV];have h1:=jV ms;have h2:=YK (λj:Nat=>ms.contains (1+ (j:Int))) (Bz 200);rw[Bw]at h2;omega
theorem Tw{ms:List Int}(h:ms.length<=20){j:Nat}(a:j<180): (VD ms)[j]?=some (EO ms j):=by
 have:=vp h;unfold EO;rw[BD,AW (by omega)];rfl
theorem pw{ms:List Int}(h:ms.length<=20){j:Nat}(a:j<180):1<=EO ms j/\EO ms j<=200/\EO ms j∉ms:=by
 have hm:=Bp (Tw h a);unfold VD at hm;obtain⟨i,hi,e⟩:=Bm.mp hm;obtain⟨h1,h2⟩:=EX.mp hi;have:=DJ.mp h1;rw[<-e];exact⟨by omega,by omega,by simpa using h2⟩
theorem vr{ms:List Int}(h:ms.length<=20){i j:Nat}(hi:i<180)(a:j<180)(e:EO ms i=EO ms j):i=j:=by
 have nd: (VD ms).Nodup:=JM.mpr (List.Pairwise.imp (λh e=>h (by omega)) (show List.Pairwise (·≠ ·) _ from List.nodup_range.sublist List.filter_sublist));have h1:=Tw h hi;rw[e]at h1;exact LZ nd h1 (Tw h a)
def oa:Sp:=λvs H Q _=>∃v g j,vs=[v,.int ((j:Nat):Int)]/\Mf H g v/\g.fields.length<=10/\g.gone.length<=4/\j<100/\∀H',BC H H'->Q (.int (EO (numsOf g) j)) H'
theorem A1Z: ((["_law_k"]:List Bx) ++ (["_law_marks"]:List Bx)).Nodup:=by decide+kernel
theorem A0l: ((AO:List Bx) ++ ([]:List Bx)).Nodup:=by decide+kernel
theorem yH(T:Tx K mg):Cm P w K mg base DS 1 963 (Br K 963) AI oa:=by
 refine T.ti.ok ox (λvs H Q E h=>?_) (λcdv A outer s H vs Q E M h=>?_)
 ·obtain⟨v,g,j,rfl,_⟩:=h;rfl
 ·obtain⟨v,g,j,rfl,⟨a,gl,fl,xs,rfl,ha,hgl,n,G⟩,o,t,Z,q⟩:=h;have L:=M.units;have c:=Cp (Cy (show 1<=64 by decide) _) L;refine⟨_,BE (Ct (i:=2) ox.nd rfl (Di rfl) (BO Hl (DY (ts:=AO) (xs:=[]) (js:=[]) rfl ⟨rfl,rfl,Ab,Ab,DZ rfl⟩ .nil Ab (Ez (CT c (pv 0) Bs (λ_ _=>rfl))) (λC s_ H_ fp=>CN (X:=Ee _ _ _ C s_ H_ fp) (i:=0) A0l rfl (BP rfl) (Di rfl)) (λC s_ H_ fp=>DB (X:=Ee _ _ _ C s_ H_ fp)) (λC s_ H_ fp=>CT (X:=Ee _ _ _ C s_ H_ fp) c (pv 0) Bs (λ_ _=>rfl))) (CT c (pv 0) Bs (λ_ _=>rfl)))) (Bk (BH (Dp Dz (DY (ts:=["_law_k"]) (xs:=["_law_marks"]) (js:=[2]) rfl ⟨rfl,rfl,Ab,Ab,DZ rfl⟩ (.cons rfl (.inl rfl) rfl .nil) Ab (qF rfl T.HP (AS Bc (AS Bc AZ))) (λC s_ H_ fp=>CN (X:=Ee _ _ _ C s_ H_ fp) (i:=0) A1Z rfl (BP rfl) (Di rfl)) (λC s_ H_ fp=>fH (X:=Ee _ _ _ C s_ H_ fp) (CK (qJ K rfl) (pv 0) (pv 1) rfl)) (λC s_ H_ fp=>pv (X:=Ee _ _ _ C s_ H_ fp) 0)) (pv 1) (λ_ _=>rfl)))),?_⟩;obtain⟨nam,choice,gone,fields⟩:=g;have m:fields.length=xs.length:=G.length;have u:fields.length<=10:=o;have F:gone.length<=4:=t;refine Df (λl H'=>∃ml,l=[some (.ref a),some (.int (j:Int)),some (.ref ml)]/\BC H H'/\H' ml=some (.lst ((numsOf ⟨nam,choice,gone,fields⟩).map V.int))) ?_ ?_
  ·refine⟨_,rfl,a,_,rfl,Gc ha,fl,rfl,⟨_,Dk.of n⟩,Du (Wk.list (Dk.of n)) (by omega) (λi=>.int (match fields[i]? with|some f=>f.num|none=>0)) (λi y I H2 R s2 z=>?_) (λD H2 U s2 B=>?_)⟩
   ·obtain⟨f,hi,b,Y,dv,rfl,O,hT,hd⟩:=Gf G i y I;have r:=z H2 λ_ _ e=>e;rw[hi]at r;exact⟨Sub.set rfl,_,rfl,b,_,rfl,Hk (s2 _ _ O),r⟩
   ·refine⟨_,rfl,a,_,rfl,OB (s2 _ _ ha),D,gl,_,_,rfl,rfl,B,s2 _ _ hgl,?_,λp N=>⟨p,rfl,s2.trans (BM N),?_⟩⟩
    ·rw[AV,Bw,AV];exact BF (show _<=20 by omega) Aa
    ·rw[AX,<-m,HS fields (λf=>V.int f.num) _ (λi d hd=>by rw[hd])];unfold numsOf;rw[Cr,Cf];rfl
  rintro l H1 ⟨ml,rfl,s1,k⟩;refine⟨1,201,rfl,⟨Aa,Aa,Aa,Aa⟩,?_⟩;refine Pp (Wk.rng 1 200) (by rw[AV,Bw];decide) (λi=>!(numsOf ⟨nam,choice,gone,fields⟩).contains (1+ (i:Int))) (λi=>.int (1+ (i:Int))) (λi x J H2 R s2 z S=>?_) (λD H2 U s2 B=>?_)
  ·obtain⟨rfl,hi⟩:=On J;refine⟨Sub.set rfl,_,rfl,_,rfl,ml,_,rfl,.inl (Dk.of (s2 _ _ k)),rfl,ri _,_,rfl,?_⟩;rw[jG];cases hc: (numsOf ⟨nam,choice,gone,fields⟩).contains (1+ (i:Int))with
   |true=>exact Dr (S H2 (BC.refl _) (by rw[hc];rfl))
   |false=>exact Er ⟨_,rfl,z H2 (BC.refl _) (by rw[hc];rfl)⟩
  ·have W:H2 D=some (.lst ((VD (numsOf ⟨nam,choice,gone,fields⟩)).map V.int)):=by
    rw[B,AV,Bw];unfold VD;rw[Cf];rfl
   have k: (numsOf ⟨nam,choice,gone,fields⟩).length<=20:=by
    unfold numsOf;rw[Bh,AV];show fields.length+gone.length<=20;omega
   exact⟨_,rfl,D,_,_,_,rfl,rfl,Dk.of W,EK (j:=j) (v:=.int (EO (numsOf ⟨nam,choice,gone,fields⟩) j)) (by rw[Bj,Tw k (by omega)];rfl),q _ (s1.trans s2)⟩
noncomputable def bsB:List Bool:=[false,false,true,false,false,false,false,false,false,false]
def oj:Sp:=λvs H Q _=>∃e dx a0 tb,vs=[.ref e]/\H e=some (wu e (JP (.ref 111) dx a0 tb))/\(dx=none\/∃d fs,dx=some d/\H d=some (.xd fs))/\∀H',BC H H'->Q (.str "book") H'
theorem zu: ((List.countP id bsB:Nat):Int)=1:=by decide
theorem rM{k:Nat}{A:Do}{v:Option AY}(r:Fm k A):Fm k (A.mark v):=⟨r.dp,r.un⟩
theorem uV(T:Tx K mg):Cm P w K mg base CXS 1 951 (Br K 951) ["_law_e"] oj:=by
 refine T.nI.ok Oh (λvs H Q E h=>?_) (λcdv A outer s H vs Q E v h=>?_)
 ·obtain⟨e,dx,a0,tb,rfl,_⟩:=h;rfl
 ·obtain⟨e,dx,a0,tb,rfl,b,k,q⟩:=h;have a:∀{H':Hp},BC H H'->(dx=none\/∃d fs,dx=some d/\H' d=some (.xd fs)):=λs=>k.imp id λg=>(by obtain⟨d,fs,e,h⟩:=g;exact⟨d,fs,e,s _ _ h⟩);refine⟨_,BW (Ct (i:=1) Oh.nd rfl (BP rfl) (DO (AS (BJ EJ rfl T.Ch Cb (AS (pv 0) (AS (Wl T.dN) AZ))) (AS (BJ EJ rfl T.Ch Cb (AS (pv 0) (AS (Wl T.qa) AZ))) (AS (BJ EJ rfl T.Ch Cb (AS (pv 0) (AS (Wl T.Ms) AZ))) (AS (BJ EJ rfl T.Ch Cb (AS (pv 0) (AS (Wl T.hZ) AZ))) AZ)))))) (BW (Ct (i:=1) Oh.nd rfl (BP rfl) (BO Hl (pv 1) (DO (AS (BJ EJ rfl T.Ch Cb (AS (pv 0) (AS (Wl T.kG) AZ))) (AS (BJ EJ rfl T.Ch Cb (AS (pv 0) (AS (Wl T.kF) AZ))) (AS (BJ EJ rfl T.Ch Cb (AS (pv 0) (AS (Wl T.ia) AZ))) (AS (BJ EJ rfl T.Ch Cb (AS (pv 0) (AS (Wl T.pY) AZ))) AZ))))))) (BW (Ct (i:=1) Oh.nd rfl (BP rfl) (BO Hl (pv 1) (DO (AS (BJ EJ rfl T.Ch Cb (AS (pv 0) (AS (Wl T.sG) AZ))) (AS (BJ EJ rfl T.Ch Cb (AS (pv 0) (AS (Wl T.ZS) AZ))) AZ))))) (BW (CV (PW.pt (Oo (CK jk (QA DI PySem.F.slot_list_count PySem.F.type_list_count qP (pv 1) (AS DR AZ)) Bc (Dc _)) (Ly (Fh (CZ (BJ EJ rfl T.Ch Cb (AS (pv 0) (AS (kq T.cO bn) AZ)))))))) (Bk (BH Bs))
    Ci)
   (BW (Ct (i:=2) Oh.nd rfl (BP rfl) (DO (AS Bs (AS Bs (AS Bs (AS Bs (AS Bs (AS Bs (AS Bs (AS Bs (AS Bs (AS Bs AZ))))))))))))
   (Bk (BH (Dp Dz (pv 2) (QA DI PySem.F.slot_list_index PySem.F.type_list_index qO (pv 1) (AS DR AZ)) (λ_ _=>rfl)))))))),?_⟩
  have c:BC H H:=BC.refl H;refine⟨_,rfl,e,_,dx,a0,tb,_,_,_,rfl,c _ _ b,T.Eo,a c,.inl ⟨_,rfl,rfl⟩,T.Ps,_,rfl,e,_,dx,a0,tb,_,_,_,rfl,c _ _ b,T.Eo,a c,.inl ⟨_,rfl,rfl⟩,T.Ug,_,rfl,e,_,dx,a0,tb,_,_,_,rfl,c _ _ b,T.Eo,a c,.inl ⟨_,rfl,rfl⟩,T.RF,_,rfl,e,_,dx,a0,tb,_,_,_,rfl,c _ _ b,T.Eo,a c,.inl ⟨_,rfl,rfl⟩,T.QO,zl 4,λt g1=>?_⟩;have s1:=BM (u:=.lst [.bl false,.bl false,.bl true,.bl false]) g1;refine⟨_,rfl,_,rfl,e,_,dx,a0,tb,_,_,_,rfl,s1 _ _ b,T.Eo,a s1,.inl ⟨_,rfl,rfl⟩,T.RE,_,rfl,e,_,dx,a0,tb,_,_,_,rfl,s1 _ _ b,T.Eo,a s1,.inl ⟨_,rfl,rfl⟩,T.RD,_,rfl,e,_,dx,a0,tb,_,_,_,rfl,s1 _ _ b,T.Eo,a s1,.inl ⟨_,rfl,rfl⟩,T.QP,_,rfl,e,_,dx,a0,tb,_,_,_,rfl,s1 _ _ b,T.Eo,a s1,.inl ⟨_,rfl,rfl⟩,T.Uf,zl 4,λr f2=>?_⟩;have s2:=s1.trans (BM (u:=.lst [.bl false,.bl false,.bl false,.bl false]) f2);refine⟨t,r,_,_,rfl,rfl,JH AX f2,AX,zl 8,λl2 g2=>?_⟩;have f:=s2.trans (BM (u:=.lst ([.bl false,.bl false,.bl true,.bl false] ++[.bl false,.bl false,.bl false,.bl false])) g2);refine⟨_,rfl,_,rfl,e,_,dx,a0,tb,_,_,_,rfl,f _ _ b,T.Eo,a f,.inl ⟨_,rfl,rfl⟩,T.VS,_,rfl,e,_,dx,a0,tb,_,_,_,rfl,f _ _ b,T.Eo,a f,.inl ⟨_,rfl,rfl⟩,T.NF,zl 2,λp n=>?_⟩;have s4:=f.trans (BM (u:=.lst [.bl false,.bl false]) n);refine⟨l2,p,_,_,rfl,rfl,JH AX n,AX,zl 10,λm g3=>?_⟩;have l:=s4.trans (BM (u:=.lst (bsB.map V.bl)) g3);refine⟨_,rfl,.inl ⟨rfl,_,Dk.of AX⟩,m,bsB,rfl,rfl,AX,rfl,_,rfl,?_⟩;rw[zu];refine Dr ⟨_,rfl,e,_,dx,a0,tb,_,_,_,rfl,l _ _ b,T.Eo,a l,.inr ⟨_,rfl,rfl⟩,T.gZ,_,rfl,Dr ?_⟩;refine⟨zl 10,λwl hwl=>?_⟩;have o:=l.trans (BM (u:=.lst [.str "number",.str "row",.str "book",.str "value",.str "text",.str "wire",.str "check",.str "kin",.str "key",.str "version"]) hwl);refine⟨_,rfl,_,rfl,.inl ⟨rfl,_,Dk.of (JH AX hwl)⟩,m,bsB,2,rfl,rfl,JH AX hwl,rfl,Aa,λi hi=>?_,wl,_,_,_,rfl,rfl,Dk.of AX,EK (j:=2) rfl,q _ o⟩
  match i,hi with
  |0,_=>rfl
  |1,_=>rfl
theorem GK.sm'{K:Be}{H H':Hp}(s:BC H H'){v:V}{t:AY}(h:GK K H v t):GK K H' v t:=by
 cases h with
 |non=>exact .non
 |bl x=>exact .bl x
 |int i=>exact .int i
 |str x=>exact .str x
 |flt x=>exact .flt x
 |lst e=>exact .lst (s _ _ e)
 |frz e=>exact .frz (s _ _ e)
 |tup e=>exact .tup (s _ _ e)
 |dK e=>exact .dK (s _ _ e)
 |dT e=>exact .dT (s _ _ e)
 |ins e cl ha hn htk hm=>exact .ins (s _ _ e) cl ha hn htk hm
theorem Lp.sm{K:Be}{H H':Hp}(s:BC H H'){v:V}(h:Lp K H v):Lp K H' v:=h.imp (λe=>(by obtain⟨t,a,b⟩:=e;exact⟨t,GK.sm' s a,b⟩)) λd=>(by obtain⟨l,xs,a,b,c⟩:=d;exact⟨l,xs,a,s _ _ b,c⟩)
def zO(H:Hp)(Q:VK): ((Nat×Bx) ⊕ List (Bx×Int))->Prop
 |.inl (p,y)=>∀t H',BC H H'->H' t=some (.tup [.int (p:Nat),.str y])->Q (.ref t) H'
 |.inr _=>∀H',BC H H'->Q .non H'
def fj(K:Be):Sp:=λvs H Q _=>∃v,vs=[v]/\((Lp K H v/\zO H Q (.inl (0,"forms")))\/
 ∃l xs os,v= .ref l/\H l=some (.lst xs)/\Os H os xs/\(∀o∈os,Ox.may o/\Ox.few o)/\0<os.length/\os.length<=8/\zO H Q (Ij os))
theorem oQ(T:Tx K mg):Cm P w K mg base DS 11 989 (Br K 989) ["_law_forms"] (fj K):=by
 have c:Cm P w K mg base CXS 1 951 (Br K 951) ["_law_e"] oj:=uV T;have S:Cm P w K mg base (XC P w true) 9 821 (Br K 821) Ar (fk K):=Tl T;refine T.sW.ok ow (λvs H Q E h=>?_) (λcdv A outer s H vs Q E I h=>?_)
 ·obtain⟨v,rfl,_⟩:=h;rfl
 ·obtain⟨v,rfl,h⟩:=h;refine⟨_,BW (yv rfl rfl (λE=>ux (E:=E) ⟨T.mZ,T.Vg,T.Vf,T.mY⟩ S I rfl T.nf T.Vo .nil (λ_=>rfl) (AS (pv 0) AZ)) rfl T.RJ (v0:=.ref 31) rfl (λe=>BW (CV (CK jk (uB c (rM (I.mono Aa)) rfl T.xl T.nt T.xG (AS (pv 1) AZ)) Bs (Dc _)) (Bk LY) Ci) (Bk (BH (Fq (AS (oO (pv 1) rfl) (AS (oO (pv 1) rfl) AZ)))))) ow.nd (i:=1) rfl rfl) (Bk (BH FC)),?_⟩;refine⟨_,rfl,λx dx G D C=>?_⟩;have k:BC H (upd (upd H dx (.own x)) x (.ins 838 dx [])):=by
   refine(BM D).trans (BM ?_);rw[Bo (DP C)];exact G
  have m:∀{H':Hp},U9 x (upd (upd H dx (.own x)) x (.ins 838 dx [])) H'->BC H H':=λj a o e=>j a o (λz=>by rw[z,G]at e;cases e) (k _ _ e);refine⟨x,dx,v,rfl,AX,?_⟩;rcases h with⟨B,q⟩|⟨l,xs,os,rfl,M,r,hm,O,N,q⟩
  ·refine .inl ⟨B.sm k,λH' j=>?_⟩;refine λd F g hd=>⟨T.bq,λe a0 tb f=>?_⟩;have s1:=(m j).trans (g.trans (BM (u:=wu e (JP (.ref 111) (some d) a0 tb)) f));refine⟨_,rfl,⟨e,_,_,a0,tb,rfl,AX⟩,e,some d,a0,tb,rfl,AX,.inr ⟨d,_,rfl,JH hd f⟩,λR b=>⟨rfl,_,rfl,?_⟩⟩;rw[show(!decide (V.str "book"=V.str "book"))=false by decide+kernel];refine Dr ⟨_,rfl,e,_,d,a0,tb,_,_,rfl,b _ _ AX,b _ _ (JH hd f),T.Eo,T.dJ,rfl,_,rfl,e,_,d,a0,tb,_,_,rfl,b _ _ AX,b _ _ (JH hd f),T.Eo,T.sw,rfl,zl 2,λt n=>?_⟩;exact q t _ ((s1.trans b).trans (BM n)) AX
  ·refine .inr ⟨l,xs,os,rfl,k _ _ M,r.sm (Sm.of k),hm,O,N,?_⟩;cases J:Ij os with
   |inl L=>
    obtain⟨p,y⟩:=L;rw[J]at q;intro H' j;refine λd F g hd=>⟨T.bq,λe a0 tb f=>?_⟩;have s1:=(m j).trans (g.trans (BM (u:=wu e (JP (.ref 111) (some d) a0 tb)) f));refine⟨_,rfl,⟨e,_,_,a0,tb,rfl,AX⟩,e,some d,a0,tb,rfl,AX,.inr ⟨d,_,rfl,JH hd f⟩,λR b=>⟨rfl,_,rfl,?_⟩⟩;rw[show(!decide (V.str "book"=V.str "book"))=false by decide+kernel];refine Dr ⟨_,rfl,e,_,d,a0,tb,_,_,rfl,b _ _ AX,b _ _ (JH hd f),T.Eo,T.dJ,rfl,_,rfl,e,_,d,a0,tb,_,_,rfl,b _ _ AX,b _ _ (JH hd f),T.Eo,T.sw,rfl,zl 2,λt n=>?_⟩;exact q t _ ((s1.trans b).trans (BM n)) AX
   |inr ws=>
    rw[J]at q;intro H' j U;exact⟨rfl,q _ (m j)⟩
def EL:Nat->Nat
 |7=>2
 |n=>n
noncomputable def LU:List Bx:=["form","name","many","field","number","kind","default"]
noncomputable def oJ:List (Gv×V):=[(.inl 0,.int 0),(.inl 1,.int 1),(.inl 2,.int 2),(.inl 7,.int 2),(.inl 3,.int 3),(.inl 4,.int 4),(.inl 5,.int 5),(.inl 6,.int 6)]
theorem yt{n:Nat}(h:n<8):HF (Jv [] oJ) (.inl (n:Int))=some (.int (EL n:Nat)):=by
 have all:∀m:Fin 8,HF (Jv [] oJ) (.inl ((m.val:Nat):Int))=some (.int (EL m.val:Nat)):=by decide+kernel
 exact all ⟨n,h⟩
abbrev Wr:=List (Nat×List Nat)
def Wf:Wr->List Ba->List (Gv×V)
 |p::r,a::as=>(.inl ((p.1:Nat):Int),.ref a)::Wf r as
 |_,_=>[]
def A7(H:Hp)(wr:Wr)(v:V):Prop:=∃a as,v= .ref a/\Rd H a (.dK (Wf wr as))/\Paired (λ(p:Nat×List Nat) (l:Ba)=>H l=some (.lst (p.2.map λn=>V.int (n:Nat)))) wr as
theorem Go.rd{H:Hp}{a:Ba}{kvs:List (Gv×V)}{k:Gv}(e:Rd H a (.dK kvs)):Go H a (kV k) (HF kvs k):=.inl ⟨kvs,k,e,rfl,rfl⟩
theorem iy:∀{wr:Wr} {as:List Ba},wr.length=as.length->(Wf wr as).map (λb=>kV b.1)=(wr.map λp=>((p.1:Nat):Int)).map V.int
 |[],_,_=>rfl
 |p::r,a::as,h=>by
  show kV (.inl ((p.1:Nat):Int))::_=V.int _::_;rw[iy (HB h)];rfl
def IX:Wr->Nat->Option (List Nat)
 |[],_=>none
 |p::r,n=>if p.1=n then some p.2 else IX r n
theorem ln{H:Hp}:∀{wr:Wr} {as:List Ba},Paired (λ(p:Nat×List Nat) (l:Ba)=>H l=some (.lst (p.2.map λn=>V.int (n:Nat)))) wr as->∀{n:Nat} {ws:List Nat},IX wr n=some ws->∃l,HF (Wf wr as) (.inl (n:Int))=some (.ref l)/\H l=some (.lst (ws.map λn=>V.int (n:Nat)))
 |_,_,.nil,n,ws,h=>by cases h
 |_,_,.cons (a:=p) (b:=a) (l₁:=r) (l₂:=as) x t,n,ws,h=>by
  unfold IX at h;by_cases c:p.1=n
  ·rw[A36 c]at h;cases h;refine⟨a,?_,x⟩;show HF ((.inl ((p.1:Nat):Int),.ref a)::Wf r as) (.inl (n:Int))=_;rw[c];unfold HF;rw[List.find?_cons_of_pos (by exact A32 rfl)];rfl
  ·rw[A35 c]at h;obtain⟨l,h1,h2⟩:=ln t h;refine⟨l,?_,h2⟩;show HF ((.inl ((p.1:Nat):Int),.ref a)::Wf r as) (.inl (n:Int))=_;unfold HF;rw[List.find?_cons_of_neg (by
    simp only[decide_eq_true_eq];intro z;injection z with z;exact c (by omega))]
   exact h1
theorem A7.same{H H':Hp}(s:BC H H'){wr:Wr}{v:V}:A7 H wr v->A7 H' wr v
 |⟨a,as,e,h,p⟩=>⟨a,as,e,h.imp (λz=>s _ _ z) (λb=>(by obtain⟨o,z⟩:=b;exact⟨o,s _ _ z⟩)),L2.Paired.imp' (λ_ _ z=>s _ _ z) p⟩
def rr(wr:Wr)(p:Nat)(y:Bx):Prop:=(∃ws,IX wr p=some ws/\∃w∈ws,LU[EL w]?=some y/\∀a∈ws,EL w<=EL a)/\∀q∈wr,p<=q.1
def zB(wr:Wr):Prop:=wr≠[]/\wr.length<=8/\∀p∈wr,p.2≠[]/\p.2.length<=8/\∀w∈p.2,w<8
theorem SC{wr:Wr}{p:Nat×List Nat}(h:p∈wr):∃ws,IX wr p.1=some ws:=by
 induction wr with
 |nil=>cases h
 |cons q r a=>
  unfold IX;by_cases e:q.1=p.1
  ·exact⟨_,A36 e⟩
  ·rw[A35 e];rcases BK.mp h with rfl|h
   ·exact A38 rfl e
   ·exact a h
theorem LV{wr:Wr}{n:Nat}{ws:List Nat}(h:IX wr n=some ws):∃p∈wr,p.1=n/\p.2=ws:=by
 induction wr with
 |nil=>cases h
 |cons q r a=>
  unfold IX at h;by_cases e:q.1=n
  ·rw[A36 e]at h;exact⟨q,.head _,e,AR h⟩
  ·rw[A35 e]at h;obtain⟨p,b,r⟩:=a h;exact⟨p,.tail _ b,r⟩
theorem oI{w:Nat}(h:w<8):EL w<7:=by
 have all:∀m:Fin 8,EL m.val<7:=by decide
 exact all ⟨w,h⟩
def iO:Sp:=λvs H Q _=>∃v wr,vs=[v]/\A7 H wr v/\zB wr/\∀p y,rr wr p y->∀t H',BC H H'->H' t=some (.tup [.int (p:Nat),.str y])->Q (.ref t) H'
theorem A1W: ((["_law_way"]:List Bx) ++ (["_law_ranks"]:List Bx)).Nodup:=by decide+kernel
theorem uR(T:Tx K mg):Cm P w K mg base DS 1 994 (Br K 994) ["_law_wrong"] iO:=by
 refine T.nF.ok SM (λvs H Q E h=>?_) (λcdv A outer s H vs Q E hr h=>?_)
 ·obtain⟨v,wr,rfl,_⟩:=h;rfl
 ·obtain⟨v,wr,rfl,hw,hok,q⟩:=h;have hu:=hr.units;have J:=Cp (Cy (show 1<=64 by decide) _) hu;refine⟨_,BE (Ct (i:=1) SM.nd rfl (Di rfl) (WB (EG Bc Bc (EG Bc Bc (EG Bc Bc (EG Bc Bc (EG Bc Bc (EG Bc Bc (EG Bc Bc (EG Bc Bc Wz)))))))) rfl rfl Aa Aa)) (BE (Ct (i:=2) SM.nd rfl (BP rfl) (DO (AS Bs (AS Bs (AS Bs (AS Bs (AS Bs (AS Bs (AS Bs AZ))))))))) (BE (Ct (i:=3) SM.nd rfl (BP rfl) (BJ (JB rfl) rfl T.mX gd (AS (Gj (YR rfl) rfl T.Il Gi (AS (pv 0) AZ)) AZ))) (Bk (BH (Fq (AS (pv 3) (AS (Dp Dz (pv 2) (BJ (JB rfl) rfl T.mX gd (AS (DY (ts:=["_law_way"]) (xs:=["_law_ranks"]) (js:=[1]) rfl ⟨rfl,rfl,Ab,Ab,DZ rfl⟩ (.cons rfl (.inl rfl) rfl .nil) Ab (Ez (CT J (pv 0) (pv 3) (λ_ _=>rfl))) (λC s_ H_ fp=>CN (X:=Ee _ _ _ C s_ H_ fp) (i:=0) A1W rfl (BP rfl) (Di rfl)) (λC s_ H_ fp=>DB (X:=Ee _ _ _ C s_ H_ fp)) (λC s_ H_ fp=>CT (X:=Ee _ _ _ C s_ H_ fp) J (pv 1) (pv 0) (λ_ _=>rfl))) AZ)) (λ_ _=>rfl)) AZ))))))),?_⟩;refine Df (λb H'=>∃r,b=[some v,some (.ref r),none,none]/\BC H H'/\H' r=some (.dK (Jv [] oJ))) ?_ ?_
  ·exact λp L=>⟨AX,oJ,rfl,Aa,p,rfl,by rw[Fo];exact BM L,AX⟩
  rintro b H1 ⟨r,rfl,s1,Kr⟩;refine Df (λb H'=>∃wl,b=[some v,some (.ref r),some (.ref wl),none]/\BC H1 H'/\H' wl=some (.lst (LU.map V.str))) ?_ ?_
  ·exact⟨zl 7,λwl hwl=>⟨wl,rfl,BM hwl,AX⟩⟩
  rintro b H2 ⟨wl,rfl,s2,hwl⟩;have G:=s1.trans s2;have o:=hw.same G;obtain⟨a2,b1,Z⟩:=hok;refine Df (λb H'=>∃(M:Nat) (ws:List Nat),b=[some v,some (.ref r),some (.ref wl),some (.int (M:Nat))]/\BC H2 H'/\IX wr M=some ws/\∀q∈wr,M<=q.1) ?_ ?_
  ·obtain⟨a,as,rfl,F,L⟩:=o;refine⟨_,rfl,a,_,rfl,F,λl hl=>?_⟩;refine⟨l,wr.map λp=>((p.1:Nat):Int),rfl,Dk.of (by rw[AX,iy L.length]),?_,λM h1 h2=>?_⟩
   ·rw[AV];exact ET.mpr a2
   ·obtain⟨p,a0,rfl⟩:=Bm.mp h1;obtain⟨ws,f⟩:=SC a0;refine⟨p.1,ws,rfl,BM hl,f,λq hq=>?_⟩;have:=h2 _ (Bm.mpr ⟨q,hq,rfl⟩);omega
  rintro b H3 ⟨M,ws,rfl,U,f,N⟩;have W:=o.same U;obtain⟨a,as,rfl,F,L⟩:=W;obtain⟨l,hl,x⟩:=ln L f;have Y:=U _ _ (s2 _ _ Kr);obtain⟨p0,a1,_,e0⟩:=LV f;obtain⟨u,I,z⟩:=Z p0 a1;rw[e0]at u I z;have O:Go H3 a (.int (M:Nat)) (some (.ref l)):=by
   have:=Go.rd (k:=.inl ((M:Nat):Int)) F;rw[hl]at this;exact this
  refine⟨_,rfl,_,rfl,_,rfl,_,rfl,a,_,rfl,O,l,rfl,⟨_,Dk.of x⟩,Du (Wk.list (Dk.of x)) (by rw[AV];omega) (λj=>.int (match ws[j]? with|some w=>((EL w:Nat):Int)|none=>0)) (λj y hy S R s4 hR=>?_) (λD S hD s4 e4=>?_)⟩
  ·rw[Bj]at hy;obtain⟨c,n,rfl⟩:=BS.mp hy;have a4:R (.int ((EL c:Nat):Int)) S:=by
    have:=hR S λ_ _ e=>e;rw[n]at this;exact this
   have hg:Go S r (.int ((c:Nat):Int)) (some (.int ((EL c:Nat):Int))):=by
    have:=Go.k (k:=.inl ((c:Nat):Int)) (s4 _ _ Y);rw[yt (z c (Bp n))]at this;exact this
   exact⟨Sub.set rfl,_,rfl,_,rfl,r,_,rfl,hg,a4⟩
  ·have e5:S D=some (.lst ((ws.map λw=>((EL w:Nat):Int)).map V.int)):=by
    rw[e4,AV,HS ws (λw=>V.int ((EL w:Nat):Int)) _ (λi d hd=>by rw[hd]),Cf];rfl
   refine⟨D,_,rfl,Dk.of e5,?_,λm h1 h2=>?_⟩
   ·rw[AV];exact ET.mpr u
   ·obtain⟨c,n,rfl⟩:=Bm.mp h1;have B:=oI (z c n);have g:LU[EL c]?=some (LU[EL c]'B):=AW B;refine⟨wl,_,_,_,rfl,rfl,Dk.of (s4 _ _ (U _ _ hwl)),EK (j:=EL c) (v:=.str (LU[EL c]'B)) (by rw[Bj,g];rfl),zl 2,λt ht=>?_⟩;refine q M _ ⟨⟨ws,f,c,n,g,λw2 o=>?_⟩,N⟩ t _ (((G.trans U).trans s4).trans (BM ht)) AX;have:=h2 _ (Bm.mpr ⟨w2,o,rfl⟩);omega
theorem OI{c:Type}{l m:List c}(h:l.Perm m)(p:c->Bool):l.all p=m.all p:=by
 rw[Fw,BI,BI];exact⟨λa x b=>a x (h.mem_iff.mpr b),λa x b=>a x (h.mem_iff.mp b)⟩
theorem Rk{a:Type}{l m:List a}(h:l.Perm m):l.Nodup ↔ m.Nodup:=⟨h.nodup,h.symm.nodup⟩
theorem tQ{l m:List Int}(h:l.Perm m):l.sum=m.sum:=by
 induction h with
 |nil=>rfl
 |cons x _ c=>rw[EM,EM,c]
 |swap x y l=>rw[EM,EM,EM,EM];omega
 |trans _ _ a b=>exact a.trans b
theorem qQ{l m:List Int}(h:l.Perm m):Rm l=Rm m:=by
 by_cases e:l=[]
 ·subst e;rw[List.nil_perm.mp h]
 ·exact fN (h.mem_iff.mp (KN e)) λa ha=>Tq (h.mem_iff.mpr ha)
theorem HR{ws:List (Bx×Int)}{c:Bool}{es a:List Ex}(h:es.Perm a):DX ws c es=DX ws c a:=by
 unfold DX;rw[qQ (h.map (EI ws)),tQ ((h.filter JV).map (EI ws))]
theorem OE{ws:List (Bx×Int)}{c:Bool}{es b:List Ex}{gone a:List Int}(h:es.Perm b)(d:gone.Perm a):HH ws c es gone=HH ws c b a:=by
 have g:Gb es=Gb b:=by
  unfold Gb;rw[OI h,decide_eq_decide.mpr (Rk (h.map λe=>XF (Rl e)))]
 have f:Ec es gone=Ec b a:=by
  unfold Ec JF;rw[OI h,OI d,decide_eq_decide.mpr (Rk ((h.map λe=>vj (Tn e)).append d))]
 unfold HH;rw[g,f,OI h,OI h (pE c),HR h]
structure KS(gs:List SG)(Ws:List Int)(k:Nat)(ws:List (Bx×Int)):Prop where
 len:ws.length=k
 at_:∀i,i<k->∃g x,gs[i]?=some g/\ws[i]?=some (g.nam,x)/\1<=x/\x<=Ws.getD i 0
theorem ls{gs:List SG}{Ws:List Int}{k:Nat}{ws:List (Bx×Int)}(h:KS gs Ws k ws)(hn: (gs.map (·.nam)).Nodup){i:Nat}(hi:i<k){g:SG}(n:gs[i]?=some g):∃x,SE ws g.nam=some x/\1<=x/\x<=Ws.getD i 0:=by
 obtain⟨g',x,l,m,h1,h2⟩:=h.at_ i hi;obtain rfl:g=g':=AR (n.symm.trans l);refine⟨x,?_,h1,h2⟩;unfold SE;have r:ws.find? (λp=>decide (p.1=g.nam))=some (g.nam,x):=by
  refine List.find?_eq_some_iff_append.mpr ⟨A32 rfl,ws.take i,ws.drop (i+1),?_,λp q=>?_⟩
  ·have a:i<ws.length:=by rw[h.len];exact hi
   have e:ws[i]'a=(g.nam,x):=by rw[AW a]at m;exact AR m
   rw[<-e,<-Gh a,Ic]
  ·obtain⟨j,d⟩:=DW.mp q;have c:j<i:=by
    have:=(Bi.mp d).1;rw[Bt]at this;omega
   rw[Da c]at d;obtain⟨g2,o,f,b,_⟩:=h.at_ j (by omega);obtain rfl:p=(g2.nam,o):=AR (d.symm.trans b);rw[Bool.not_eq_true',decide_eq_false_iff_not];intro e;have:j=i:=LZ hn (by rw[Bj,f];rfl) (by rw[Bj,n];show some g.nam=some g2.nam;rw[show g2.nam=g.nam from e]);omega
 rw[r];rfl
theorem To{gs:List SG}{Ws:List Int}{k:Nat}{ws:List (Bx×Int)}(h:KS gs Ws k ws){z:Bx}(f:∀i g,i<k->gs[i]?=some g->g.nam≠z):UK ws (.str z)=false:=by
 show(SE ws z).isSome=false;unfold SE;rw[List.find?_eq_none.mpr λp l=>?_]
 ·rfl
 ·obtain⟨j,d⟩:=DW.mp l;have a:j<k:=by rw[<-h.len];exact(Bi.mp d).1
  obtain⟨g2,e,c,b,_⟩:=h.at_ j a;obtain rfl:p=(g2.nam,e):=AR (d.symm.trans b);simp only[decide_eq_true_eq];exact f j g2 a c
theorem MB{gs:List SG}{Ws:List Int}{k:Nat}{ws:List (Bx×Int)}(h:KS gs Ws k ws)(hn:EA (gs.map (·.nam)))(d:k<=gs.length){kd:Lk}(a:kd.plain\/∃i,kd= .form i/\i<k):MC ws (Kf gs kd)=true:=by
 rcases a with a|⟨i,rfl,hi⟩
 ·cases kd with
  |form i=>exact a.elim
  |list j=>exact a.elim
  |upto n=>
   show(decide (1<=n) &&decide (n<=MN))=true;have h1:1<=n:=a.1;have h2:n<=2 ^ 64:=a.2;rw[A32 h1,A32 (show n<=MN from Int.le_trans h2 Aa)];rfl
  |text n=>
   show(decide (1<=n) &&decide (n<=100))=true;rw[A32 a.1,A32 a.2];rfl
  |_=>rfl
 ·have b:gs[i]?=some (gs[i]'(by omega)):=AW _;obtain⟨x,c,_⟩:=ls h hn.nd hi b;have e:Ll gs i=(gs[i]'(by omega)).nam:=by unfold Ll;rw[b];rfl
  show(Ih (Ll gs i) && (SE ws (Ll gs i)).isSome)=true;rw[e,c,(hn.ok _ (Bm.mpr ⟨_,Bp b,rfl⟩)).1];rfl
theorem cb{gs:List SG}{Ws:List Int}{k:Nat}{ws:List (Bx×Int)}(h:KS gs Ws k ws)(hn:EA (gs.map (·.nam)))(b:k<=gs.length){kd:Lk}(a:kd.ok k):Ii ws (Kf gs kd)=true:=by
 cases kd with
 |list j=>exact MB h hn b (kd:=j) a
 |form i=>exact MB h hn b (kd:=.form i) (.inr ⟨i,rfl,a⟩)
 |truth=>rfl
 |count=>rfl
 |whole=>rfl
 |upto n=>exact MB h hn b (kd:=.upto n) (.inl a)
 |text n=>exact MB h hn b (kd:=.text n) (.inl a)
theorem mO(gs:List SG){k:Lk}{n:Nat}(a:k.ok n):JS (Kf gs k) (Ep k)=true:=by
 cases k with
 |upto n=>
  show((decide (0<= (0:Int)) &&decide ((0:Int)<=n)) &&decide ((0:Int)=0))=true;have h1:1<=n:=a.1;rw[A32 (show(0:Int)<=n by omega)];rfl
 |text n=>
  show((!decide ((("" :Bx).length:Int) >n) && ("" :Bx).cps.toList.all MD) &&decide (("" :Bx)=""))=true;have h1:1<=n:=a.1;rw[A33 (show ¬ (("" :Bx).length:Int) >n by show ¬ ((0:Nat):Int) >n;omega)];rfl
 |list j=>rfl
 |form i=>rfl
 |truth=>rfl
 |count=>exact(by decide+kernel:JS .count (.int 0)=true)
 |whole=>exact(by decide+kernel:JS .whole (.int 0)=true)
theorem aI{z:Bx}(h:Ih z=true):z.cps.toList.all MD=true:=by
 refine BI.mpr λc hc=>?_;have:=BI.mp (HY h).2.2 c hc;have a:97<=c/\c<=122:=by
  by_cases h1:c<97
  ·rw[yP h1]at this;cases this
  ·refine⟨by omega,?_⟩;unfold zc at this;rw[StrLaws.found_one,wg]at this;have:=A34 this;simp only[BK,Cq,or_false]at this;omega
 unfold MD;rw[A32 (show(32:Int)<= (c:Int)by omega),A32 (show(c:Int)<=126 by omega),A32 (show ¬ (c:Int)=37 by omega)];rfl
theorem rs(gs:List SG){f:SF}{c:Bool}{n:Nat}{W:List Int}(h:wk n W c f):OF (Rn gs f) c=true:=by
 have hm: (f.must&&c)=false:=by
  cases hc:c with
  |false=>rw[Iv]
  |true=>rw[h.must hc];rfl
 show(Jd (.bl f.must) && (!(f.must&&c) && (JS (Kf gs f.kind) f.dfl|| (!(f.must|| (c|| !Ot (Kf gs f.kind))) && (!(MQ (Kf gs f.kind) && !ED f.dfl) &&Fp (Kf gs f.kind) f.dfl)))))=true;rw[hm];rcases h.dfl with hd|⟨h1,h2,hd⟩
 ·rw[hd,mO gs h.kind];rfl
 ·rw[h1,h2];have key:Ot (Kf gs f.kind)=true/\(MQ (Kf gs f.kind) && !ED f.dfl)=false/\Fp (Kf gs f.kind) f.dfl=true:=by
   cases a:f.kind with
   |truth=>rw[a]at hd;rw[show f.dfl= .bl true from hd];exact⟨rfl,rfl,rfl⟩
   |text n=>
    rw[a]at hd;obtain⟨z,e,d,g⟩:=hd;rw[e];refine⟨rfl,?_,?_⟩
    ·show(true&& !Ih z)=false;rw[d];rfl
    ·show(!decide ((z.length:Int) >n) &&z.cps.toList.all MD)=true;rw[A33 (show ¬ (z.length:Int) >n by omega),aI d];rfl
   |upto m=>
    rw[a]at hd;obtain⟨i,e,b,h1⟩:=hd;rw[e];refine⟨rfl,rfl,?_⟩;show(decide (0<=i) &&decide (i<=m))=true;rw[A32 b,A32 h1];rfl
   |whole=>
    rw[a]at hd;obtain⟨i,e,b,h1⟩:=hd;rw[e];refine⟨rfl,rfl,?_⟩;show(decide (-MW - 1<=i) &&decide (i<=MW))=true;rw[A32 (show -MW - 1<=i from Int.le_trans Aa b),A32 (show i<=MW from Int.le_trans h1 Aa)];rfl
   |count=>
    rw[a]at hd;obtain⟨i,e,b,h1⟩:=hd;rw[e];refine⟨rfl,rfl,?_⟩;show(decide (0<=i) &&decide (i<=MN))=true;rw[A32 b,A32 (show i<=MN from Int.le_trans h1 Aa)];rfl
   |form i=>rw[a]at hd;exact hd.elim
   |list j=>rw[a]at hd;exact hd.elim
  obtain⟨k1,k2,k3⟩:=key;rw[k1,k2,k3];cases JS (Kf gs f.kind) f.dfl <;> rfl
theorem qS{gs:List SG}{Ws:List Int}{k:Nat}{ws:List (Bx×Int)}(h:KS gs Ws k ws)(hn:EA (gs.map (·.nam)))(g:k<=gs.length){f:SF}(b:f.kind.ok k):1<=EI ws (DG gs f)/\EI ws (DG gs f)<=FD (Ws.take k) f.kind:=by
 show 1<=bZ ws (Kf gs f.kind)/\bZ ws (Kf gs f.kind)<=_;cases a:f.kind with
 |form i=>
  rw[a]at b;have hi:i<k:=b;have c:gs[i]?=some (gs[i]'(by omega)):=AW _;obtain⟨x,d,h1,h2⟩:=ls h hn.nd hi c;have e:Ll gs i=(gs[i]'(by omega)).nam:=by unfold Ll;rw[c];rfl
  show 1<= (SE ws (Ll gs i)).getD 0/\(SE ws (Ll gs i)).getD 0<= (Ws.take k).getD i 0;rw[e,d];refine⟨h1,?_⟩;rw[BD,Da hi,<-BD];exact h2
 |_=>exact⟨Jr _,Jr _⟩
theorem fg{d:Type}(p:d->Bool)(a b:d->Int):∀(l:List d) (n:Nat),(∀x∈l,0<=a x/\a x<=b x)->0<= (((l.take n).filter p).map a).sum/\(((l.take n).filter p).map a).sum<= ((l.filter p).map b).sum
 |[],n,_=>by
  cases n <;> exact⟨Jr _,Jr _⟩
 |x::l,0,h=>by
  refine⟨Jr _,?_⟩;show(0:Int)<=_;have:=fg p a b l 0 λy e=>h y (.tail _ e);have g:=h x (.head _);have i: (0:Int)<= ((l.filter p).map b).sum:=by
   have h2:=this.2;rw[List.take_zero]at h2;exact h2
  cases c:p x with
  |true=>rw[CD c,BV,EM];omega
  |false=>rw[Dd (by rw[c];decide)];exact i
 |x::l,n+1,h=>by
  have f:=fg p a b l n λy e=>h y (.tail _ e);have g:=h x (.head _);rw[IQ];cases c:p x with
  |true=>
   rw[CD c,CD c,BV,BV,EM,EM];omega
  |false=>
   rw[Dd (by rw[c];decide),Dd (by rw[c];decide)];exact f
theorem rk(gs:List SG)(fs:List SF): (fs.map (DG gs)).filter JV=(fs.filter (·.must)).map (DG gs):=by
 rw[List.filter_map];rfl
theorem mJ{gs:List SG}{Ws:List Int}{k:Nat}{ws:List (Bx×Int)}(h:KS gs Ws k ws)(hn:EA (gs.map (·.nam)))(B:k<=gs.length){g:SG}(p:A8 k (Ws.take k) g)(hW:kj (Ws.take k))(A: (Ws.take k).length=k):
  1<=DX ws g.choice ((g.fields.take 6).map (DG gs))/\DX ws g.choice ((g.fields.take 6).map (DG gs))<=IW (Ws.take k) g.choice g.fields:=by
 have ld:∀f∈g.fields,1<=EI ws (DG gs f)/\EI ws (DG gs f)<=FD (Ws.take k) f.kind:=λf c=>qS h hn B (p.fs f c).kind;unfold DX IW;cases hc:g.choice with
 |false=>
  rw[A35 Aa,A35 Aa,rk,Cf];have:=fg (·.must) (λf=>EI ws (DG gs f)) (λf=>FD (Ws.take k) f.kind) g.fields 6 λf c=>⟨by have:=ld f c;omega,(ld f c).2⟩;have e: (((g.fields.take 6).filter (·.must)).map (EI ws∘ DG gs)).sum=(((g.fields.take 6).filter (·.must)).map (λf=>EI ws (DG gs f))).sum:=rfl;rw[e];omega
 |true=>
  rw[A36 rfl,A36 rfl,Cf];have m:=p.ne hc;have j:g.fields.take 6≠[]:=by
   intro z;have w:=A37 List.length z;rw[Bt,QL]at w;have h1:0<g.fields.length:=ET.mpr m;omega
  have n:=KN (l:=(g.fields.take 6).map (EI ws∘ DG gs)) (λz=>j (Ls.mp z));obtain⟨v,u,H⟩:=Bm.mp n;have h1:=ld v (CA u);have G:EI ws (DG gs v)=Rm ((g.fields.take 6).map (EI ws∘ DG gs)):=H;refine⟨by omega,?_⟩;have r:=KN (l:=g.fields.map λf=>FD (Ws.take k) f.kind) (λz=>m (Ls.mp z));obtain⟨f1,b,F⟩:=Bm.mp r;have E:FD (Ws.take k) f1.kind=Rm (g.fields.map λf=>FD (Ws.take k) f.kind):=F;have h2:=ld f1 b;by_cases D:g.fields.length<=6
  ·have x:g.fields.take 6=g.fields:=HC D;have:=Tq (l:=(g.fields.take 6).map (EI ws∘ DG gs)) (a:=EI ws (DG gs f1)) (by rw[x];exact Bm.mpr ⟨f1,b,rfl⟩);omega
  ·obtain⟨f2,t,d⟩:∃f∈g.fields.take 6,jF f.kind=false:=by
    refine Classical.byContradiction λq=>?_;have o:∀f∈g.fields.take 6,jF f.kind=true:=λf c=>by
     cases C:jF f.kind with
     |true=>rfl
     |false=>exact A38 ⟨f,c,C⟩ q
    have hs: ((g.fields.take 6).filter λf=>jF f.kind).length<= (g.fields.filter λf=>jF f.kind).length:=((Gq 6 g.fields).filter _).length_le;rw[UY.mpr o,Bt]at hs;have:=p.few;omega
   have h3:EI ws (DG gs f2)=1:=by
    show bZ ws (Kf gs f2.kind)=1;cases s:f2.kind with
    |form i=>rw[s]at d;cases d
    |_=>rfl
   have:=Tq (l:=(g.fields.take 6).map (EI ws∘ DG gs)) (a:=EI ws (DG gs f2)) (Bm.mpr ⟨f2,t,rfl⟩);have y:=fP hW (k:=f1.kind) (by rw[A];exact(p.fs f1 b).kind);omega
theorem mH{gs:List SG}{Ws:List Int}{k:Nat}{ws:List (Bx×Int)}(h:KS gs Ws k ws)(hs:Gn gs Ws)(hW:kj Ws){g:SG}(l:gs[k]?=some g)(B:gs.length<=6){es:List Ex}{gone:List Int}(b:es.Perm ((g.fields.take 6).map (DG gs)))(j:gone.Perm g.gone):
  Fk ws (.form ⟨g.choice,.str g.nam,some es,gone⟩)="" /\1<=DX ws g.choice es/\DX ws g.choice es<=Ws.getD k 0:=by
 have s:k<gs.length:=(Bi.mp l).1;have hn:=hs.nms;have a:=hs.ok k g l;have d: (Ws.take k).length=k:=by rw[Bt,<-hs.len];omega
 have q:kj (Ws.take k):=λi w e=>by
  have hi:i<k:=by have:=(Bi.mp e).1;omega
  rw[Da hi]at e;exact hW i w e
 have hw:=mJ h hn (Gp s) a q d;rw[<-HR b]at hw;have n:=hs.ws k g l;have u:=hW k _ n;have x:Ws.getD k 0=IW (Ws.take k) g.choice g.fields:=by rw[BD,n];rfl
 refine⟨?_,hw.1,by rw[x];exact hw.2⟩;have hnm:=hn.ok g.nam (Bm.mpr ⟨g,Bp l,rfl⟩);show(if (Ih g.nam&& !UK ws (.str g.nam))=false then ("name" :Bx)else if Gz ⟨g.choice,.str g.nam,some es,gone⟩=false then ("many" :Bx)else HH ws g.choice es gone)=""
 have o:UK ws (.str g.nam)=false:=To h λi g2 hi p e=>by
  have:i=k:=LZ hn.nd (by rw[Bj,p];rfl) (by rw[Bj,l];show some g.nam=some g2.nam;rw[e]);omega
 rw[hnm.1,o,A35 Aa];have v:es.length=min 6 g.fields.length:=by rw[b.length_eq,AV,Bt]
 have hsz:Gz ⟨g.choice,.str g.nam,some es,gone⟩=true:=by
  show((decide ((if g.choice then (1:Int)else 0)<= (es.length:Int)) &&decide ((es.length:Int)<=10)) &&decide ((gone.length:Int)<=10))=true
  have hgl:=a.gl;have r: (if g.choice then (1:Int)else 0)<= (es.length:Int):=by
   cases hc:g.choice with
   |false=>show(0:Int)<=_;omega
   |true=>
    show(1:Int)<=_;have:=ET.mpr (a.ne hc);omega
  rw[A32 r,A32 (show(es.length:Int)<=10 by omega),A32 (show(gone.length:Int)<=10 by rw[j.length_eq];omega)];rfl
 rw[hsz,A35 Aa,OE b j];have mem:∀e∈ (g.fields.take 6).map (DG gs),∃f∈g.fields,e=DG gs f:=λe b=>by
  obtain⟨f,c,rfl⟩:=Bm.mp b;exact⟨f,CA c,rfl⟩
 have r:Gb ((g.fields.take 6).map (DG gs))=true:=by
  unfold Gb;rw[BZ];refine⟨BI.mpr λe b=>?_,A32 ?_⟩
  ·obtain⟨f,c,rfl⟩:=mem e b;exact(a.nms.ok f.nam (Bm.mpr ⟨f,c,rfl⟩)).1
  ·rw[Cf];show((g.fields.take 6).map (·.nam)).Nodup;exact a.nms.nd.sublist ((Gq 6 g.fields).map _)
 have A:Ec ((g.fields.take 6).map (DG gs)) g.gone=true:=by
  unfold Ec JF;rw[BZ,BZ];have t:=a.nums.bd;have am:∀m:Int,1<=m/\m<=200->KZ (.int m) 1 200=true:=λm hm=>by
   show(decide (1<=m) &&decide (m<=200))=true;rw[A32 hm.1,A32 hm.2];rfl
  refine⟨⟨BI.mpr λe b=>?_,BI.mpr λm hm=>am m (t m (BU _ hm))⟩,A32 ?_⟩
  ·obtain⟨f,c,rfl⟩:=mem e b;exact am f.num (t f.num (CF _ (Bm.mpr ⟨f,c,rfl⟩)))
  ·rw[Cf];show((g.fields.take 6).map (·.num) ++g.gone).Nodup;exact a.nums.nd.sublist (((Gq 6 g.fields).map _).append (List.Sublist.refl _))
 have z: (((g.fields.take 6).map (DG gs)).all λe=>Ii ws (JW e))=true:=BI.mpr λe b=>by
  obtain⟨f,c,rfl⟩:=mem e b;exact cb h hn (Gp s) (a.fs f c).kind
 have y: ((g.fields.take 6).map (DG gs)).all (pE g.choice)=true:=BI.mpr λe b=>by
  obtain⟨f,c,rfl⟩:=mem e b;exact rs gs (a.fs f c)
 unfold HH;rw[r,A,z,y,<-HR b,A35 Aa,A35 Aa,A35 Aa,A35 Aa,A35];have: (Ws.take k).length=k:=d;omega
def OM(gs:List SG)(g:SG)(o:Ox):Prop:=∃es gone,o= .form ⟨g.choice,.str g.nam,some es,gone⟩/\es.Perm ((g.fields.take 6).map (DG gs))/\gone.Perm g.gone
theorem fW{gs:List SG}{Ws:List Int}(hs:Gn gs Ws)(hW:kj Ws)(j:gs.length<=6){os:List Ox}:∀p,p<=os.length->p<=gs.length->(∀i o g,i<p->os[i]?=some o->gs[i]?=some g->OM gs g o)->∃ws,KS gs Ws p ws/\mD os [] 0=mD (os.drop p) ws p
 |0,_,_,_=>⟨[],⟨rfl,λi hi=>A38 hi (Nat.not_lt_zero _)⟩,rfl⟩
 |p+1,h1,h2,h=>by
  obtain⟨ws,ha,e⟩:=fW hs hW j p (by omega) (by omega) λi o g hi=>h i o g (by omega);have k:os[p]?=some (os[p]'(by omega)):=AW _;have a:gs[p]?=some (gs[p]'(by omega)):=AW _;generalize gs[p]'(by omega)=g at a;obtain⟨es,gone,n,m,f⟩:=h p _ g (by omega) k a;obtain⟨l,d,c⟩:=mH ha hs hW a j m f;have q:os.drop p= .form ⟨g.choice,.str g.nam,some es,gone⟩::os.drop (p+1):=by
   rw[Gh (show p<os.length by omega),n]
  rw[q,JI,A36 l]at e;refine⟨ws++[(g.nam,DX ws g.choice es)],⟨by rw[Bh,ha.len];rfl,λi hi=>?_⟩,e⟩;by_cases b:i<p
  ·obtain⟨g',x,h1,h2,h3⟩:=ha.at_ i b;exact⟨g',x,h1,by rw[CU (by rw[ha.len];exact b)];exact h2,h3⟩
  ·obtain rfl:i=p:=by omega
   refine⟨g,_,a,?_,d,c⟩;rw[CB (by rw[ha.len];exact Bv _),ha.len,Nat.sub_self];rfl
theorem rG{gs:List SG}{Ws:List Int}(hs:Gn gs Ws)(hW:kj Ws)(f:gs.length<=6)(h1:1<=gs.length)(hlast:∀g,gs[gs.length - 1]?=some g->g.choice=false){os:List Ox}(d:os.length=gs.length)(c:∀(i:Nat) o g,os[i]?=some o->gs[i]?=some g->OM gs g o):∃ws,Ij os= .inr ws:=by
 obtain⟨ws,ha,e⟩:=fW hs hW f os.length (Bv _) (by omega) λi o g _=>c i o g;rw[List.drop_length]at e;refine⟨ws,?_⟩;unfold Ij;rw[e];have b:os.getLast?=some (os[os.length - 1]'(by omega)):=by rw[MZ,AW (by omega)]
 have a:gs[os.length - 1]?=some (gs[os.length - 1]'(by omega)):=AW _;obtain⟨es,gone,h,_⟩:=c (os.length - 1) _ _ (AW (by omega)) a;have hc:=hlast _ (by rw[<-d];exact a);rw[b];show(if TD (os[os.length - 1]'(by omega))=true then _ else _)=_
 rw[h];show(if (gs[os.length - 1]'(by omega)).choice=true then _ else _)=_
 rw[hc];rfl
theorem vU{gs:List SG}{Ws:List Int}(hs:Gn gs Ws)(hW:kj Ws)(h:gs.length<=6){os:List Ox}(k:os.length=gs.length){p:Nat}(j:p<gs.length){y:Bx}(d:y≠ "")(f:∀i o g,i<p->os[i]?=some o->gs[i]?=some g->OM gs g o){o:Ox}(c:os[p]?=some o)(a:∀ws,KS gs Ws p ws->Fk ws o=y):Ij os= .inl (p,y):=by
 obtain⟨ws,ha,e⟩:=fW hs hW h p (by omega) (by omega) f;have b:os[p]'(by omega)=o:=by
  rw[AW (show p<os.length by omega)]at c;exact AR c
 rw[Gh (show p<os.length by omega),b,JI,a ws ha,A35 d]at e;unfold Ij;rw[e]
theorem rF{gs:List SG}{Ws:List Int}(hs:Gn gs Ws)(hW:kj Ws)(f:gs.length<=6){os:List Ox}(c:os.length=gs.length)(d:∀(i:Nat) o g,os[i]?=some o->gs[i]?=some g->OM gs g o){o:Ox}(hc:TD o=true)(b:∀ws,KS gs Ws gs.length ws->Fk ws o=""):Ij (os++[o])= .inl (gs.length,"head"):=by
 obtain⟨ws,ha,e⟩:=fW (os:=os++[o]) hs hW f gs.length (by rw[Bh];omega) (Bv _) λi o' g hi a=>d i o' g (by rw[CU (by omega)]at a;exact a);rw[<-c,List.drop_left,c,JI,b ws ha,A36 rfl]at e;unfold Ij;rw[e];show(if (((os++[o]).getLast?).map TD).getD false=true then _ else _)=_
 rw[List.getLast?_concat];show(if TD o=true then _ else _)=_
 rw[hc,A36 rfl,Bh,c];rfl
abbrev HV:=Hp->V->Prop
def Mo(R:HV):Prop:=∀H H' v,BC H H'->R H v->R H' v
def tR(R:HV):TE:=λ_ H Q=>∀v H',BC H H'->R H' v->Q v H'
def Y3(Rs:List HV):TA:=λ_ H Q=>∀vs H',BC H H'->Paired (λR v=>R H' v) Rs vs->Q vs H'
def A15(Rs:List HV):HV:=λH v=>∃l xs,v= .ref l/\H l=some (.lst xs)/\Paired (λR x=>R H x) Rs xs
theorem Mo.all{Rs:List HV}(h:∀R∈Rs,Mo R){H H':Hp}(s:BC H H'):∀{vs:List V},Paired (λR v=>R H v) Rs vs->Paired (λR v=>R H' v) Rs vs:=by
 induction Rs with
 |nil=>intro vs p;cases p;exact .nil
 |cons R Rs b=>
  intro vs p;cases p with
  |cons a r=>exact .cons (h R (.head _) _ _ _ s a) (b (λR c=>h R (.tail _ c)) r)
section
variable{X:Cx}{e:Expr}{es:List Expr}{R R':HV}{Rs:List HV}
unseal L2.PE in
theorem Jc{t t':TE}(h:PE X e t)(hi:∀σ H Q,t' σ H Q->t σ H Q):PE X e t':=by
 exact λpZ s σ H Q I q=>h pZ s σ H Q I (hi _ _ _ q)
unseal L2.PA in
theorem uD{t t':TA}(h:PA X es t)(hi:∀σ H Q,t' σ H Q->t σ H Q):PA X es t':=by
 exact λpos pZ s σ H Q I q=>h pos pZ s σ H Q I (hi _ _ _ q)
theorem Fi{v:V}(h:PE X e (tC v))(a:∀H,R H v):PE X e (tR R):=Jc h λ_ H Q q=>q v H (BC.refl _) (a H)
theorem En:PA X [] (Y3 []):=uD AZ λ_ H Q q=>q [] H (BC.refl _) .nil
theorem By(hm:Mo R)(d:PE X e (tR R))(hs:PA X es (Y3 Rs))(a:Cn (e::es) X.env=(false,eval e X.env)::Cn es X.env:=by rfl):PA X (e::es) (Y3 (R::Rs)):=uD (AS d hs a) λ_ H Q q v H1 s1 b vs H2 s2 c=>q (v::vs) H2 (s1.trans s2) (.cons (hm _ _ _ s2 b) c)
theorem Oq{pos:Pos}(hm:∀R∈Rs,Mo R)(c:Rs.length<=1000)(hs:PA X es (Y3 Rs)):PE X (.List es pos) (tR (A15 Rs)):=Jc (DO hs) λ_ H Q q vs H1 s1 b=>⟨by rw[<-b.length];exact Gp (Ea c),λp a=>q _ _ (s1.trans (BM a)) ⟨p,vs,rfl,AX,Mo.all hm (BM a) b⟩⟩
theorem KM{H:Hp}{x dx:Ba}{C:Ba}{fs:List (Bx×V)}(c:H x=none)(b:H dx=none)(a:dx≠x):BC H (upd (upd H dx (.own x)) x (.ins C dx fs)):=by
 refine(BM b).trans (BM ?_);rw[Bo (DP a)];exact c
theorem FH{k:Nat}{C f:Ba}{fd:Ek}{ps:List Bx}{fld x:Bx}{p pos:Pos}(mo:Mo R)(M:Mk X.K C f)(F:Cm X.prog X.w X.K X.mg X.base DS k f fd ps (Uz C fld))(n:Fm (k+1) X.A)(o:Gl X x)(hm:X.mg x=some (.ref C))(r:CC X.K fd ps [])(l:JT DS X E0)(ha:PE X e (tR R))(h: (x==("__debug__" :Bx))=false:=by decide)(b:Cn [e] X.env=(false,eval e X.env)::Cn [] X.env:=by rfl)(g: (FL pos (Cn [] X.env)).any (·.1)=false:=by rfl):
  PE X (.Call (.Name x p) [e] [] pos) (tR λH v=>∃a dx u,v= .ref a/\H a=some (.ins C dx [(fld,u)])/\R H u):=Jc (Dy M F n o hm r .nil l (AS ha AZ b) h b g) λ_ H Q q u H1 s1 m y j i d c=>⟨y,j,u,rfl,AX,rfl,by
  rw[Fo];exact q _ _ (s1.trans (KM i d c)) ⟨y,j,u,rfl,AX,mo _ _ _ (KM i d c) m⟩⟩
theorem Ed{C:Ba}{x:Bx}{p pos:Pos}(makes:Lb X.K C=true)(init:Dh X.K (.ref C) "__init__"=some (some (.builtin "object.__init__")))(kp:FY X.K (.ref C)=true)(f:Gl X x)(hm:X.mg x=some (.ref C))(d: (x==("__debug__" :Bx))=false:=by decide):
  PE X (.Call (.Name x p) [] [] pos) (tR λH v=>∃a dx,v= .ref a/\H a=some (.ins C dx [])):=Jc (Ti makes init kp f hm d) λ_ H Q q y g e c b=>q _ _ (KM e c b) ⟨y,g,rfl,AX⟩
end
theorem NC(k:Kx):Mo λH v=>Rx H k v:=λ_ _ _ s h=>h.sm (Sm.of s)
theorem Jl(d:Dt):Mo λH v=>Th H d v:=λ_ _ _ s h=>Th.sm (Sm.of s) _ _ h
noncomputable def kh(nm:Bx):List Kx:=[.thing .non,.thing (.str "truth"),.bare,.list (.list .truth),.upto (.int 0),.upto (.bl true),.upto (.int ((2 ^ 64) ^ 4)),.text (.int 0),.text (.int 101),.text (.str "5"),.form (.str nm),.form (.str "zzzzzzzzzzzz"),.list (.form .non),.list (.upto (.int (-1))),.form (.lst [])]
def oh:Sp:=λvs H Q _=>∃sv gs g k n,vs=[sv,.int ((k:Nat):Int),.int n]/\YW H gs sv/\gs[k]?=some g/\g.nam.length<=1000/\0<=n/\∀kd∈kh g.nam,∀v H',BC H H'->Rx H' kd v->Q v H'
def kR(ks:List Kx):List HV:=ks.map λk=>λH v=>Rx H k v
theorem cg(ks:List Kx):∀R∈kR ks,Mo R:=λR a=>by
 obtain⟨k,_,rfl⟩:=Bm.mp a;exact NC k
theorem A0u{H:Hp}:∀{ks:List Kx} {xs:List V},Paired (λR x=>R H x) (kR ks) xs->∀(i:Nat) x,xs[i]?=some x->∃k,ks[i]?=some k/\Rx H k x:=λ{ks xs} p i x b=>by
 obtain⟨R,a,h⟩:=Gf p i x b;unfold kR at a;rw[Bj]at a;obtain⟨k,c,rfl⟩:=BS.mp a;exact⟨k,c,h⟩
theorem yI(T:Tx K mg):Cm P w K mg base DS 3 970 (Br K 970) AJ oh:=by
 refine T.Xw.ok Lg (λvs H Q E h=>?_) (λcdv A outer s H vs Q E U h=>?_)
 ·obtain⟨sv,gs,g,k,n,rfl,_⟩:=h;rfl
 ·obtain⟨sv,gs,g,k,n,rfl,hs,hg,hgl,hn,q⟩:=h;have Z:=U.units;have D:=Cp (Cy (show 1<=64 by decide) _) Z;have Kr:Fm (1+1) _:=U.mono Aa;refine⟨_,BE (Ct (i:=3) Lg.nd rfl (BP rfl) (Oq (cg [.thing .non,.thing (.str "truth"),.bare,.list (.list .truth),.upto (.int 0),.upto (.bl true),.upto (.int ((2 ^ 64) ^ 4))]) Aa (By (NC (.thing .non)) (Fi FC λ_=>rfl) (By (NC (.thing (.str "truth"))) (Fi Bs λ_=>⟨rfl,Aa⟩) (By (NC .bare) (Ed T.wZ T.ik T.wX rfl T.nc) (By (NC (.list (.list .truth))) (FH (NC (.list .truth)) ⟨T.Pa,T.IF,T.ID,T.OX⟩ (HX T) Kr rfl T.Mr T.II BR (FH (NC .truth) ⟨T.Pa,T.IF,T.ID,T.OX⟩ (HX T) Kr rfl T.Mr T.II BR (Ed T.Fb T.Dv T.Fa rfl T.EN))) (By (NC (.upto (.int 0))) (FH (Jl (.int 0)) ⟨T.OZ,T.IE,T.IB,T.OW⟩ (HW T) Kr rfl T.Mq T.IH BR (Fi Bc λ_=>rfl)) (By (NC (.upto (.bl true))) (FH (Jl (.bl true)) ⟨T.OZ,T.IE,T.IB,T.OW⟩ (HW T) Kr rfl T.Mq T.IH BR (Fi DR λ_=>rfl)) (By (NC (.upto (.int ((2 ^ 64) ^ 4)))) (FH (Jl (.int ((2 ^ 64) ^ 4))) ⟨T.OZ,T.IE,T.IB,T.OW⟩ (HW T) Kr rfl T.Mq T.IH BR (Jc (BO WC (BO WC Bc Bc) Bc) (λ_ H Q q=>⟨_,_,rfl,rfl,⟨Aa,Aa⟩,_,_,rfl,rfl,⟨Aa,Aa⟩,q _ H (BC.refl _) rfl⟩)))
     En)))))))))
   (BE (Ct (i:=3) Lg.nd rfl (BP rfl) (BO Hl (pv 3) (Oq (cg [.text (.int 0),.text (.int 101),.text (.str "5")]) Aa (By (NC (.text (.int 0))) (FH (Jl (.int 0)) ⟨T.Kc,T.FS,T.FR,T.Kb⟩ (Fs T) Kr rfl T.IU (Ji T) BR (Fi Bc λ_=>rfl)) (By (NC (.text (.int 101))) (FH (Jl (.int 101)) ⟨T.Kc,T.FS,T.FR,T.Kb⟩ (Fs T) Kr rfl T.IU (Ji T) BR (Fi Bc λ_=>rfl)) (By (NC (.text (.str "5"))) (FH (Jl (.str "5")) ⟨T.Kc,T.FS,T.FR,T.Kb⟩ (Fs T) Kr rfl T.IU (Ji T) BR (Fi Bs λ_=>⟨rfl,Aa⟩))
     En))))))
   (BE (Ct (i:=3) Lg.nd rfl (BP rfl) (BO Hl (pv 3) (DO (AS (Dy ⟨T.Ko,T.Hg,T.GY,T.Km⟩ (Gk T) Kr rfl T.HQ T.Hh .nil BR (AS (CT D (Dp Dz (pv 0) (pv 1) (λ_ _=>rfl)) Bs (λ_ _=>rfl)) AZ)) (By (NC (.form (.str "zzzzzzzzzzzz"))) (FH (Jl (.str "zzzzzzzzzzzz")) ⟨T.Ko,T.Hg,T.GY,T.Km⟩ (Gk T) Kr rfl T.HQ T.Hh BR (Fi Bs λ_=>⟨rfl,Aa⟩)) (By (NC (.list (.form .non))) (FH (NC (.form .non)) ⟨T.Pa,T.IF,T.ID,T.OX⟩ (HX T) Kr rfl T.Mr T.II BR (FH (Jl .non) ⟨T.Ko,T.Hg,T.GY,T.Km⟩ (Gk T) Kr rfl T.HQ T.Hh BR (Fi FC λ_=>rfl))) (By (NC (.list (.upto (.int (-1))))) (FH (NC (.upto (.int (-1)))) ⟨T.Pa,T.IF,T.ID,T.OX⟩ (HX T) Kr rfl T.Mr T.II BR (FH (Jl (.int (-1))) ⟨T.OZ,T.IE,T.IB,T.OW⟩ (HW T) Kr rfl T.Mq T.IH BR (Jc (Yq Rc Bc) λ_ H Q q=>⟨_,rfl,q _ H (BC.refl _) rfl⟩))) (By (NC (.form (.lst []))) (FH (Jl (.lst [])) ⟨T.Ko,T.Hg,T.GY,T.Km⟩ (Gk T) Kr rfl T.HQ T.Hh BR (Jc (DO AZ) λ_ H Q q=>⟨zl 0,λp f=>q _ _ (BM f) ⟨p,[],rfl,AX,rfl,CH _⟩⟩))
     En))))))))
   (Bk (BH (Dp Dz (pv 3) (BO Dl (pv 2) Bc) (λ_ _=>rfl)))))),?_⟩
  refine Df (λc H'=>∃l xs,c=[some sv,some (.int ((k:Nat):Int)),some (.int n),some (.ref l)]/\BC H H'/\H' l=some (.lst xs)/\Paired (λR x=>R H' x) (kR [.thing .non,.thing (.str "truth"),.bare,.list (.list .truth),.upto (.int 0),.upto (.bl true),.upto (.int ((2 ^ 64) ^ 4))]) xs) ?_ ?_
  ·rintro v H' s' ⟨l,xs,rfl,N,f⟩;exact⟨l,xs,rfl,s',N,f⟩
  rintro c H1 ⟨X,r,rfl,s1,L,z⟩;have n1:7=r.length:=z.length;refine Df (λc H'=>∃l xs,c=[some sv,some (.int ((k:Nat):Int)),some (.int n),some (.ref l)]/\BC H H'/\H' l=some (.lst xs)/\Paired (λR x=>R H' x) (kR [.thing .non,.thing (.str "truth"),.bare,.list (.list .truth),.upto (.int 0),.upto (.bl true),.upto (.int ((2 ^ 64) ^ 4)),.text (.int 0),.text (.int 101),.text (.str "5")]) xs) ?_ ?_
  ·refine⟨_,rfl,?_⟩;rintro v H' s' ⟨l,xs,rfl,N,f⟩;have n2:3=xs.length:=f.length;refine⟨X,l,_,_,rfl,rfl,s' _ _ L,N,?_,λp d=>⟨p,r++xs,rfl,(s1.trans s').trans (BM d),AX,?_⟩⟩
   ·rw[<-n1,<-n2];decide
   ·exact Mo.all (cg _) (BM d) (MK (Mo.all (cg _) s' z) f)
  rintro c H2 ⟨l2,o,rfl,s2,J,y⟩;have n2:10=o.length:=y.length;refine Df (λc H'=>∃l xs,c=[some sv,some (.int ((k:Nat):Int)),some (.int n),some (.ref l)]/\BC H H'/\H' l=some (.lst xs)/\Paired (λR x=>R H' x) (kR (kh g.nam)) xs) ?_ ?_
  ·have F:=hs.sm (Sm.of s2);obtain⟨Y,as,a,rfl,M,ha,a',gl,fl,V,ea,hA,_⟩:=F.at hg;cases ea;refine⟨_,rfl,_,rfl,_,rfl,Y,_,_,_,rfl,rfl,Dk.of M,EK (j:=k) (v:=.ref a) (by rw[Bj,ha];rfl),a,_,rfl,GC hA,λx dx C S G=>⟨x,dx,_,rfl,AX,rfl,?_⟩⟩;rw[Fo];have t:BC H2 (upd (upd H2 dx (.own x)) x (.ins 609 dx [("name",.str g.nam)])):=KM C S G;intro vs H' s' f;have n3:4=vs.length:=f.length;have hN:Rx H' (.form (.str g.nam)) (.ref x):=⟨x,dx,_,rfl,s' _ _ AX,rfl,hgl⟩;refine⟨?_,λm hm=>⟨l2,m,_,_,rfl,rfl,JH (s' _ _ (t _ _ J)) hm,AX,?_,λp d=>⟨p,o++ (.ref x::vs),rfl,((s2.trans t).trans s').trans ((BM hm).trans (BM d)),AX,?_⟩⟩⟩
   ·rw[Cj,<-n3];decide
   ·rw[Cj,<-n2,<-n3];decide
   ·have B:Paired (λR x=>R H' x) (kR [.thing .non,.thing (.str "truth"),.bare,.list (.list .truth),.upto (.int 0),.upto (.bl true),.upto (.int ((2 ^ 64) ^ 4)),.text (.int 0),.text (.int 101),.text (.str "5")] ++kR [.form (.str g.nam),.form (.str "zzzzzzzzzzzz"),.list (.form .non),.list (.upto (.int (-1))),.form (.lst [])]) (o++ (.ref x::vs)):=MK (Mo.all (cg _) (t.trans s') y) (.cons hN f);exact Mo.all (cg (kh g.nam)) ((BM hm).trans (BM d)) B
  rintro c H3 ⟨W,e,rfl,t,I,u⟩;have n3:15=e.length:=u.length;have hm:=Ey n (b:=15) Aa;have hi: (n%15).toNat<e.length:=by omega
  have C:e[(n%15).toNat]?=some (e[(n%15).toNat]'hi):=AW hi;obtain⟨kd,O,hX⟩:=A0u u _ _ C;refine⟨_,rfl,_,rfl,_,_,rfl,rfl,(by show(0:Int) <15;decide),W,_,_,_,rfl,rfl,Dk.of I,?_,q kd (Bp O) _ _ t hX⟩;have:=EK C;rw[Dj hm.1]at this;exact this
abbrev UP:=Kx×Dt×Dt
noncomputable def Lw:List UP:=[(.truth,.str "yes",.non),(.truth,.int 1,.non),(.truth,.non,.non),(.truth,.bl true,.bl true)]
noncomputable def MJ:List UP:=[(.truth,.bl false,.int 1),(.count,.bl true,.bl false),(.truth,.bl true,.int 0),(.text (.int 100),.bl true,.lst [])]
noncomputable def Rg:List UP:=[(.count,.bl false,.int (-1)),(.upto (.int 5),.bl false,.int 6),(.count,.bl false,.bl true),(.text (.int 3),.bl false,.str "abcd")]
noncomputable def Yn:List UP:=[(.text (.int 100),.bl false,.str "A"),(.list .truth,.bl false,.lst [.bl true]),(.text (.int 100),.bl false,.int 5),(.whole,.bl false,.str "1")]
def Lx:List UP:=Lw++MJ++Rg++Yn
def Kx.mayB:Kx->Bool
 |.thing d=>Q0 d||mB d
 |.list k=>k.mayB
 |_=>true
theorem Kx.mayB.may:∀{k:Kx},k.mayB=true->k.may
 |.thing d,h=>by
  cases d with
  |non=>exact .inl rfl
  |str z=>exact .inr ⟨z,rfl⟩
  |_=>cases h
 |.list k,h=>Kx.mayB.may (k:=k) h
 |.truth,_=>trivial
 |.count,_=>trivial
 |.whole,_=>trivial
 |.bare,_=>trivial
 |.upto _,_=>trivial
 |.text _,_=>trivial
 |.form _,_=>trivial
theorem jc:∀r∈Lx,r.1.may:=λr a=>Kx.mayB.may (BI.mp (show(Lx.all λr=>r.1.mayB)=true from rfl) r a)
def O1(r:UP):HV:=λH v=>∃t a b c,v= .ref t/\H t=some (.tup [a,b,c])/\Rx H r.1 a/\Th H r.2.1 b/\Th H r.2.2 c
theorem JG(r:UP):Mo (O1 r):=λ_ _ _ s d=>(by obtain⟨t,a,b,c,e,h,h1,h2,h3⟩:=d;exact⟨t,a,b,c,e,s _ _ h,h1.sm (Sm.of s),Th.sm (Sm.of s) _ _ h2,Th.sm (Sm.of s) _ _ h3⟩)
def rR(a:List UP):List HV:=a.map O1
theorem bR(a:List UP):∀R∈rR a,Mo R:=λR b=>by
 obtain⟨r,_,rfl⟩:=Bm.mp b;exact JG r
def gp(mark:Int)(r:UP):Fx:=⟨.int mark,.str "zzzd",r.1,r.2.1,lV r.1 r.2.2⟩
noncomputable def mQ:List UP:=[(.count,.bl false,.bl false),(.truth,.bl true,.non),(.truth,.bl false,.bl true)]
def vX(c:Bool):List UP:=if c then mQ else Lx
def oi:Sp:=λvs H Q _=>∃mark c n,vs=[.int mark,.bl c,.int n]/\0<=n/\∀r∈vX c,∀v H',BC H H'->WI H' (gp mark r) v->Q v H'
theorem Gd{vs:List V}{H:Hp}{Q f:VK}(h:KE vs H Q E0)(i:∀v H',Q v H'->f v H'):KE vs H f E0:=by
 obtain⟨x,dx,n,z,g,m,o,k,d,e,h1,h2,h3,l,j⟩:=h;exact⟨x,dx,n,z,g,m,o,k,d,e,h1,h2,h3,l,λu H' a b c d=>i _ _ (j u H' a b c d)⟩
section
variable{X:Cx}{es:List Expr}{k:Kx}{m d:Dt}
theorem Im{b}{pos:Pos}(h:PA X es (Y3 [λH v=>Rx H k v,λH v=>Th H m v,λH v=>Th H d v])):PE X (.Tuple es b pos) (tR (O1 (k,m,d))):=Jc (Fq h) λ_ H Q q vs H1 s1 c=>by
  cases c with
  |cons h1 r=>cases r with
  |cons h2 r=>cases r with
  |cons h3 r=>
   cases r;exact⟨zl 3,λp a=>q _ _ (s1.trans (BM a)) ⟨p,_,_,_,rfl,AX,h1.sm (Sm.of (BM a)),Th.sm (Sm.of (BM a)) _ _ h2,Th.sm (Sm.of (BM a)) _ _ h3⟩⟩
theorem Yo{g:Nat}{C f:Ba}{fd:Ek}{ps:List Bx}{x:Bx}{p pos:Pos}{e:Tok}(M:Mk X.K C f)(F:Cm X.prog X.w X.K X.mg X.base DS g f fd ps (Uz C "most"))(k:Fm (g+1) X.A)(l:Gl X x)(hm:X.mg x=some (.ref C))(m:CC X.K fd ps [.int 100 e])(hd:CQ [V.int 100] [HK 100 e])(j:JT DS X E0)(d: (x==("__debug__" :Bx))=false:=by decide):PE X (.Call (.Name x p) [] [] pos) (tR λH v=>∃a dx u,v= .ref a/\H a=some (.ins C dx [("most",u)])/\Th H (.int 100) u):=Jc (jh M F k l hm m hd j d) λ_ H Q q y h i c b=>⟨y,h,_,rfl,AX,rfl,by
  rw[Fo];exact q _ _ (KM i c b) ⟨y,h,_,rfl,AX,rfl⟩⟩
end
theorem yJ(T:Tx K mg):Cm P w K mg base DS 5 977 (Br K 977) AK oi:=by
 obtain⟨t1,S⟩:=TK T;have dv:CQ [V.int 100] [HK 100 t1]:=.cons ⟨_,rfl⟩ .nil;have v1:CQ [V.non] [CM]:=.cons rfl .nil;refine T.Qa.ok Fe (λvs H Q E h=>?_) (λcdv A outer s H vs Q E hr h=>?_)
 ·obtain⟨mark,c,n,rfl,_⟩:=h;rfl
 ·obtain⟨mark,c,n,rfl,hn,q⟩:=h;have Kr:Fm (1+1) _:=hr.mono Aa;have F:Fm (3+1) _:=hr.mono Aa;refine⟨_,BW (CV (CZ (pv 1)) (BW (CV (CK Gg (BO Dl (pv 2) Bc) Bc (Dc _)) (Bk (BH (Dy ⟨T.FA,T.DN,T.DM,T.Fy⟩ (Dw T) F rfl T.Fc (JC T) .nil BR (AS (pv 0) (AS Bs (AS (Ed T.NL T.IV T.NK rfl T.LM) (AS DR (AS DR AZ))))))))
      Ci)
     (Bk (BH (Dp Dz (DO (AS (Dy ⟨T.FA,T.DN,T.DM,T.Fy⟩ (Dw T) F rfl T.Fc (JD T) v1 BR (AS (pv 0) (AS Bs (AS (Ed T.Fb T.Dv T.Fa rfl T.EN) (AS DR AZ))))) (AS (Dy ⟨T.FA,T.DN,T.DM,T.Fy⟩ (Dw T) F rfl T.Fc (JC T) .nil BR (AS (pv 0) (AS Bs (AS (Ed T.Fb T.Dv T.Fa rfl T.EN) (AS DR (AS DR AZ)))))) AZ))) (BO Dl (pv 2) Bc) (λ_ _=>rfl)))))
    Ci)
   (BE (Ct (i:=3) Fe.nd rfl (BP rfl) (Oq (bR Lw) Aa (By (JG (.truth,.str "yes",.non)) (Im (By (NC (.truth)) (Ed T.Fb T.Dv T.Fa rfl T.EN) (By (Jl (.str "yes")) (Fi Bs λ_=>⟨rfl,Aa⟩) (By (Jl (.non)) (Fi FC λ_=>rfl) En)))) (By (JG (.truth,.int 1,.non)) (Im (By (NC (.truth)) (Ed T.Fb T.Dv T.Fa rfl T.EN) (By (Jl (.int 1)) (Fi Bc λ_=>rfl) (By (Jl (.non)) (Fi FC λ_=>rfl) En)))) (By (JG (.truth,.non,.non)) (Im (By (NC (.truth)) (Ed T.Fb T.Dv T.Fa rfl T.EN) (By (Jl (.non)) (Fi FC λ_=>rfl) (By (Jl (.non)) (Fi FC λ_=>rfl) En)))) (By (JG (.truth,.bl true,.bl true)) (Im (By (NC (.truth)) (Ed T.Fb T.Dv T.Fa rfl T.EN) (By (Jl (.bl true)) (Fi DR λ_=>rfl) (By (Jl (.bl true)) (Fi DR λ_=>rfl) En))))
     En))))))
   (BE (Ct (i:=3) Fe.nd rfl (BP rfl) (BO Hl (pv 3) (Oq (bR MJ) Aa (By (JG (.truth,.bl false,.int 1)) (Im (By (NC (.truth)) (Ed T.Fb T.Dv T.Fa rfl T.EN) (By (Jl (.bl false)) (Fi DR λ_=>rfl) (By (Jl (.int 1)) (Fi Bc λ_=>rfl) En)))) (By (JG (.count,.bl true,.bl false)) (Im (By (NC (.count)) (Ed T.NL T.IV T.NK rfl T.LM) (By (Jl (.bl true)) (Fi DR λ_=>rfl) (By (Jl (.bl false)) (Fi DR λ_=>rfl) En)))) (By (JG (.truth,.bl true,.int 0)) (Im (By (NC (.truth)) (Ed T.Fb T.Dv T.Fa rfl T.EN) (By (Jl (.bl true)) (Fi DR λ_=>rfl) (By (Jl (.int 0)) (Fi Bc λ_=>rfl) En)))) (By (JG (.text (.int 100),.bl true,.lst [])) (Im (By (NC (.text (.int 100))) (Yo ⟨T.Kc,T.FS,T.FR,T.Kb⟩ (Fs T) Kr rfl T.IU S dv BR) (By (Jl (.bl true)) (Fi DR λ_=>rfl) (By (Jl (.lst [])) (Jc (DO AZ) λ_ H Q q=>⟨zl 0,λp k=>q _ _ (BM k) ⟨p,[],rfl,AX,rfl,CH _⟩⟩) En))))
     En)))))))
   (BE (Ct (i:=3) Fe.nd rfl (BP rfl) (BO Hl (pv 3) (Oq (bR Rg) Aa (By (JG (.count,.bl false,.int (-1))) (Im (By (NC (.count)) (Ed T.NL T.IV T.NK rfl T.LM) (By (Jl (.bl false)) (Fi DR λ_=>rfl) (By (Jl (.int (-1))) (Jc (Yq Rc Bc) λ_ H Q q=>⟨_,rfl,q _ H (BC.refl _) rfl⟩) En)))) (By (JG (.upto (.int 5),.bl false,.int 6)) (Im (By (NC (.upto (.int 5))) (FH (Jl (.int 5)) ⟨T.OZ,T.IE,T.IB,T.OW⟩ (HW T) Kr rfl T.Mq T.IH BR (Fi Bc λ_=>rfl)) (By (Jl (.bl false)) (Fi DR λ_=>rfl) (By (Jl (.int 6)) (Fi Bc λ_=>rfl) En)))) (By (JG (.count,.bl false,.bl true)) (Im (By (NC (.count)) (Ed T.NL T.IV T.NK rfl T.LM) (By (Jl (.bl false)) (Fi DR λ_=>rfl) (By (Jl (.bl true)) (Fi DR λ_=>rfl) En)))) (By (JG (.text (.int 3),.bl false,.str "abcd")) (Im (By (NC (.text (.int 3))) (FH (Jl (.int 3)) ⟨T.Kc,T.FS,T.FR,T.Kb⟩ (Fs T) Kr rfl T.IU (Ji T) BR (Fi Bc λ_=>rfl)) (By (Jl (.bl false)) (Fi DR λ_=>rfl) (By (Jl (.str "abcd")) (Fi Bs λ_=>⟨rfl,Aa⟩) En))))
     En)))))))
   (BE (Ct (i:=3) Fe.nd rfl (BP rfl) (BO Hl (pv 3) (Oq (bR Yn) Aa (By (JG (.text (.int 100),.bl false,.str "A")) (Im (By (NC (.text (.int 100))) (Yo ⟨T.Kc,T.FS,T.FR,T.Kb⟩ (Fs T) Kr rfl T.IU S dv BR) (By (Jl (.bl false)) (Fi DR λ_=>rfl) (By (Jl (.str "A")) (Fi Bs λ_=>⟨rfl,Aa⟩) En)))) (By (JG (.list .truth,.bl false,.lst [.bl true])) (Im (By (NC (.list .truth)) (FH (NC .truth) ⟨T.Pa,T.IF,T.ID,T.OX⟩ (HX T) Kr rfl T.Mr T.II BR (Ed T.Fb T.Dv T.Fa rfl T.EN)) (By (Jl (.bl false)) (Fi DR λ_=>rfl) (By (Jl (.lst [.bl true])) (Jc (DO (AS DR AZ)) λ_ H Q q=>⟨zl 1,λp k=>q _ _ (BM k) ⟨p,[.bl true],rfl,AX,⟨_,_,rfl,rfl,rfl⟩,Aa⟩⟩) En)))) (By (JG (.text (.int 100),.bl false,.int 5)) (Im (By (NC (.text (.int 100))) (Yo ⟨T.Kc,T.FS,T.FR,T.Kb⟩ (Fs T) Kr rfl T.IU S dv BR) (By (Jl (.bl false)) (Fi DR λ_=>rfl) (By (Jl (.int 5)) (Fi Bc λ_=>rfl) En)))) (By (JG (.whole,.bl false,.str "1")) (Im (By (NC (.whole)) (Ed T.hY T.Sa T.hV rfl T.Xe) (By (Jl (.bl false)) (Fi DR λ_=>rfl) (By (Jl (.str "1")) (Fi Bs λ_=>⟨rfl,Aa⟩) En))))
     En)))))))
   (BE (lQ (Dp Dz (pv 3) (BO Dl (pv 2) (BJ Dg (by rfl) T.Hs Fu (AS (pv 3) AZ))) (λ_ _=>rfl)) (lS rfl (n:=3) (KJ (CN (i:=4) Fe.nd rfl (BP rfl)) (KJ (CN (i:=5) Fe.nd rfl (BP rfl)) (KJ (CN (i:=6) Fe.nd rfl (BP rfl)) fJ)))))
   (Bk (BH (Dy ⟨T.FA,T.DN,T.DM,T.Fy⟩ (Dw T) F rfl T.Fc (JC T) .nil BR (AS (pv 0) (AS Bs (AS (pv 4) (AS (pv 5) (AS (pv 6) AZ))))))))))))),?_⟩
  have hz:∀H:Hp,Th H (.str "zzzd") (.str "zzzd"):=λH=>⟨rfl,Aa⟩;refine⟨_,rfl,_,rfl,?_⟩;cases c with
  |true=>
   have j:∀r∈mQ,∀v H',BC H H'->WI H' (gp mark r) v->Q v H':=q;refine Er ⟨_,rfl,_,_,rfl,rfl,(by show(0:Int) <3;decide),rfl,_,rfl,Kg (λh2=>?_) (λh2=>?_)⟩
   ·refine⟨_,rfl,λkv H1 s1 hk x dx J C B=>?_⟩;exact Fj (f:=gp mark (.count,.bl false,.bl false)) (d:=.bl false) J C B trivial rfl (hz _) hk rfl rfl rfl λv H' s' O=>j _ (.head _) v H' (s1.trans s') O.isF
   ·refine⟨_,rfl,λkv H1 s1 hk x dx J C B=>?_⟩;refine Gd (Fj (Q:=λv H'=>BC H1 H'/\Rt H1 H' (gp mark (.truth,.bl true,.non)) v) (f:=gp mark (.truth,.bl true,.non)) (d:=.non) J C B trivial rfl (hz _) hk rfl rfl rfl λv H' s O=>⟨s,O⟩) λv0 H2 hh=>⟨hh.1,?_⟩;obtain⟨_,s2,c3⟩:=hh;refine⟨_,rfl,λd1 H3 s3 b8 x2 d7 b2 a1 Y=>?_⟩;refine Gd (Fj (Q:=λv H'=>BC H3 H'/\Rt H3 H' (gp mark (.truth,.bl false,.bl true)) v) (f:=gp mark (.truth,.bl false,.bl true)) (d:=.bl true) b2 a1 Y trivial rfl (hz _) b8 rfl rfl rfl λv H' s O=>⟨s,O⟩) λv0 H4 hh=>⟨hh.1,?_⟩;obtain⟨_,s4,c2⟩:=hh;refine⟨zl 2,λp k=>?_⟩;have sp:=BM (u:=.lst [.ref x,.ref x2]) k;have sA:=(((s1.trans s2).trans s3).trans s4).trans sp;have hm:=Ey n (b:=3) Aa;have d4:n%3≠2:=λe=>h2 (A32 (A37 V.int e));by_cases h0:n%3=0
    ·refine⟨_,rfl,_,_,rfl,rfl,(by show(0:Int) <3;decide),p,_,_,.ref x,rfl,rfl,Dk.of AX,by rw[h0];exact LB,?_⟩;exact j _ (.tail _ (.head _)) _ _ sA (OL.sm (Sm.of ((s3.trans s4).trans sp)) (e:=.fld _) c3.isF)
    ·have h1:n%3=1:=by omega
     refine⟨_,rfl,_,_,rfl,rfl,(by show(0:Int) <3;decide),p,_,_,.ref x2,rfl,rfl,Dk.of AX,by rw[h1];exact wc,?_⟩;exact j _ (.tail _ (.tail _ (.head _))) _ _ sA (OL.sm (Sm.of sp) (e:=.fld _) c2.isF)
  |false=>
   have j:∀r∈Lx,∀v H',BC H H'->WI H' (gp mark r) v->Q v H':=q;refine Dr ?_;have D:∀(L y:List UP) (H1:Hp) (U:Ba) (o:List V),L.length+y.length<=100->BC H H1->H1 U=some (.lst o)->Paired (λR x=>R H1 x) (rR L) o->∀v H',BC H1 H'->A15 (rR y) H' v->A01 (.ref U) v H' λu H2=>∃l xs,u= .ref l/\BC H H2/\H2 l=some (.lst xs)/\Paired (λR x=>R H2 x) (rR (L++y)) xs:=by
    rintro L y H1 U o b1 s1 N I v H' s' ⟨l,xs,rfl,hl,k⟩;have n1:L.length=o.length:=by have:=I.length;unfold rR at this;rw[AV]at this;exact this
    have n2:y.length=xs.length:=by have:=k.length;unfold rR at this;rw[AV]at this;exact this
    refine⟨U,l,_,_,rfl,rfl,s' _ _ N,hl,BF (show _<=1000 by omega) Aa,λp M=>⟨p,o++xs,rfl,(s1.trans s').trans (BM M),AX,?_⟩⟩;have e:rR (L++y)=rR L++rR y:=Cr;rw[e];exact MK (Mo.all (bR _) (s'.trans (BM M)) I) (Mo.all (bR _) (BM M) k)
   refine Df (λg H'=>∃l xs,g=[some (.int mark),some (.bl false),some (.int n),some (.ref l),none,none,none]/\BC H H'/\H' l=some (.lst xs)/\Paired (λR x=>R H' x) (rR Lw) xs) ?_ ?_
   ·rintro v H' s' ⟨l,xs,rfl,hl,k⟩;exact⟨l,xs,rfl,s',hl,k⟩
   rintro g H1 ⟨U,o,rfl,s1,N,I⟩;refine Df (λg H'=>∃l xs,g=[some (.int mark),some (.bl false),some (.int n),some (.ref l),none,none,none]/\BC H H'/\H' l=some (.lst xs)/\Paired (λR x=>R H' x) (rR (Lw++MJ)) xs) ?_ ?_
   ·refine⟨_,rfl,λv H' s' W=>?_⟩;obtain⟨l,b,xs,zs,e1,e2,h1,h2,h3,h4⟩:=D Lw MJ H1 U o Aa s1 N I v H' s' W;refine⟨l,b,xs,zs,e1,e2,h1,h2,h3,λp k=>?_⟩;obtain⟨l2,m,e,r⟩:=h4 p k;cases e;exact⟨p,m,rfl,r⟩
   rintro g H2 ⟨l2,m,rfl,s2,b6,b4⟩;refine Df (λg H'=>∃l xs,g=[some (.int mark),some (.bl false),some (.int n),some (.ref l),none,none,none]/\BC H H'/\H' l=some (.lst xs)/\Paired (λR x=>R H' x) (rR (Lw++MJ++Rg)) xs) ?_ ?_
   ·refine⟨_,rfl,λv H' s' W=>?_⟩;obtain⟨l,b,xs,zs,e1,e2,h1,h2,h3,h4⟩:=D (Lw++MJ) Rg H2 l2 m Aa s2 b6 b4 v H' s' W;refine⟨l,b,xs,zs,e1,e2,h1,h2,h3,λp k=>?_⟩;obtain⟨l2,m,e,r⟩:=h4 p k;cases e;exact⟨p,m,rfl,r⟩
   rintro g H3 ⟨l3,a9,rfl,s3,b5,b3⟩;refine Df (λg H'=>∃l xs,g=[some (.int mark),some (.bl false),some (.int n),some (.ref l),none,none,none]/\BC H H'/\H' l=some (.lst xs)/\Paired (λR x=>R H' x) (rR Lx) xs) ?_ ?_
   ·refine⟨_,rfl,λv H' s' W=>?_⟩;obtain⟨l,b,xs,zs,e1,e2,h1,h2,h3,h4⟩:=D (Lw++MJ++Rg) Yn H3 l3 a9 Aa s3 b5 b3 v H' s' W;refine⟨l,b,xs,zs,e1,e2,h1,h2,h3,λp k=>?_⟩;obtain⟨l2,m,e,r⟩:=h4 p k;cases e;exact⟨p,m,rfl,r⟩
   rintro g H4 ⟨l4,z,rfl,s4,Z,X⟩;have n4:16=z.length:=X.length;refine Df (λg H'=>∃r∈Lx,∃a b c,g=[some (.int mark),some (.bl false),some (.int n),some (.ref l4),some a,some b,some c]/\H4=H'/\Rx H4 r.1 a/\Th H4 r.2.1 b/\Th H4 r.2.2 c) ?_ ?_
   ·have hm:=Ey n (b:=16) Aa;have hi: (n%16).toNat<z.length:=by omega
    have J:z[(n%16).toNat]?=some (z[(n%16).toNat]'hi):=AW hi;obtain⟨R,hR,c0⟩:=Gf X _ _ J;unfold rR at hR;rw[Bj]at hR;obtain⟨r,G,rfl⟩:=BS.mp hR;obtain⟨t,a,b,c,ev,ht,h1,h2,h3⟩:=c0;refine⟨_,rfl,_,rfl,_,rfl,l4,z,rfl,.inl (Dk.of Z),_,_,rfl,rfl,(by show(0:Int) < ((z.length:Nat):Int);omega),l4,_,_,.ref t,rfl,rfl,Dk.of Z,?_,t,_,rfl,Hm.of ht,rfl,_,_,rfl,_,_,rfl,_,_,rfl,rfl,r,Bp G,a,b,c,rfl,rfl,h1,h2,h3⟩;have:=EK J;rw[Dj hm.1,ev]at this;rw[<-n4];exact this
   rintro g H5 ⟨r,G,a,b,c,rfl,rfl,h1,h2,h3⟩;refine⟨_,rfl,_,rfl,_,rfl,_,rfl,λx dx J C B=>?_⟩;exact Fj (f:=gp mark r) (d:=r.2.2) J C B (jc r G) rfl (hz _) h1 h2 h3 rfl λv H' s' O=>j r G v H' (s4.trans s') O.isF
theorem uW{z:Bx}(h:UQ z):z≠ "zzzzzzzzzzzz":=λe=>h.2.2 (by rw[e];decide+kernel)
theorem zx{gs:List SG}{Ws:List Int}{k:Nat}{ws:List (Bx×Int)}(h:KS gs Ws k ws)(hn:EA (gs.map (·.nam))){g:SG}(c:gs[k]?=some g):∀kd∈kh g.nam,Ii ws kd=false:=by
 have d:k<gs.length:=(Bi.mp c).1;have n1:UK ws (.str g.nam)=false:=To h λi g2 hi b e=>by
  have:i=k:=LZ hn.nd (by rw[Bj,b];rfl) (by rw[Bj,c];show some g.nam=some g2.nam;rw[e]);omega
 have n2:UK ws (.str "zzzzzzzzzzzz")=false:=To h λi g2 hi b e=>uW (hn.ok g2.nam (Bm.mpr ⟨g2,Bp b,rfl⟩)) e;intro kd a;unfold kh at a;simp only[BK,Cq,or_false]at a;rcases a with rfl|rfl|rfl|rfl|rfl|rfl|rfl|rfl|rfl|rfl|rfl|rfl|rfl|rfl|rfl
 ·rfl
 ·rfl
 ·rfl
 ·rfl
 ·exact(by decide+kernel:KZ (.int 0) 1 MN=false)
 ·rfl
 ·exact(by decide+kernel:KZ (.int ((2 ^ 64) ^ 4)) 1 MN=false)
 ·exact(by decide+kernel:KZ (.int 0) 1 100=false)
 ·exact(by decide+kernel:KZ (.int 101) 1 100=false)
 ·rfl
 ·show(Ih g.nam&&UK ws (.str g.nam))=false;rw[n1,Iv]
 ·show(Ih "zzzzzzzzzzzz" &&UK ws (.str "zzzzzzzzzzzz"))=false;rw[n2,Iv]
 ·rfl
 ·exact(by decide+kernel:KZ (.int (-1)) 1 MN=false)
 ·rfl
theorem kg(nm:Bx):∀kd∈kh nm,kd.may:=by
 intro kd a;unfold kh at a;simp only[BK,Cq,or_false]at a;rcases a with rfl|rfl|rfl|rfl|rfl|rfl|rfl|rfl|rfl|rfl|rfl|rfl|rfl|rfl|rfl
 ·exact .inl rfl
 ·exact .inr ⟨_,rfl⟩
 all_goals trivial
theorem vW(c:Bool):∀r∈vX c,r.1.may:=by
 intro r a;cases c with
 |false=>exact jc r a
 |true=>exact Kx.mayB.may (BI.mp (show(mQ.all λr=>r.1.mayB)=true from rfl) r a)
theorem rJ(c:Bool)(ws:List (Bx×Int)):∀r∈vX c,Ii ws r.1=true:=by
 intro r b;cases c with
 |false=>
  have a:r∈Lx:=b;simp only[Lx,Lw,MJ,Rg,Yn,List.cons_append,EW,BK,Cq,or_false]at a;rcases a with rfl|rfl|rfl|rfl|rfl|rfl|rfl|rfl|rfl|rfl|rfl|rfl|rfl|rfl|rfl|rfl
  all_goals first|rfl|exact(by decide+kernel:KZ (.int 5) 1 MN=true)
 |true=>
  have a:r∈mQ:=b;simp only[mQ,BK,Cq,or_false]at a;rcases a with rfl|rfl|rfl <;> rfl
theorem zy(c:Bool)(mark:Int):∀r∈vX c,OF (gp mark r) c=false:=by
 intro r b;have key:∀(f:Fx),OF f c=OF ⟨.int 0,.str "",f.kind,f.must,f.dfl⟩ c:=λf=>rfl;rw[key];cases c with
 |false=>
  have a:r∈Lx:=b;simp only[Lx,Lw,MJ,Rg,Yn,List.cons_append,EW,BK,Cq,or_false]at a;rcases a with rfl|rfl|rfl|rfl|rfl|rfl|rfl|rfl|rfl|rfl|rfl|rfl|rfl|rfl|rfl|rfl
  all_goals (unfold gp;kernel_rfl)
 |true=>
  have a:r∈mQ:=b;simp only[mQ,BK,Cq,or_false]at a;rcases a with rfl|rfl|rfl
  all_goals (unfold gp;kernel_rfl)
def wv(e:Ex):Bx:=XF (Rl e)
def V3(e:Ex):Int:=vj (Tn e)
def B3(bs:List Ex)(e:Ex):Prop:=ED (Rl e)=false\/∃a∈bs,wv a=wv e
def B4(ns:List Int)(e:Ex):Prop:=∃d,e= .fld ⟨d,.str "zzzb",.truth,.bl false,.bl false⟩/\(KZ d 1 200=false\/∃m∈ns,d= .int m)
def B5(n:Int)(nm:Bx)(e:Ex):Prop:=∃kd∈kh nm,e= .fld ⟨.int n,.str "zzzc",kd,.bl false,HI kd⟩
def B6(n:Int)(c:Bool)(e:Ex):Prop:=∃r∈vX c,e= .fld (gp n r)
def ON(w:Nat)(ways:List Nat)(B:Ex->Prop)(x:List Ex):Prop:=(w∈ways->∃e,x=[e]/\B e)/\(w∉ways->x=[])
theorem Hw{b:Type}{P:b->Prop}{x:List b}(h: (∃e,x=[e]/\P e)\/x=[]):x.length<=1/\∀e∈x,P e:=by
 rcases h with⟨e,rfl,c⟩|rfl
 ·exact⟨Bv _,λd a=>by rw[Bu.mp a];exact c⟩
 ·exact⟨CH _,λe a=>by cases a⟩
theorem ON.or{w:Nat}{ways:List Nat}{B:Ex->Prop}{x:List Ex}(h:ON w ways B x): (∃e,x=[e]/\B e)\/x=[]:=by
 by_cases hw:w∈ways
 ·exact .inl (h.1 hw)
 ·exact .inr (h.2 hw)
theorem Tr{c a:Type}{x:List c}{f:c->a}{b:a}(h: (∃e,x=[e]/\f e=b)\/x=[]): (x.map f).Sublist [b]:=by
 rcases h with⟨e,rfl,d⟩|rfl
 ·rw[BV,d];exact List.Sublist.refl _
 ·exact List.nil_sublist _
theorem Q3:Ih "zzzb"=true:=by decide+kernel
theorem Q2:Ih "zzzc"=true:=by decide+kernel
theorem Q1:Ih "zzzd"=true:=by decide+kernel
theorem tH: (["zzzb","zzzc","zzzd"]:List Bx).Nodup:=by decide+kernel
theorem A0d{z:Bx}(h:UQ z):z∉ (["zzzb","zzzc","zzzd"]:List Bx):=λhm=>by
 simp only[BK,Cq,or_false]at hm;rcases hm with rfl|rfl|rfl
 ·exact h.2.1 98 Ab
 ·exact h.2.1 99 Ab
 ·exact h.2.1 100 Ab
section
variable{gs:List SG}{Ws:List Int}{k:Nat}{ws:List (Bx×Int)}{g:SG}{ways:List Nat}{x3 x4 x5 x6:List Ex}{nmD:Dt}{gone:List Int}{fo:Option (List Ex)}
theorem mn(hA:KS gs Ws k ws)(hs:Gn gs Ws)(R:gs[k]?=some g)(a5:ways≠[])(G:∀v∈ways,v<8)(H:0∉ways)(n1:1∉ways->nmD= .str g.nam)(n2:1∈ways->(ED nmD&& !UK ws nmD)=false)(g1:2∉ways->gone.Perm g.gone)(g2:2∈ways->11<=gone.length)(f1:7∉ways->∃es,fo=some es/\es.Perm ((g.fields.take 6).map (DG gs) ++ (x3++ (x4++ (x5++x6)))))(f2:7∈ways->fo=none)(e3:ON 3 ways (B3 ((g.fields.take 6).map (DG gs))) x3)(V:ON 4 ways (B4 (((g.fields.take 6).map (·.num)) ++gone)) x4)(I:ON 5 ways (B5 (EO (numsOf (DQ g)) 13) g.nam) x5)(U:ON 6 ways (B6 (EO (numsOf (DQ g)) 14) g.choice) x6):
  ∃w∈ways,(∀v∈ways,EL w<=EL v)/\LU[EL w]?=some (Fk ws (.form ⟨g.choice,nmD,fo,gone⟩)):=by
 have hk:k<gs.length:=(Bi.mp R).1;have hn:=hs.nms;have n:=hs.ok k g R;have ge:∀{r:Nat},(∀v∈ways,¬EL v<r)->∀v∈ways,r<=EL v:=λh v c=>by have:=h v c;omega
 have ef:Fk ws (.form ⟨g.choice,nmD,fo,gone⟩)=if (ED nmD&& !UK ws nmD)=false then ("name" :Bx)else if Gz ⟨g.choice,nmD,fo,gone⟩=false then ("many" :Bx)else HH ws g.choice (fo.getD []) gone:=rfl
 rw[ef];by_cases w1:1∈ways
 ·rw[n2 w1,A36 rfl];refine⟨1,w1,ge λv c o=>?_,rfl⟩;have:v≠0:=λe=>H (e ▸ c);have Y:=G v c;have all:∀m:Fin 8,m.val≠0->¬EL m.val<1:=by decide
  exact all ⟨v,Y⟩ this o
 have hnm:=hn.ok g.nam (Bm.mpr ⟨g,Bp R,rfl⟩);have a4:UK ws (.str g.nam)=false:=To hA λi g2 hi a9 e=>by
  have:i=k:=LZ hn.nd (by rw[Bj,a9];rfl) (by rw[Bj,R];show some g.nam=some g2.nam;rw[e]);omega
 have eN: (ED nmD&& !UK ws nmD)=true:=by
  rw[n1 w1,a4];show(Ih g.nam&&true)=true;rw[hnm.1];rfl
 rw[eN,A35 Aa];by_cases w2:2∈ways\/7∈ways
 ·have hsz:Gz ⟨g.choice,nmD,fo,gone⟩=false:=by
   by_cases J:7∈ways
   ·rw[f2 J];rfl
   ·obtain⟨es,rfl,_⟩:=f1 J;have:=g2 (w2.resolve_right J);show(_&&decide ((gone.length:Int)<=10))=false;rw[A33 (show ¬ (gone.length:Int)<=10 by omega),Iv]
  rw[hsz,A36 rfl];have all:∀m:Fin 8,m.val≠0->m.val≠1->¬EL m.val<2:=by decide
  have Q:∀v∈ways,2<=EL v:=ge λv c o=>all ⟨v,G v c⟩ (λe=>H (e ▸ c)) (λe=>w1 (e ▸ c)) o;rcases w2 with w2|J
  ·exact⟨2,w2,Q,rfl⟩
  ·exact⟨7,J,Q,rfl⟩
 have u:2∉ways:=λh=>w2 (.inl h);have t:7∉ways:=λh=>w2 (.inr h);obtain⟨es,rfl,S⟩:=f1 t;have C:=g1 u;have mem:∀e∈ (g.fields.take 6).map (DG gs),∃f∈g.fields,f∈g.fields.take 6/\e=DG gs f:=λe l=>by
  obtain⟨f,q,rfl⟩:=Bm.mp l;exact⟨f,CA q,q,rfl⟩
 have l3:=(Hw e3.or).1;have l4:=(Hw V.or).1;have l5:=(Hw I.or).1;have l6:=(Hw U.or).1;have hsz:Gz ⟨g.choice,nmD,some es,gone⟩=true:=by
  have hl:es.length=min 6 g.fields.length+ (x3.length+ (x4.length+ (x5.length+x6.length))):=by
   rw[S.length_eq,Bh,Bh,Bh,Bh,AV,Bt]
  show((decide ((if g.choice then (1:Int)else 0)<= (es.length:Int)) &&decide ((es.length:Int)<=10)) &&decide ((gone.length:Int)<=10))=true
  have hgl:=n.gl;have e1: (if g.choice then (1:Int)else 0)<= (es.length:Int):=by
   cases hc:g.choice with
   |false=>show(0:Int)<=_;omega
   |true=>
    show(1:Int)<=_;have:=ET.mpr (n.ne hc);omega
  rw[A32 e1,A32 (show(es.length:Int)<=10 by omega),A32 (show(gone.length:Int)<=10 by rw[C.length_eq];omega)];rfl
 rw[hsz,A35 Aa];show ∃w∈ways,(∀v∈ways,EL w<=EL v)/\LU[EL w]?=some (HH ws g.choice es gone);rw[OE S (Mm gone)];have A:∀{r:Nat},(∀m:Fin 8,m.val≠0->m.val≠1->m.val≠2->m.val≠7->¬EL m.val<r)->∀v∈ways,r<=EL v:=λall=>ge λv c o=>all ⟨v,G v c⟩ (λe=>H (e ▸ c)) (λe=>w1 (e ▸ c)) (λe=>u (e ▸ c)) (λe=>t (e ▸ c)) o;unfold HH;by_cases w3:3∈ways
 ·obtain⟨e,rfl,s⟩:=e3.1 w3;have B:Gb ((g.fields.take 6).map (DG gs) ++ ([e] ++ (x4++ (x5++x6))))=false:=by
   unfold Gb;rcases s with s|⟨W,D,b0⟩
   ·rw[Ig];left;cases ha: ((g.fields.take 6).map (DG gs) ++ ([e] ++ (x4++ (x5++x6)))).all λe=>ED (Rl e)with
    |false=>rfl
    |true=>
     have:=BI.mp ha e (BU _ (CF _ (Bu.mpr rfl)));rw[s]at this;cases this
   ·rw[Ig];right;refine A33 λhnd=>?_;rw[Cr,Cr]at hnd;have:=(Gr.mp hnd).2.2 (wv W) (Bm.mpr ⟨W,D,rfl⟩) (wv e) (CF _ (Bm.mpr ⟨e,Bu.mpr rfl,rfl⟩));exact this b0
  rw[B,A36 rfl];exact⟨3,w3,A Aa,rfl⟩
 obtain rfl:=e3.2 w3;have s4: (x4.map wv).Sublist ["zzzb"]:=Tr (V.or.imp (λP=>(by obtain⟨e,h,d,l,_⟩:=P;exact⟨e,h,by rw[l];rfl⟩)) id);have s5: (x5.map wv).Sublist ["zzzc"]:=Tr (I.or.imp (λO=>(by obtain⟨e,h,d,_,l⟩:=O;exact⟨e,h,by rw[l];rfl⟩)) id);have s6: (x6.map wv).Sublist ["zzzd"]:=Tr (U.or.imp (λN=>(by obtain⟨e,h,d,_,l⟩:=N;exact⟨e,h,by rw[l];rfl⟩)) id);have o4:=(Hw V.or).2;have o5:=(Hw I.or).2;have X:=(Hw U.or).2;have a0:Gb ((g.fields.take 6).map (DG gs) ++ ([] ++ (x4++ (x5++x6))))=true:=by
  unfold Gb;rw[BZ];refine⟨BI.mpr λe l=>?_,A32 ?_⟩
  ·rw[EW]at l;rcases Cg.mp l with l|l
   ·obtain⟨f,q,_,rfl⟩:=mem e l;exact(n.nms.ok f.nam (Bm.mpr ⟨f,q,rfl⟩)).1
   ·rcases Cg.mp l with l|l
    ·obtain⟨d,rfl,_⟩:=o4 e l;exact Q3
    ·rcases Cg.mp l with l|l
     ·obtain⟨d,_,rfl⟩:=o5 e l;exact Q2
     ·obtain⟨d,_,rfl⟩:=X e l;exact Q1
  ·rw[EW,Cr,Cr,Cr];have sub: (x4.map wv++ (x5.map wv++x6.map wv)).Sublist ((["zzzb"]:List Bx) ++ ((["zzzc"]:List Bx) ++ (["zzzd"]:List Bx))):=s4.append (s5.append s6);refine Gr.mpr ⟨?_,tH.sublist sub,λa ha b s e=>?_⟩
   ·rw[Cf];show((g.fields.take 6).map (·.nam)).Nodup;exact n.nms.nd.sublist ((Gq 6 g.fields).map _)
   ·obtain⟨W,D,rfl⟩:=Bm.mp ha;obtain⟨f,q,_,rfl⟩:=mem W D;have x:=sub.subset s;rw[<-e]at x;exact A0d (n.nms.ok f.nam (Bm.mpr ⟨f,q,rfl⟩)) x
 rw[a0,A35 Aa];by_cases w4:4∈ways
 ·obtain⟨e,rfl,d,rfl,s⟩:=V.1 w4;have B:Ec ((g.fields.take 6).map (DG gs) ++ ([] ++ ([.fld ⟨d,.str "zzzb",.truth,.bl false,.bl false⟩] ++ (x5++x6)))) gone=false:=by
   unfold Ec;rcases s with s|⟨m,hm,rfl⟩
   ·rw[Ig,Ig];left;left;cases ha: ((g.fields.take 6).map (DG gs) ++ ([] ++ ([Ex.fld ⟨d,.str "zzzb",.truth,.bl false,.bl false⟩] ++ (x5++x6)))).all λe=>KZ (Tn e) 1 200 with
    |false=>rfl
    |true=>
     have:=BI.mp ha _ (BU _ (BU _ (CF _ (Bu.mpr rfl))));rw[show KZ (Tn (Ex.fld ⟨d,.str "zzzb",.truth,.bl false,.bl false⟩)) 1 200=KZ d 1 200 from rfl,s]at this;cases this
   ·rw[Ig];right;refine A33 λhnd=>?_;unfold JF at hnd;rw[EW,Cr,Cr,Gu,Gu]at hnd;rcases Cg.mp hm with hm|hm
    ·obtain⟨f,q,rfl⟩:=Bm.mp hm;exact(Gr.mp hnd).2.2 f.num (Bm.mpr ⟨DG gs f,Bm.mpr ⟨f,q,rfl⟩,rfl⟩) f.num (CF _ (Bm.mpr ⟨_,Bu.mpr rfl,rfl⟩)) rfl
    ·exact(Gr.mp (Gr.mp hnd).2.1).2.2 m (Bm.mpr ⟨_,Bu.mpr rfl,rfl⟩) m (BU _ hm) rfl
  rw[B,A36 rfl];refine⟨4,w4,ge λv c o=>?_,rfl⟩;have all:∀m:Fin 8,m.val≠0->m.val≠1->m.val≠2->m.val≠7->m.val≠3->¬EL m.val<4:=by decide
  exact all ⟨v,G v c⟩ (λe=>H (e ▸ c)) (λe=>w1 (e ▸ c)) (λe=>u (e ▸ c)) (λe=>t (e ▸ c)) (λe=>w3 (e ▸ c)) o
 obtain rfl:=V.2 w4;rw[EW,EW];have E: (numsOf (DQ g)).length<=20:=by
  unfold numsOf DQ;rw[Bh,AV,Bt];have:=n.gl;show min 6 g.fields.length+g.gone.length<=20;omega
 obtain⟨a1,a2,a3⟩:=pw E (j:=13) Aa;obtain⟨b1,b2,b3⟩:=pw E (j:=14) Aa;have b5:EO (numsOf (DQ g)) 13≠EO (numsOf (DQ g)) 14:=λe=>A38 (vr E Aa Aa e) Aa;generalize EO (numsOf (DQ g)) 13=T at *;generalize EO (numsOf (DQ g)) 14=F at *;have am:∀m:Int,1<=m/\m<=200->KZ (.int m) 1 200=true:=λm hm=>by
  show(decide (1<=m) &&decide (m<=200))=true;rw[A32 hm.1,A32 hm.2];rfl
 have t5: (x5.map V3).Sublist [T]:=Tr (I.or.imp (λM=>(by obtain⟨e,h,d,_,l⟩:=M;exact⟨e,h,by rw[l];rfl⟩)) id);have t6: (x6.map V3).Sublist [F]:=Tr (U.or.imp (λL=>(by obtain⟨e,h,d,_,l⟩:=L;exact⟨e,h,by rw[l];rfl⟩)) id);have Z:Ec ((g.fields.take 6).map (DG gs) ++ (x5++x6)) gone=true:=by
  unfold Ec JF;rw[BZ,BZ];have s:=n.nums.bd;refine⟨⟨BI.mpr λe l=>?_,BI.mpr λm hm=>am m (s m (BU _ (C.mem_iff.mp hm)))⟩,A32 ?_⟩
  ·rcases Cg.mp l with l|l
   ·obtain⟨f,q,_,rfl⟩:=mem e l;exact am f.num (s f.num (CF _ (Bm.mpr ⟨f,q,rfl⟩)))
   ·rcases Cg.mp l with l|l
    ·obtain⟨d,_,rfl⟩:=o5 e l;exact am _ ⟨a1,a2⟩
    ·obtain⟨d,_,rfl⟩:=X e l;exact am _ ⟨b1,b2⟩
  ·have eL: ((g.fields.take 6).map (DG gs)).map (λe=>vj (Tn e))=(g.fields.take 6).map (·.num):=by rw[Cf];rfl
   rw[Cr,Cr,eL];have hM: ((g.fields.take 6).map (·.num) ++g.gone).Nodup:=n.nums.nd.sublist (((Gq 6 g.fields).map _).append (List.Sublist.refl _));have z: (x5.map V3++x6.map V3).Sublist ([T] ++[F]):=t5.append t6;have hN: ((x5.map V3++x6.map V3) ++ ((g.fields.take 6).map (·.num) ++g.gone)).Nodup:=by
    refine Gr.mpr ⟨?_,hM,λp hp q' hq e=>?_⟩
    ·refine List.Nodup.sublist z ?_;exact Jn.mpr ⟨λh=>b5 (Bu.mp h),List.pairwise_singleton _ _⟩
    ·have x:=z.subset hp;rw[e]at x;have y:q'∈numsOf (DQ g):=hq;rcases Cg.mp x with x|x
     ·rw[Bu.mp x]at y;exact a3 y
     ·rw[Bu.mp x]at y;exact b3 y
   refine(Rk ?_).mp hN;refine(List.Perm.append_left _ (List.Perm.append_left _ C.symm)).trans ?_;rw[<-Gu];exact List.Perm.append_right _ List.perm_append_comm
 rw[Z,A35 Aa];by_cases w5:5∈ways
 ·obtain⟨e,rfl,kd,a7,rfl⟩:=I.1 w5;have a8: (((g.fields.take 6).map (DG gs) ++ ([Ex.fld ⟨.int T,.str "zzzc",kd,.bl false,HI kd⟩] ++x6)).all λe=>Ii ws (JW e))=false:=by
   cases ha: ((g.fields.take 6).map (DG gs) ++ ([Ex.fld ⟨.int T,.str "zzzc",kd,.bl false,HI kd⟩] ++x6)).all λe=>Ii ws (JW e)with
   |false=>rfl
   |true=>
    have:=BI.mp ha _ (BU _ (CF _ (Bu.mpr rfl)));rw[show Ii ws (JW (Ex.fld ⟨.int T,.str "zzzc",kd,.bl false,HI kd⟩))=Ii ws kd from rfl,zx hA hn R kd a7]at this;cases this
  rw[a8,A36 rfl];refine⟨5,w5,ge λv c o=>?_,rfl⟩;have all:∀m:Fin 8,m.val≠0->m.val≠1->m.val≠2->m.val≠7->m.val≠3->m.val≠4->¬EL m.val<5:=by decide
  exact all ⟨v,G v c⟩ (λe=>H (e ▸ c)) (λe=>w1 (e ▸ c)) (λe=>u (e ▸ c)) (λe=>t (e ▸ c)) (λe=>w3 (e ▸ c)) (λe=>w4 (e ▸ c)) o
 obtain rfl:=I.2 w5;rw[EW];have a6: (((g.fields.take 6).map (DG gs) ++x6).all λe=>Ii ws (JW e))=true:=BI.mpr λe l=>by
  rcases Cg.mp l with l|l
  ·obtain⟨f,q,_,rfl⟩:=mem e l;exact cb hA hn (Gp hk) (n.fs f q).kind
  ·obtain⟨r,o,rfl⟩:=X e l;exact rJ g.choice ws r o
 rw[a6,A35 Aa];have w6:∀v∈ways,v=6:=λv c=>by
  have:=G v c;have c0:v≠0:=λe=>H (e ▸ c);have c1:v≠1:=λe=>w1 (e ▸ c);have c2:v≠2:=λe=>u (e ▸ c);have c7:v≠7:=λe=>t (e ▸ c);have c3:v≠3:=λe=>w3 (e ▸ c);have c4:v≠4:=λe=>w4 (e ▸ c);have c5:v≠5:=λe=>w5 (e ▸ c);omega
 obtain⟨v,c⟩:∃v,v∈ways:=by
  cases ways with
  |nil=>exact A38 rfl a5
  |cons v r=>exact⟨v,.head _⟩
 have K:6∈ways:=w6 v c ▸ c;obtain⟨e,rfl,r,o,rfl⟩:=U.1 K;have b4: ((g.fields.take 6).map (DG gs) ++[Ex.fld (gp F r)]).all (pE g.choice)=false:=by
  cases ha: ((g.fields.take 6).map (DG gs) ++[Ex.fld (gp F r)]).all (pE g.choice)with
  |false=>rfl
  |true=>
   have:=BI.mp ha _ (BU _ (Bu.mpr rfl));rw[show pE g.choice (Ex.fld (gp F r))=OF (gp F r) g.choice from rfl,zy g.choice F r o]at this;cases this
 rw[b4,A36 rfl];exact⟨6,K,λv c=>by rw[w6 v c];exact Bv _,rfl⟩
end
theorem mL{K:Be}{l:Ba}{xs:List V}{H1:Hp}{b:L2.St}{g:TG}{te:TE}{Q:VK}(q:H1 l=some (.lst xs))(I:xs.length<=1000)(Y:Hp->Prop)(B:Y H1)(n:Nat->Hp->V->Prop)(p:∀i H H' v,BC H H'->n i H v->n i H' v)(hs:∀(j:Nat) x,xs[j]?=some x->∀(D:Ba) (ys:List V) (a:Hp) (R:VK),a D=none->BC H1 a->Y a->(∀y H',BC a H'->Y H'->H' D=none->n j H' y->R y (upd H' D (.lst ys)))->g x b (upd a D (.lst ys)) λh H2=>Sub b h/\te h H2 R)(hd:∀D H' ys,H' D=none->BC H1 H'->Y H'->ys.length=xs.length->(∀(i:Nat) y,ys[i]?=some y->n i H' y)->Q (.ref D) (upd H' D (.lst ys))):QH (A6 K l) H1 b g XE te Q:=by
 intro D w;refine⟨λi m ys H=>m=xs.length - i/\i<=xs.length/\ys.length=i/\∃a,a D=none/\H=upd a D (.lst ys)/\BC H1 a/\Y a/\∀(j:Nat) y,ys[j]?=some y->n j a y,⟨xs.length,by simp,CH _,rfl,H1,w,rfl,BC.refl _,B,λj y e=>by simp at e⟩,?_⟩;rintro i m ys H ⟨rfl,hi,c,a,k,rfl,sm,t,u⟩;have f:upd a D (.lst ys) l=some (.lst xs):=by
  rw[Bo (λz=>by rw[z,w]at q;cases q)];exact sm _ _ q
 refine⟨AX,?_⟩;by_cases d:i<xs.length
 ·have E:xs[i]?=some (xs[i]'d):=AW d;refine .inr ⟨⟨xs,_,Dk.of f,E⟩,λx H' y=>?_⟩;obtain⟨e,C⟩:=y;subst e;have o:xs[i]?=some x:=C _ (Dk.of f);refine hs i x o D ys a _ k sm t λy G s4 A F s=>?_;refine⟨AX,Ea (by omega),xs.length - (i+1),by omega,rfl,d,by rw[Bh,c];rfl,G,F,by rw[Fo],sm.trans s4,A,λj z r=>?_⟩;rcases Lf r with r|⟨rfl,rfl⟩
  ·exact p _ _ _ _ s4 (u j z r)
  ·rw[c];exact s
 ·have e:i=xs.length:=by omega
  subst e;exact .inl ⟨⟨xs,Dk.of f,by omega⟩,hd D a ys k sm t c u⟩
theorem iF{gs:List SG}{Ws:List Int}(h:Gn gs Ws):kj Ws:=by
 intro i;induction i using Nat.strongRecOn with
 |ind i f=>
  intro w e;have hi:i<Ws.length:=(Bi.mp e).1;have d:gs[i]?=some (gs[i]'(by rw[h.len];exact hi)):=AW _;have hw:=h.ws i _ d;obtain rfl:=AR (e.symm.trans hw);have b: (Ws.take i).length=i:=by rw[Bt];omega
  have hW:kj (Ws.take i):=λj x a=>by
   have c:j<i:=by have:=(Bi.mp a).1;omega
   rw[Da c]at a;exact f j c x a
  have:=bE hW (g:=gs[i]'(by rw[h.len];exact hi)) (by rw[b];exact h.ok i _ d);rw[b]at this;exact this
theorem yS(gs:List SG)(i:Nat):Ll (gs.map DQ) i=Ll gs i:=by
 unfold Ll;rw[Bj];cases gs[i]? <;> rfl
theorem my(gs:List SG):∀k:Lk,Kf (gs.map DQ) k=Kf gs k
 |.truth=>rfl
 |.count=>rfl
 |.whole=>rfl
 |.upto _=>rfl
 |.text _=>rfl
 |.form i=>by show Kx.form _=Kx.form _;rw[yS]
 |.list k=>by show Kx.list _=Kx.list _;rw[my gs k]
theorem T5(gs:List SG)(f:SF):DG (gs.map DQ) f=DG gs f:=by
 unfold DG Rn;rw[my]
theorem bX(gs:List SG): (gs.map DQ).map (·.nam)=gs.map (·.nam):=by
 rw[Cf];rfl
def SD(H:Hp)(D:Ba)(es:List Ex)(H':Hp):Prop:=∃vs,H' D=some (.lst vs)/\vs.length<=20/\BC H (untr H' D)/\Es (untr H' D) es vs
theorem LW{H H':Hp}{D:Ba}(s:BC H H'):BC (untr H D) (untr H' D):=λb o e=>by
 by_cases a:b=D
 ·subst a;rw[Hi]at e;cases e
 ·rw[Em a]at e ⊢;exact s _ _ e
theorem SH{H:Hp}{D:Ba}:BC (untr H D) H:=λb o e=>by
 by_cases a:b=D
 ·subst a;rw[Hi]at e;cases e
 ·rw[Em a]at e;exact e
theorem SD.next{H H' a:Hp}{D:Ba}{es:List Ex}(h:SD H D es H')(s:BC H' a):SD H D es a:=by
 obtain⟨vs,h1,h2,h3,b⟩:=h;exact⟨vs,s _ _ h1,h2,h3.trans (LW s),b.sm (Sm.of (LW s))⟩
theorem SD.all{H H':Hp}{D:Ba}{es:List Ex}(h:SD H D es H'):BC H H':=by
 obtain⟨vs,h1,h2,h3,a⟩:=h;exact h3.trans SH
theorem SD.more{H H' H2:Hp}{D:Ba}{es:List Ex}{vs:List V}{e:Ex}{v:V}(h1:H' D=some (.lst vs))(b:vs.length<20)(h3:BC H (untr H' D))(d:Es (untr H' D) es vs)(s:BC (untr H' D) H2)(a:H2 D=none)(c:OL H2 e v):SD H D (es++[e]) (upd H2 D (.lst (vs++[v]))):=by
 refine⟨vs++[v],AX,by rw[Bh];exact b,?_,?_⟩
 ·rw[GQ a];exact h3.trans s
 ·rw[GQ a];exact MK (d.sm (Sm.of s)) (.cons c .nil)
theorem za(x:Nat)(ways:List Nat):L2.kr (.int (x:Int)) (ways.map λn=>V.int (n:Nat))=decide (x∈ways):=by
 have e: (ways.map λn=>V.int (n:Nat))=(ways.map λn=>((n:Nat):Int)).map V.int:=by rw[Cf];rfl
 rw[e,jG];rw[Fw,List.contains_iff_mem,decide_eq_true_iff];constructor
 ·intro h;obtain⟨n,hn,e⟩:=Bm.mp h;have:n=x:=by omega
  rw[<-this];exact hn
 ·exact λh=>Bm.mpr ⟨x,h,rfl⟩
theorem IK(ways:List Nat): (ways.map λn=>V.int (n:Nat)).all OD=true:=by
 rw[List.all_map];exact BI.mpr λ_ _=>rfl
def wt(gs:List SG)(Ws:List Int)(k:Nat)(ways:List Nat)(o:Ox):Prop:=∀ws,KS gs Ws k ws->∃w∈ways,(∀v∈ways,EL w<=EL v)/\LU[EL w]?=some (Fk ws o)
def nW:Sp:=λvs H Q _=>∃sv wl gs Ws g k ways n,vs=[sv,.int ((k:Nat):Int),.ref wl,.int n]/\YW H (gs.map DQ) sv/\Gn gs Ws/\gs.length<=6/\gs[k]?=some g/\H wl=some (.lst (ways.map λn=>V.int (n:Nat)))/\ways≠[]/\ways.length<=8/\(∀v∈ways,v<8)/\0<=n/\Lm H/\∀o v H',Sm H H'->Lm H'->wt gs Ws k ways o->gr H' o v->Ox.may o->Ox.few o->Q v H'
theorem A1Y: ((["_law_other"]:List Bx) ++ ([]:List Bx)).Nodup:=by decide+kernel
theorem A23: ((AN:List Bx) ++ (["_law_form"]:List Bx)).Nodup:=by decide+kernel
theorem A0k: ((AO:List Bx) ++ (["_law_form"]:List Bx)).Nodup:=by decide+kernel
def Y2(ds:List Dt):List HV:=ds.map λd=>λH v=>Th H d v
theorem tN(ds:List Dt):∀R∈Y2 ds,Mo R:=λR a=>by
 obtain⟨k,_,rfl⟩:=Bm.mp a;exact Jl k
theorem NX{x:Nat}{ways:List Nat}{A B:Prop}(h1:x∈ways->A)(h2:x∉ways->B):if L2.kr (.int ((x:Nat):Int)) (ways.map λn=>V.int (n:Nat))=true then A else B:=by
 rw[za];exact Kg (λh=>h1 (A34 h)) (λh=>h2 λz=>h (A32 z))
theorem jf:∀{as bs:List Ba},as.map V.ref=bs.map V.ref->as=bs
 |[],[],_=>rfl
 |[],_::_,h=>by cases h
 |_::_,[],h=>by cases h
 |a::as,b::bs,h=>by
  injection h with h1 h2;rw[V.ref.inj h1,jf h2]
structure MI(H:Hp)(D p:Ba)(gone:List Int)(d:Dt)(nv:V)(es:List Ex)(H':Hp):Prop where
 sd:SD H D es H'
 gn:H' p=some (.lst (gone.map V.int))
 nm:Th (untr H' D) d nv
theorem MI.next{H:Hp}{D p:Ba}{gone:List Int}{d:Dt}{nv:V}{es:List Ex}{H' a:Hp}(h:MI H D p gone d nv es H')(s:BC H' a):MI H D p gone d nv es a:=⟨h.sd.next s,s _ _ h.gn,Th.sm (Sm.of (LW s)) _ _ h.nm⟩
theorem MI.push{H:Hp}{D p:Ba}{gone:List Int}{d:Dt}{nv:V}{es:List Ex}{H' H2:Hp}{vs:List V}{e:Ex}{v:V}(h:MI H D p gone d nv es H')(a:p≠D)(h1:H' D=some (.lst vs))(g:es.length<20)(s:BC (untr H' D) H2)(b:H2 D=none)(i:OL H2 e v):MI H D p gone d nv (es++[e]) (upd H2 D (.lst (vs++[v]))):=by
 obtain⟨f,g1,g2,g3,c⟩:=h.sd;rw[h1]at g1;injection g1 with g1;injection g1 with g1;subst g1;refine⟨SD.more h1 (by rw[<-c.length];exact g) g3 c s b i,?_,?_⟩
 ·rw[Bo a];exact s _ _ (by rw[Em a];exact h.gn)
 ·rw[GQ b];exact Th.sm (Sm.of s) _ _ h.nm
def fT(n:Int)(z:Dt):Fx:=⟨.int n,z,.truth,.bl false,.bl false⟩
theorem pB{H H':Hp}{n:Int}{z:Dt}(i:z= .non\/∃s,z= .str s)(h:∀b C dx fs,H b=some (.ins C dx fs)->H' b=some (.ins C dx fs)){v:V}:WI H (fT n z) v->WI H' (fT n z) v
 |⟨a,dx,g,f,k,m,d,e,ha,h1,h2,h3,o,l⟩=>by
  refine⟨a,dx,g,f,k,m,d,e,h _ _ _ _ ha,h1,?_,?_,o,l⟩
  ·rcases i with rfl|⟨s,rfl⟩ <;> exact h2
  ·obtain⟨b,c,p,j⟩:=h3;exact⟨b,c,p,h _ _ _ _ j⟩
theorem fX{H:Hp}{D:Ba}{vs:List V}(c:H D=some (.lst vs)){n:Int}{z:Dt}(a:z= .non\/∃s,z= .str s){v:V}(h:WI H (fT n z) v):WI (untr H D) (fT n z) v:=pB a (λb C dx fs e=>by rw[Em (λy=>by rw[y,c]at e;cases e)];exact e) h
theorem tM{H:Hp}{D:Ba}{o:HO}:upd (untr H D) D o=upd H D o:=by
 funext b;by_cases a:b=D
 ·subst a;rw[AX,AX]
 ·rw[Bo a,Bo a,Em a]
noncomputable def nuL:List Dt:=[.int 0,.int 201,.bl true,.str "1",.non,.int (-1)]
theorem yN:∀d∈nuL,KZ d 1 200=false:=by
 intro d hd;have all: (nuL.all λd=>!KZ d 1 200)=true:=by decide+kernel
 have:=BI.mp all d hd;cases h:KZ d 1 200 with
 |false=>rfl
 |true=>rw[h]at this;cases this
theorem P9{H H':Hp}{d:Dt}(hd:d∈nuL){u:V}(h:Th H d u):Th H' d u:=by
 simp only[nuL,BK,Cq,or_false]at hd;rcases hd with rfl|rfl|rfl|rfl|rfl|rfl <;> exact h
def A2y(ns:List Int)(u:V):Prop:=∃d,(∀H,Th H d u)/\(KZ d 1 200=false\/∃m∈ns,d= .int m)
noncomputable def nmL:List Dt:=[.str "",.str "A",.non,.int 5,.str "abcdefghijklm",.lst []]
theorem yQ:∀d∈nmL,ED d=false:=by
 intro d hd;have all: (nmL.all λd=>!ED d)=true:=by decide+kernel
 have:=BI.mp all d hd;cases h:ED d with
 |false=>rfl
 |true=>rw[h]at this;cases this
abbrev mS(sv:V)(k:Nat)(wl:Ba)(n:Int)(a:Ba)(D nm gn c od b:Option V):L2.St:=[some sv,some (.int ((k:Nat):Int)),some (.ref wl),some (.int n),some (.ref a),D,nm,gn,c,od,b]
def NmP(gs:List SG)(Ws:List Int)(k:Nat)(g:SG)(ways:List Nat)(d:Dt):Prop:=(1∉ways->d= .str g.nam)/\(1∈ways->∀ws,KS gs Ws k ws->(ED d&& !UK ws d)=false)
theorem SD.get{H H':Hp}{D:Ba}{es:List Ex}(h:SD H D es H'){b:Ba}{o:HO}(e:H b=some o):H' b=some o:=h.all _ _ e
theorem Q4{gs:List SG}{Ws:List Int}{k:Nat}{ws:List (Bx×Int)}(c:KS gs Ws k ws)(hn: (gs.map (·.nam)).Nodup){i:Nat}(hi:i<k){g:SG}(b:gs[i]?=some g): (ED (.str g.nam) && !UK ws (.str g.nam))=false:=by
 obtain⟨x,a,_⟩:=ls c hn hi b;show(_&& !(SE ws g.nam).isSome)=false;rw[a];exact Iv _
theorem yD(T:Tx K mg)(kb:K.In base):Cm P w K mg base DS 9 982 (Br K 982) AL nW:=by
 have a3:Cm P w K mg base DS 7 934 (Br K 934) AF XO:=ju T;have I:Cm P w K mg base DS 1 963 (Br K 963) AI oa:=yH T;have b0:Cm P w K mg base DS 3 970 (Br K 970) AJ oh:=yI T;have Y:Cm P w K mg base DS 5 977 (Br K 977) AK oi:=yJ T;have v2:CQ [V.bl false,V.non] [Dm false,CM]:=.cons rfl (.cons rfl .nil);have v1:CQ [V.non] [CM]:=.cons rfl .nil;refine T.sX.ok Ix (λvs H Q E h=>?_) (λcdv A outer s H vs Q E hr h=>?_)
 ·obtain⟨sv,wl,gs,Ws,g,k,ways,n,rfl,_⟩:=h;rfl
 ·obtain⟨sv,wl,gs,Ws,g,k,ways,n,rfl,e8,hs,h6,hg,hwl,n1,C0,v7,hn,hL,q⟩:=h;have e9:Fm (3+1) _:=hr.mono Aa;have j8:Fm (4+1) _:=hr.mono Aa;have hu:=hr.units;have a8:=Cp (Cy (show 1<=64 by decide) _) hu;refine⟨_,BE (Ct (i:=4) Ix.nd rfl (Di rfl) (Dp Dz (pv 0) (pv 1) (λ_ _=>rfl))) (BE (Iz (i:=5) (ts:=AO) (xs:=AQ) (js:=[0]) rfl ⟨rfl,rfl,Ab,Ab,DZ rfl⟩ (.cons rfl (.inl rfl) rfl .nil) Ab (Ez (CT a8 (pv 4) Bs (λ_ _=>rfl))) (λC s_ H_ fp=>CN (X:=Ee _ _ _ C s_ H_ fp) (i:=0) A0j rfl (BP rfl) (Di rfl)) (λC s_ H_ fp=>DB (X:=Ee _ _ _ C s_ H_ fp)) (λC s_ H_ fp=>Jz (X:=Ee _ _ _ C s_ H_ fp) (BX (X:=Ee _ _ _ C s_ H_ fp) a3 (hr.mono Aa) rfl T.RK T.Mu T.Sx .nil BR (AS (pv 0) (AS (pv 1) AZ))))
     Ix.nd rfl (BP rfl) rfl)
   (BE (Ct (i:=6) Ix.nd rfl (BP rfl) (CT a8 (pv 4) Bs (λ_ _=>rfl)))
   (BE (Ct (i:=7) Ix.nd rfl (BP rfl) (Gj FW rfl T.Il Gi (AS (CT a8 (pv 4) Bs (λ_ _=>rfl)) AZ)))
   (BE (CV (CK Hj Bc (pv 2) rfl) (BE (Iz (i:=8) (ts:=["_law_other"]) (xs:=[]) (js:=[]) rfl ⟨rfl,rfl,Ab,Ab,DZ rfl⟩ .nil Ab (Ez (HG Pg (pv 0) Jb (Ja (pv 1)))) (λC s_ H_ fp=>CN (X:=Ee _ _ _ C s_ H_ fp) (i:=0) A1Y rfl (BP rfl) (Di rfl)) (λC s_ H_ fp=>DB (X:=Ee _ _ _ C s_ H_ fp)) (λC s_ H_ fp=>CT (X:=Ee _ _ _ C s_ H_ fp) a8 (pv 0) Bs (λ_ _=>rfl))
     Ix.nd rfl (BP rfl) rfl)
     (Bk (Ct (i:=6) Ix.nd rfl (BP rfl) (Dp Dz (BO Hl (Jz (Oq (tN [.str "",.str "A",.non,.int 5,.str "abcdefghijklm",.lst []]) Aa (By (Jl (.str "")) (Fi Bs λ_=>⟨rfl,Aa⟩) (By (Jl (.str "A")) (Fi Bs λ_=>⟨rfl,Aa⟩) (By (Jl .non) (Fi FC λ_=>rfl) (By (Jl (.int 5)) (Fi Bc λ_=>rfl) (By (Jl (.str "abcdefghijklm")) (Fi Bs λ_=>⟨rfl,Aa⟩) (By (Jl (.lst [])) (Jc (DO AZ) λ_ H Q q=>⟨zl 0,λp hp=>q _ _ (BM hp) ⟨p,[],rfl,AX,rfl,CH _⟩⟩) En)))))))) (pv 8)) (BO Dl (pv 3) (BO Eb Bc (BJ Dg (by rfl) T.Hs Fu (AS (pv 8) AZ)))) (λ_ _=>rfl)))))
    Ci)
   (BE (CV (CK Hj Bc (pv 2) rfl) (Bk (Ct (i:=7) Ix.nd rfl (BP rfl) (BO Hl (pv 7) (DY (ts:=AN) (xs:=["_law_form"]) (js:=[4]) rfl ⟨rfl,rfl,Ab,Ab,DZ rfl⟩ (.cons rfl (.inl rfl) rfl .nil) Ab (FP rfl T.HP (AS Bc AZ)) (λC s_ H_ fp=>CN (X:=Ee _ _ _ C s_ H_ fp) (i:=0) A23 rfl (BP rfl) (Di rfl)) (λC s_ H_ fp=>DB (X:=Ee _ _ _ C s_ H_ fp)) (λC s_ H_ fp=>BX (X:=Ee _ _ _ C s_ H_ fp) I (hr.mono Aa) rfl T.Ul T.QU T.Uu .nil BR (AS (pv 1) (AS (pv 0) AZ)))))))
    Ci)
   (BE (CV (CK Hj Bc (pv 2) rfl) (BE (Ct (i:=9) Ix.nd rfl (BP rfl) (DO (AS FC (AS Bs (AS (Dy ⟨T.FA,T.DN,T.DM,T.Fy⟩ (Dw T) e9 rfl T.Fc (Ge T) v2 BR (AS (BX I (hr.mono Aa) rfl T.Ul T.QU T.Uu .nil BR (AS (pv 4) (AS Bc AZ))) (AS Bs (AS (Ed T.Fb T.Dv T.Fa rfl T.EN) AZ)))) (AS (Dy ⟨T.FA,T.DN,T.DM,T.Fy⟩ (Dw T) e9 rfl T.Fc (Ge T) v2 BR (AS (BX I (hr.mono Aa) rfl T.Ul T.QU T.Uu .nil BR (AS (pv 4) (AS Bc AZ))) (AS FC (AS (Ed T.Fb T.Dv T.Fa rfl T.EN) AZ)))) AZ)))))) (BE (Iz (i:=10) (ts:=AO) (xs:=["_law_form"]) (js:=[4]) rfl ⟨rfl,rfl,Ab,Ab,DZ rfl⟩ (.cons rfl (.inl rfl) rfl .nil) Ab (Ez (HG Pg (pv 5) Jb (Ja Bc))) (λC s_ H_ fp=>CN (X:=Ee _ _ _ C s_ H_ fp) (i:=0) A0k rfl (BP rfl) (Di rfl)) (λC s_ H_ fp=>DB (X:=Ee _ _ _ C s_ H_ fp)) (λC s_ H_ fp=>Dy (X:=Ee _ _ _ C s_ H_ fp) ⟨T.FA,T.DN,T.DM,T.Fy⟩ (Dw T) e9 rfl T.Fc (Ge T) v2 BR (AS (BX I (hr.mono Aa) rfl T.Ul T.QU T.Uu .nil BR (AS (pv 1) (AS Bc AZ))) (AS (Lj (X:=Ee _ _ _ C s_ H_ fp) K rfl (pv 0) rfl) (AS (Ed T.Fb T.Dv T.Fa rfl T.EN) AZ))))
     Ix.nd rfl (BP rfl) rfl)
     (Bk (Li (QA DI Eu Et IJ (pv 5) (AS (Dp Dz (BO Hl (pv 9) (pv 10)) (BO Dl (BO DT (pv 3) Bc) (BJ Dg (by rfl) T.Hs Fu (AS (BO Hl (pv 9) (pv 10)) AZ))) (λ_ _=>rfl)) AZ))))))
    Ci)
   (BE (CV (CK Hj Bc (pv 2) rfl) (BE (Ct (i:=9) Ix.nd rfl (BP rfl) (BO Hl (BO Hl (Oq (tN [.int 0,.int 201,.bl true,.str "1",.non,.int (-1)]) Aa (By (Jl (.int 0)) (Fi Bc λ_=>rfl) (By (Jl (.int 201)) (Fi Bc λ_=>rfl) (By (Jl (.bl true)) (Fi DR λ_=>rfl) (By (Jl (.str "1")) (Fi Bs λ_=>⟨rfl,Aa⟩) (By (Jl .non) (Fi FC λ_=>rfl) (By (Jl (.int (-1))) (Jc (Yq Rc Bc) λ_ H Q q=>⟨_,rfl,q _ H (BC.refl _) rfl⟩) En))))))) (HG Pg (pv 7) Jb (Ja Bc))) (DY (ts:=AO) (xs:=[]) (js:=[]) rfl ⟨rfl,rfl,Ab,Ab,DZ rfl⟩ .nil Ab (Ez (HG Pg (CT a8 (pv 4) Bs (λ_ _=>rfl)) Jb (Ja Bc))) (λC s_ H_ fp=>CN (X:=Ee _ _ _ C s_ H_ fp) (i:=0) A0l rfl (BP rfl) (Di rfl)) (λC s_ H_ fp=>DB (X:=Ee _ _ _ C s_ H_ fp)) (λC s_ H_ fp=>CT (X:=Ee _ _ _ C s_ H_ fp) a8 (pv 0) Bs (λ_ _=>rfl))))) (Bk (Li (QA DI Eu Et IJ (pv 5) (AS (Jz (Dy ⟨T.FA,T.DN,T.DM,T.Fy⟩ (Dw T) e9 rfl T.Fc (Ge T) v2 BR (AS (Dp Dz (pv 9) (BO Dl (BO DT (pv 3) Bc) (BJ Dg (by rfl) T.Hs Fu (AS (pv 9) AZ))) (λ_ _=>rfl)) (AS Bs (AS (Ed T.Fb T.Dv T.Fa rfl T.EN) AZ))))) AZ)))))
    Ci)
   (BE (CV (CK Hj Bc (pv 2) rfl) (Bk (Li (QA DI Eu Et IJ (pv 5) (AS (Jz (Dy ⟨T.FA,T.DN,T.DM,T.Fy⟩ (Dw T) e9 rfl T.Fc (Ge T) v2 BR (AS (BX I (hr.mono Aa) rfl T.Ul T.QU T.Uu .nil BR (AS (pv 4) (AS Bc AZ))) (AS Bs (AS (BX b0 (hr.mono Aa) rfl T.kK T.Xj T.kZ .nil BR (AS (pv 0) (AS (pv 1) (AS (BO DT (pv 3) Bc) AZ)))) AZ))))) AZ))))
    Ci)
   (BE (CV (CK Hj Bc (pv 2) rfl) (Bk (Li (QA DI Eu Et IJ (pv 5) (AS (Jz (BX Y (hr.mono Aa) rfl T.ZV T.PM T.av .nil BR (AS (BX I (hr.mono Aa) rfl T.Ul T.QU T.Uu .nil BR (AS (pv 4) (AS Bc AZ))) (AS (CT a8 (pv 4) Bs (λ_ _=>rfl)) (AS (BO DT (pv 3) Bc) AZ))))) AZ))))
    Ci)
   (BE (CV (CK Hj Bc (pv 2) rfl) (Bk (BH (Dp Dz (DO (AS FC (AS Bs (AS Bc (AS Ou (AS (DO AZ) (AS (Dy ⟨T.xa,T.il,T.Fd,T.wY⟩ (EH T kb (zn T)) j8 rfl T.xf (GJ T) v1 BR (AS Bs (AS (DO AZ) AZ))) AZ))))))) (BO Dl (BO DT (pv 3) Bc) Bc) (λ_ _=>rfl))))
    Ci)
   (BE (CV (CK Hj Bc (pv 2) rfl) (Bk (Ct (i:=5) Ix.nd rfl (BP rfl) (Dp Dz (DO (AS FC (AS Bs (AS Bc (AS Ou AZ))))) (BO Dl (BO DT (pv 3) Bc) Bc) (λ_ _=>rfl))))
    Ci)
   (Bk (BH (KL (CZ (CT a8 (pv 4) Bs (λ_ _=>rfl))) (Dy ⟨T.Pb,T.Jy,T.Fd,T.OY⟩ (EH T kb (Mc T)) j8 rfl T.LN (Ki T) .nil BR (AS (pv 6) (AS (pv 5) (AS (pv 7) AZ)))) (Dy ⟨T.Kn,T.GZ,T.Fd,T.Kl⟩ (EH T kb (Ib T)) j8 rfl T.Jt (Ki T) .nil BR (AS (pv 6) (AS (pv 5) (AS (pv 7) AZ)))))))))))))))))),?_⟩
  have hk:k<gs.length:=(Bi.mp hg).1;have c0:=hs.ok k g hg;have p5: (gs.map DQ)[k]?=some (DQ g):=by rw[Bj,hg];rfl
  obtain⟨l,as,a,rfl,hl,ha,a',gl,fl,xs,ea,hA,hgl,i2,i1⟩:=e8.at p5;cases ea;have f5: (g.fields.take 6).length=xs.length:=i1.length;have E2:xs.length<=6:=by rw[<-f5,Bt];omega
  have hnm:=hs.nms.ok g.nam (Bm.mpr ⟨g,Bp hg,rfl⟩);have o2:=(HY hnm.1).2.1;refine Df (λt H'=>H=H'/\t=mS (.ref l) k wl n a none none none none none none) ?_ ?_
  ·exact⟨_,rfl,_,rfl,l,_,_,_,rfl,rfl,Dk.of hl,EK (j:=k) (v:=.ref a) (by rw[Bj,ha];rfl),rfl,rfl⟩
  rintro t H' ⟨rfl,rfl⟩;refine Df (λt H'=>∃D,H D=none/\t=mS (.ref l) k wl n a (some (.ref D)) none none none none none/\SD H D ((g.fields.take 6).map (DG gs)) H') ?_ ?_
  ·refine⟨_,rfl,a,_,rfl,Gc hA,fl,rfl,⟨_,Dk.of i2⟩,?_⟩;refine mL i2 (by omega) (λ_=>True) trivial (λj H' y=>∃f,(g.fields.take 6)[j]?=some f/\WI H' (Rn gs f) y) (λi H' H2 v s o9=>(by obtain⟨f,e,h⟩:=o9;exact⟨f,e,OL.sm (Sm.of s) (e:=.fld (Rn gs f)) h⟩)) (λj x B D ys Hu R v9 sm _ hR=>?_) (λD H' ys h0 sm _ h5 hP=>?_)
   ·obtain⟨f,hf,v3⟩:=Gf i1 j x B;have f7:f∈g.fields:=CA (Bp hf);have p7:=c0.fs f f7;have y0:f.kind.ok (gs.map DQ).length:=by
     rw[AV];have:=p7.kind;cases a9:f.kind with
     |form i=>rw[a9]at this;exact LJ (show i<k from this) hk
     |list j=>
      rw[a9]at this;rcases this with h|⟨i,h,hi⟩
      ·exact .inl h
      ·exact .inr ⟨i,h,by omega⟩
     |_=>rw[a9]at this;exact this
    refine⟨Sub.set rfl,D,ys,AX,?_⟩;rw[GQ v9];refine⟨_,rfl,_,rfl,x,.ref l,gs.map DQ,f,rfl,v3.sm (Sm.of sm),e8.sm (Sm.of sm),by rw[bX];exact hs.nms,y0,c0.nms.ok f.nam (Bm.mpr ⟨f,f7,rfl⟩),p7.dfl.imp id (λz=>⟨z.1,z.2.2⟩),λu H' s' L h0=>?_⟩;have hF:=L.isF;have e:Rn (gs.map DQ) f=Rn gs f:=by unfold Rn;rw[my]
    rw[e]at hF;exact hR u H' s' trivial h0 ⟨f,hf,hF⟩
   ·refine⟨D,sm.free h0,rfl,ys,AX,by omega,?_,?_⟩
    ·rw[GQ h0];exact sm
    ·rw[GQ h0];refine Kq (by rw[AV,h5,f5]) λi x y B u9=>?_;obtain⟨f,hf,hF⟩:=hP i y u9;rw[Bj,hf]at B;obtain rfl:DG gs f=x:=AR B;exact hF
  rintro t H1 ⟨D,F2,rfl,f9⟩;refine Df (λt H'=>H1=H'/\t=mS (.ref l) k wl n a (some (.ref D)) (some (.str g.nam)) none none none none) ?_ ?_
  ·exact⟨_,rfl,a,_,rfl,GC (f9.get hA),rfl,rfl⟩
  rintro t H' ⟨rfl,rfl⟩;refine Df (λt H'=>∃p,t=mS (.ref l) k wl n a (some (.ref D)) (some (.str g.nam)) (some (.ref p)) none none none/\SD H D ((g.fields.take 6).map (DG gs)) H'/\H' p=some (.lst (g.gone.map V.int))/\p≠D) ?_ ?_
  ·refine⟨_,rfl,a,_,rfl,OB (f9.get hA),gl,_,rfl,.inl (Dk.of (f9.get hgl)),λp hp=>⟨p,rfl,f9.next (BM hp),AX,?_⟩⟩;obtain⟨vs,h1,_⟩:=f9;exact λz=>by rw[z,h1]at hp;cases hp
  rintro t H2 ⟨p,rfl,d3,n5,d1⟩;refine Df (λt H'=>∃d nv ah,t=mS (.ref l) k wl n a (some (.ref D)) (some nv) (some (.ref p)) ah none none/\SD H D ((g.fields.take 6).map (DG gs)) H'/\H' p=some (.lst (g.gone.map V.int))/\Th (untr H' D) d nv/\NmP gs Ws k g ways d) ?_ ?_
  ·refine⟨_,rfl,wl,_,rfl,.inl (Dk.of (d3.get hwl)),rfl,IK ways,_,rfl,NX (x:=1) (λw1=>?_) (λw1=>?_)⟩
   ·refine Df (λt H'=>∃al,t=mS (.ref l) k wl n a (some (.ref D)) (some (.str g.nam)) (some (.ref p)) (some (.ref al)) none none/\SD H D ((g.fields.take 6).map (DG gs)) H'/\H' p=some (.lst (g.gone.map V.int))/\H' al=some (.lst (((gs.take k).map (·.nam)).map V.str))/\al≠D) ?_ ?_
    ·refine⟨_,rfl,_,rfl,_,rfl,l,_,rfl,Dk.of (d3.get hl),λr b8=>?_⟩;have t1:=BM (u:=.lst (MR (as.map V.ref) none (some (k:Int)))) b8;have r7:MR (as.map V.ref) none (some (k:Int))=(as.take k).map V.ref:=by rw[OG rfl,List.map_take]
     have j1: (gs.map DQ).length=as.length:=by obtain⟨l',r9,e',f6,x0⟩:=e8;cases e';rw[hl]at f6;have:=x0.length;injection f6 with e1;injection e1 with e1;rw[this,<-AV (f:=V.ref),<-e1,AV]
     rw[AV]at j1;have n3:upd H2 r (.lst (MR (as.map V.ref) none (some (k:Int)))) r=some (.lst ((as.take k).map V.ref)):=by rw[AX,r7]
     refine⟨r,rfl,⟨_,Dk.of n3⟩,Du (Wk.list (Dk.of n3)) (by rw[AV,Bt];omega) (λj=>.str (match (gs.take k)[j]? with|some g=>g.nam|none=>"")) (λj y hy H3 R s3 hR=>?_) (λal H3 f8 s3 e3=>?_)⟩
     ·rw[Bj]at hy;obtain⟨b,hb,rfl⟩:=BS.mp hy;have o5:j<k:=by have:=(Bi.mp hb).1;rw[Bt]at this;omega
      have p4:gs[j]?=some (gs[j]'(by omega)):=AW _;have p3: (gs.map DQ)[j]?=some (DQ (gs[j]'(by omega))):=by rw[Bj,p4];rfl
      obtain⟨l',r9,b',e',f6,z3,b2,F5,fl2,D1,e2,hB,_⟩:=e8.at p3;cases e';rw[hl]at f6;injection f6 with e1;injection e1 with e1;have A5:as=r9:=jf e1;subst A5;rw[Da o5]at hb;obtain rfl:b=b':=AR (hb.symm.trans z3);cases e2;have l7:R (.str (gs[j]'(by omega)).nam) H3:=by
       have:=hR H3 λ_ _ e=>e;rw[Da o5,p4]at this;exact this
      exact⟨Sub.set rfl,_,rfl,b,_,rfl,GC (s3 _ _ (t1 _ _ (d3.get hB))),l7⟩
     ·refine⟨al,rfl,d3.next (t1.trans s3),s3 _ _ (t1 _ _ n5),?_,λz=>?_⟩
      ·have e4: (as.take k).length=(gs.take k).length:=by rw[Bt,Bt,j1]
       rw[e3,AV,e4,HS (gs.take k) (λg=>V.str g.nam) _ (λi d hd=>by rw[hd]),Cf];rfl
      ·obtain⟨vs,h1,_⟩:=d3;rw[z,t1 _ _ h1]at f8;cases f8
    rintro t H3 ⟨al,rfl,c3,f0,f8,j2⟩;obtain⟨vs,G,b7,U,a0⟩:=c3;refine⟨D,vs,G,?_⟩;rintro v Hq sq ⟨lo,ys,rfl,f4,a5⟩ n4;have e5:6=ys.length:=a5.length;have o4:lo≠D:=λz=>by rw[z,n4]at f4;cases f4
    have j5:∀{b:Ba} {o:HO},b≠D->H3 b=some o->upd Hq D (.lst vs) b=some o:=λnb e=>by
     rw[Bo nb];exact sq _ _ (by rw[Em nb];exact e)
    have u7:BC H3 (upd Hq D (.lst vs)):=λb o e=>by
     by_cases hb:b=D
     ·subst hb;rw[AX];exact G.symm.trans e
     ·exact j5 hb e
    have k4: ((gs.take k).map (·.nam)).length=k:=by rw[AV,Bt];omega
    refine⟨_,rfl,lo,al,_,_,rfl,rfl,by rw[Bo o4];exact f4,j5 j2 f8,by rw[<-e5,AV,k4];exact BF (show 6+k<=1000 by omega) Aa,λpc k0=>?_⟩;have tq:=BM (u:=.lst (ys++ ((gs.take k).map (·.nam)).map V.str)) k0;have j6:=u7.trans tq;have q8:SD H D ((g.fields.take 6).map (DG gs)) (upd (upd Hq D (.lst vs)) pc (.lst (ys++ ((gs.take k).map (·.nam)).map V.str))):=SD.next ⟨vs,G,b7,U,a0⟩ j6;have hm:=Ey n (b:=6+ ((k:Nat):Int)) (by omega);have k3: (ys++ ((gs.take k).map (·.nam)).map V.str).length=6+k:=by rw[Bh,AV,k4,<-e5]
    have hi: (n% (6+ ((k:Nat):Int))).toNat< (ys++ ((gs.take k).map (·.nam)).map V.str).length:=by rw[k3];omega
    have B:=AW hi;generalize (ys++ ((gs.take k).map (·.nam)).map V.str)[(n% (6+ ((k:Nat):Int))).toNat]'hi=nv at B;have k9:bo (ys++ ((gs.take k).map (·.nam)).map V.str) (n% (6+ ((k:Nat):Int)))=some nv:=by
     have:=EK B;rw[Dj hm.1]at this;exact this
    refine⟨_,rfl,_,rfl,al,_,rfl,.inl (Dk.of (tq _ _ (j5 j2 f8))),_,_,rfl,rfl,_,_,rfl,rfl,?_,pc,_,_,nv,rfl,rfl,Dk.of AX,?_,?_⟩
    ·show(0:Int) <6+ (((((gs.take k).map (·.nam)).map V.str).length:Nat):Int);omega
    ·show bo _ (n% (6+ (((((gs.take k).map (·.nam)).map V.str).length:Nat):Int)))=_;rw[AV,k4];exact k9
    ·have C1:pc≠D:=λz=>by rw[z,AX]at k0;cases k0
     have u5:BC Hq (untr (upd (upd Hq D (.lst vs)) pc (.lst (ys++ ((gs.take k).map (·.nam)).map V.str))) D):=λb o e=>by
      have hb:b≠D:=λz=>by rw[z,n4]at e;cases e
      rw[Em hb];exact tq _ _ (by rw[Bo hb];exact e)
     by_cases F4: (n% (6+ ((k:Nat):Int))).toNat<6
     ·rw[CU (by omega)]at B;obtain⟨R,hR,l0⟩:=Gf a5 _ _ B;have c4: (Y2 nmL)[(n% (6+ ((k:Nat):Int))).toNat]?=some R:=hR;unfold Y2 at c4;rw[Bj]at c4;obtain⟨d,hd,rfl⟩:=BS.mp c4;refine⟨d,nv,_,rfl,q8,j6 _ _ f0,Th.sm (Sm.of u5) _ _ l0,λh=>A38 w1 h,λ_ ws _=>?_⟩;rw[yQ d (Bp hd)];rfl
     ·rw[CB (by omega),Bj,Bj]at B;obtain⟨z,hz,rfl⟩:=BS.mp B;obtain⟨g2,i0,rfl⟩:=BS.mp hz;have hj: (n% (6+ ((k:Nat):Int))).toNat - ys.length<k:=by have:=(Bi.mp i0).1;rw[Bt]at this;omega
      rw[Da hj]at i0;have d9:=(HY (hs.nms.ok g2.nam (Bm.mpr ⟨g2,Bp i0,rfl⟩)).1).2.1;exact⟨.str g2.nam,_,_,rfl,q8,j6 _ _ f0,⟨rfl,BF d9 Aa⟩,λh=>A38 w1 h,λ_ ws hA=>Q4 hA hs.nms.nd hj i0⟩
   ·refine⟨.str g.nam,.str g.nam,none,rfl,d3,n5,⟨rfl,BF o2 Aa⟩,λ_=>rfl,λh=>A38 h w1⟩
  rintro t H3 ⟨d,nv,ah,rfl,c3,f0,o1,i9⟩;have d0:Mf H (DQ g) (.ref a):=⟨a,gl,fl,xs,rfl,hA,hgl,i2,i1⟩;have a4: (DQ g).fields.length<=10:=by show(g.fields.take 6).length<=10;omega
  have d2: (DQ g).gone.length<=4:=BF c0.gl Aa;refine Df (λt H'=>∃p gone,t=mS (.ref l) k wl n a (some (.ref D)) (some nv) (some (.ref p)) ah none none/\MI H D p gone d nv ((g.fields.take 6).map (DG gs)) H'/\p≠D/\(2∉ways->gone.Perm g.gone)/\(2∈ways->11<=gone.length)/\gone.length<=20) ?_ ?_
  ·refine⟨_,rfl,wl,_,rfl,.inl (Dk.of (c3.get hwl)),rfl,IK ways,_,rfl,NX (x:=2) (λw2=>?_) (λw2=>?_)⟩
   ·refine⟨_,rfl,11,rfl,Aa,Aa,Du (Wk.rng 0 11) Aa (λj=>.int (EO (numsOf (DQ g)) j)) (λj x B H4 R s4 hR=>?_) (λD2 H4 r5 s4 e4=>?_)⟩
    ·obtain⟨rfl,hj⟩:=On B;refine⟨Sub.set rfl,_,rfl,_,rfl,.ref a,DQ g,j,(by show [V.ref a,V.int (0+ (j:Int))]=_;rw[LK]),d0.sm (Sm.of (c3.all.trans s4)),a4,d2,by omega,λH5 s5=>hR H5 s5⟩
    ·refine⟨p,D2,_,_,rfl,rfl,s4 _ _ f0,e4,?_,λp2 f1=>?_⟩
     ·rw[AV,AV,AV,Bw,Bw];exact BF (show g.gone.length+11<=1000 by have:=c0.gl;omega) Aa
     ·have t2:=BM (u:=.lst (g.gone.map V.int++ (Bz ((Bz 11).map λi:Nat=>V.int (0+ (i:Int))).length).map λj=>V.int (EO (numsOf (DQ g)) j))) f1;have z5:=c3.next (s4.trans t2);refine⟨p2,g.gone++ (Bz 11).map (λj=>EO (numsOf (DQ g)) j),rfl,⟨z5,?_,Th.sm (Sm.of (LW (s4.trans t2))) _ _ o1⟩,?_,λh=>A38 w2 h,λ_=>?_,?_⟩
      ·rw[AX,Cr,Cf];rfl
      ·obtain⟨vs,h1,_⟩:=c3;exact λz=>by rw[z,s4 _ _ h1]at f1;cases f1
      ·rw[Bh,AV,Bw];omega
      ·rw[Bh,AV,Bw];have:=c0.gl;omega
   ·exact⟨p,g.gone,rfl,⟨c3,f0,o1⟩,d1,λ_=>Mm _,λh=>A38 h w2,by have:=c0.gl;omega⟩
  rintro t H4 ⟨p,gone,rfl,g0,d1,p1,p0,y4⟩;have E6: ((g.fields.take 6).map (DG gs)).length<=6:=by rw[AV];omega
  refine Df (λt H'=>∃x3 od tw,t=mS (.ref l) k wl n a (some (.ref D)) (some nv) (some (.ref p)) ah od tw/\ON 3 ways (B3 ((g.fields.take 6).map (DG gs))) x3/\(∀e∈x3,Ex.may e)/\MI H D p gone d nv ((g.fields.take 6).map (DG gs) ++x3) H') ?_ ?_
  ·refine⟨_,rfl,wl,_,rfl,.inl (Dk.of (g0.sd.get hwl)),rfl,IK ways,_,rfl,NX (x:=3) (λw3=>?_) (λw3=>⟨[],none,none,rfl,⟨λh=>A38 h w3,λ_=>rfl⟩,(λe J=>by cases J),by rw[De];exact g0⟩)⟩;refine Df (λt H'=>∃ol S O,t=mS (.ref l) k wl n a (some (.ref D)) (some nv) (some (.ref p)) ah (some (.ref ol)) none/\MI H D p gone d nv ((g.fields.take 6).map (DG gs)) H'/\H' ol=some (.lst [.non,.str "truth",.ref S,.ref O])/\WI H' (fT (EO (numsOf (DQ g)) 12) (.str "A")) (.ref S)/\WI H' (fT (EO (numsOf (DQ g)) 12) .non) (.ref O)) ?_ ?_
   ·refine⟨_,rfl,.ref a,DQ g,12,rfl,d0.sm (Sm.of g0.sd.all),a4,d2,Aa,λHa sa=>?_⟩;intro kv Hb sb hk S dx B N M;refine Gd (Fj (Q:=λv H'=>BC Hb H'/\Rt Hb H' (fT (EO (numsOf (DQ g)) 12) (.str "A")) v) (f:=fT (EO (numsOf (DQ g)) 12) (.str "A")) (d:=.non) B N M trivial rfl ⟨rfl,Aa⟩ hk rfl rfl rfl λv H' s hF=>⟨s,hF⟩) λv0 Hc hh=>⟨hh.1,?_⟩;obtain⟨_,sc,l9⟩:=hh;have m9:=(sa.trans sb).trans sc;refine⟨_,rfl,.ref a,DQ g,12,rfl,d0.sm (Sm.of (g0.sd.all.trans m9)),a4,d2,Aa,λHd sd=>?_⟩;intro E0 He se y1 O G0 v5 q5 o3;refine Gd (Fj (Q:=λv H'=>BC He H'/\Rt He H' (fT (EO (numsOf (DQ g)) 12) .non) v) (f:=fT (EO (numsOf (DQ g)) 12) .non) (d:=.non) v5 q5 o3 trivial rfl rfl y1 rfl rfl rfl λv H' s hF=>⟨s,hF⟩) λv1 Hf hh=>⟨hh.1,?_⟩;obtain⟨_,sf,l8⟩:=hh;refine⟨zl 4,λol a6=>?_⟩;have so:=BM (u:=.lst [.non,.str "truth",.ref S,.ref O]) a6;exact⟨ol,S,O,rfl,g0.next ((m9.trans ((sd.trans se).trans sf)).trans so),AX,OL.sm (Sm.of (((sd.trans se).trans sf).trans so)) (e:=.fld _) l9.isF,OL.sm (Sm.of so) (e:=.fld _) l8.isF⟩
   rintro t H5 ⟨ol,S,O,rfl,c5,a6,z9,z8⟩;refine Df (λt H'=>∃tl ys,t=mS (.ref l) k wl n a (some (.ref D)) (some nv) (some (.ref p)) ah (some (.ref ol)) (some (.ref tl))/\BC H5 H'/\H' tl=some (.lst ys)/\ys.length<=1/\∀(i:Nat) y,ys[i]?=some y->∃f∈g.fields.take 6,WI H' (fT (EO (numsOf (DQ g)) 12) (.str f.nam)) y) ?_ ?_
   ·obtain⟨vs,G,b7,U,a0⟩:=id c5.sd;refine⟨_,rfl,_,rfl,D,_,rfl,Dk.of G,λr b8=>?_⟩;have c1:MR vs none (some (1:Int))=vs.take 1:=by rw[show(1:Int)=((1:Nat):Int)from rfl,OG rfl]
    rw[c1];have t1:=BM (u:=.lst (vs.take 1)) b8;refine⟨r,rfl,⟨_,Dk.of AX⟩,jX (Wk.list (Dk.of AX)) (by rw[Bt];omega) (λj H y=>∃f∈g.fields.take 6,WI H (fT (EO (numsOf (DQ g)) 12) (.str f.nam)) y) (λi H H' v s o8=>(by obtain⟨f,hf,h⟩:=o8;exact⟨f,hf,OL.sm (Sm.of s) (e:=.fld _) h⟩)) (λi H D2 zs us v r5 o7=>(by obtain⟨f,hf,h⟩:=o7;exact⟨f,hf,pB (.inr ⟨_,rfl⟩) (λb C dx fs e=>by rw[Bo (λy=>by rw[y,r5]at e;cases e)];exact e) h⟩)) (λj x B H6 R s6 hR=>?_) (λtl H6 ys j7 s6 e6 h5 a5=>?_)⟩
    ·have y2:j<1:=by have:=(Bi.mp B).1;rw[Bt]at this;omega
     rw[Da y2]at B;obtain⟨e0,q4,v6⟩:=Gf a0 j x B;rw[Bj]at q4;obtain⟨f,hf,rfl⟩:=BS.mp q4;have f7:=Bp hf;have A0:WI H6 (Rn gs f) x:=OL.sm (Sm.of ((SH.trans t1).trans s6)) (e:=.fld (Rn gs f)) v6;have d9:=(HY (c0.nms.ok f.nam (Bm.mpr ⟨f,CA f7,rfl⟩)).1).2.1;refine⟨Sub.set rfl,_,rfl,.ref a,DQ g,12,rfl,d0.sm (Sm.of ((c5.sd.all.trans t1).trans s6)),a4,d2,Aa,λHa sa=>?_⟩;obtain⟨b,A9,nn,zz,kk,mm,dd,rfl,hb,g1,g2,g3,g4,g5⟩:=A0;obtain rfl:zz= .str f.nam:=g2.1;refine⟨_,rfl,b,_,A9,_,_,rfl,sa _ _ hb,T.DF,T.Ka,rfl,λkv Hb sb hk x dx B N M=>?_⟩;refine Gd (Fj (Q:=λv H'=>BC Hb H'/\Rt Hb H' (fT (EO (numsOf (DQ g)) 12) (.str f.nam)) v) (f:=fT (EO (numsOf (DQ g)) 12) (.str f.nam)) (d:=.non) B N M trivial rfl ⟨rfl,BF d9 Aa⟩ hk rfl rfl rfl λv H' s hF=>⟨s,hF⟩) λv0 Hc hh=>⟨hh.1,?_⟩;obtain⟨_,sc,l9⟩:=hh;exact hR _ Hc ((sa.trans sb).trans sc) ⟨f,f7,l9.isF⟩
    ·exact⟨tl,ys,rfl,t1.trans s6,e6,by rw[h5,Bt];omega,a5⟩
   rintro t H6 ⟨tl,ys,rfl,s6,j7,h5,a5⟩;have a2:=c5.next s6;obtain⟨vs,G,b7,U,a0⟩:=id a2.sd;have i6:=s6 _ _ a6;have E5: ([V.non,.str "truth",.ref S,.ref O] ++ys).length=4+ys.length:=by rw[Bh];rfl
   have hm:=Ey (n/7) (b:=(((([V.non,.str "truth",.ref S,.ref O] ++ys).length):Nat):Int)) (by omega);have hi: (n/7% (((([V.non,.str "truth",.ref S,.ref O] ++ys).length):Nat):Int)).toNat< ([V.non,.str "truth",.ref S,.ref O] ++ys).length:=by omega
   have B:=AW hi;generalize ([V.non,.str "truth",.ref S,.ref O] ++ys)[(n/7% (((([V.non,.str "truth",.ref S,.ref O] ++ys).length):Nat):Int)).toNat]'hi=v at B;have k9:bo ([V.non,.str "truth",.ref S,.ref O] ++ys) (n/7% (((([V.non,.str "truth",.ref S,.ref O] ++ys).length):Nat):Int))=some v:=by
    have:=EK B;rw[Dj hm.1]at this;exact this
   refine⟨_,rfl,.inl ⟨rfl,_,Dk.of G⟩,_,rfl,_,rfl,ol,tl,_,_,rfl,rfl,i6,j7,BF (show _<=1000 by show 4+ys.length<=1000;omega) Aa,λc1 z1=>?_⟩;have u1:=BM (u:=.lst ([V.non,.str "truth",.ref S,.ref O] ++ys)) z1;refine⟨_,rfl,_,_,rfl,rfl,⟨Aa,Aa⟩,_,rfl,_,rfl,ol,tl,_,_,rfl,rfl,u1 _ _ i6,u1 _ _ j7,BF (show _<=1000 by show 4+ys.length<=1000;omega) Aa,λc2 z0=>?_⟩;have u2:=BM (u:=.lst ([V.non,.str "truth",.ref S,.ref O] ++ys)) z0;have uu:=u1.trans u2;refine⟨c2,_,rfl,.inl (Dk.of AX),_,_,rfl,rfl,(by show(0:Int) < (((([V.non,.str "truth",.ref S,.ref O] ++ys).length):Nat):Int);omega),c1,_,_,v,rfl,rfl,Dk.of (u2 _ _ AX),k9,D,vs,v,rfl,rfl,uu _ _ G,Ea (by omega),?_⟩;have d5:=a2.next uu;have h7:=uu _ _ G;have fin:∀e:Ex,B3 ((g.fields.take 6).map (DG gs)) e->Ex.may e->OL (untr (upd (upd H6 c1 (.lst ([V.non,.str "truth",.ref S,.ref O] ++ys))) c2 (.lst ([V.non,.str "truth",.ref S,.ref O] ++ys))) D) e v->∃x3 od tw,mS (.ref l) k wl n a (some (.ref D)) (some nv) (some (.ref p)) ah (some (.ref ol)) (some (.ref tl))=mS (.ref l) k wl n a (some (.ref D)) (some nv) (some (.ref p)) ah od tw/\ON 3 ways (B3 ((g.fields.take 6).map (DG gs))) x3/\(∀e∈x3,Ex.may e)/\MI H D p gone d nv ((g.fields.take 6).map (DG gs) ++x3) (upd (upd (upd H6 c1 (.lst ([V.non,.str "truth",.ref S,.ref O] ++ys))) c2 (.lst ([V.non,.str "truth",.ref S,.ref O] ++ys))) D (.lst (vs++[v]))):=λe hb x7 hE=>by
    refine⟨[e],_,_,rfl,⟨λ_=>⟨e,rfl,hb⟩,λh=>A38 w3 h⟩,λe' y8=>by rw[Bu.mp y8];exact x7,?_⟩;have:=d5.push d1 h7 (by omega) (BC.refl _) Hi hE;rw[tM]at this;exact this
   have r4:=fX h7 (.inr ⟨_,rfl⟩) (OL.sm (Sm.of (s6.trans uu)) (e:=.fld _) z9);have r3:=fX h7 (.inl rfl) (OL.sm (Sm.of (s6.trans uu)) (e:=.fld _) z8);generalize (n/7% (((([V.non,.str "truth",.ref S,.ref O] ++ys).length):Nat):Int)).toNat=i at B
   match i,B with
   |0,B=>cases (show some V.non=some v from B);exact fin (.thing .non) (.inl rfl) (.inl rfl) rfl
   |1,B=>cases (show some (V.str "truth")=some v from B);exact fin (.thing (.str "truth")) (.inl rfl) (.inr ⟨_,rfl⟩) ⟨rfl,Aa⟩
   |2,B=>cases (show some (V.ref S)=some v from B);exact fin (.fld (fT (EO (numsOf (DQ g)) 12) (.str "A"))) (.inl (by decide+kernel:Ih "A"=false)) trivial r4
   |3,B=>cases (show some (V.ref O)=some v from B);exact fin (.fld (fT (EO (numsOf (DQ g)) 12) .non)) (.inl rfl) trivial r3
   |i+4,B=>
    obtain⟨f,hf,l8⟩:=a5 i v (show ys[i]?=some v by simpa using B);exact fin (.fld (fT (EO (numsOf (DQ g)) 12) (.str f.nam))) (.inr ⟨DG gs f,Bm.mpr ⟨f,hf,rfl⟩,rfl⟩) trivial (fX h7 (.inr ⟨_,rfl⟩) (OL.sm (Sm.of uu) (e:=.fld _) l8))
  rintro t H5 ⟨x3,od,tw,rfl,q3,k1,c5⟩;have l3:=(Hw q3.or).1;refine Df (λt H'=>∃x4 od,t=mS (.ref l) k wl n a (some (.ref D)) (some nv) (some (.ref p)) ah od tw/\ON 4 ways (B4 (((g.fields.take 6).map (·.num)) ++gone)) x4/\MI H D p gone d nv ((g.fields.take 6).map (DG gs) ++x3++x4) H') ?_ ?_
  ·refine⟨_,rfl,wl,_,rfl,.inl (Dk.of (c5.sd.get hwl)),rfl,IK ways,_,rfl,NX (x:=4) (λw4=>?_) (λw4=>⟨[],od,rfl,⟨λh=>A38 h w4,λ_=>rfl⟩,by rw[De];exact c5⟩)⟩;refine Df (λt H'=>∃ol us,t=mS (.ref l) k wl n a (some (.ref D)) (some nv) (some (.ref p)) ah (some (.ref ol)) tw/\MI H D p gone d nv ((g.fields.take 6).map (DG gs) ++x3) H'/\H' ol=some (.lst us)/\ol≠D/\6<=us.length/\us.length<=8/\∀u∈us,A2y (((g.fields.take 6).map (·.num)) ++gone) u) ?_ ?_
   ·rintro v Ha sa ⟨lo,ys,rfl,f4,a5⟩;have e5:6=ys.length:=a5.length;have q9:=c5.next sa;refine⟨_,rfl,_,rfl,p,_,rfl,Dk.of q9.gn,λr1 Kr=>?_⟩;have c1:MR (gone.map V.int) none (some (1:Int))=(gone.take 1).map V.int:=by rw[show(1:Int)=((1:Nat):Int)from rfl,OG rfl,List.map_take]
    rw[c1];have t1:=BM (u:=.lst ((gone.take 1).map V.int)) Kr;have l1: ((gone.take 1).map V.int).length<=1:=by rw[AV,Bt];omega
    refine⟨lo,r1,_,_,rfl,rfl,t1 _ _ f4,AX,by rw[<-e5];exact BF (show _<=1000 by omega) Aa,λq1 w8=>?_⟩;have t2:=BM (u:=.lst (ys++ (gone.take 1).map V.int)) w8;have g6:=q9.next (t1.trans t2);refine⟨_,rfl,a,_,rfl,Gc (g6.sd.get hA),_,rfl,fl,_,rfl,Dk.of (g6.sd.get i2),λr2 vk=>?_⟩;have c2:MR xs none (some (1:Int))=xs.take 1:=by rw[show(1:Int)=((1:Nat):Int)from rfl,OG rfl]
    rw[c2];have t3:=BM (u:=.lst (xs.take 1)) vk;refine⟨r2,rfl,⟨_,Dk.of AX⟩,Du (Wk.list (Dk.of AX)) (by rw[Bt];omega) (λj=>.int (match ((g.fields.take 6).take 1)[j]? with|some f=>f.num|none=>0)) (λj y hy H6 R s6 hR=>?_) (λE H6 hE s6 e6=>?_)⟩
    ·have w9:=fG 1 i1;obtain⟨f,hf,b,kv,dv,rfl,hb,_⟩:=Gf w9 j y hy;have l7:R (.int f.num) H6:=by
      have:=hR H6 λ_ _ e=>e;rw[show((g.fields.take 6).take 1)[j]?=some f from hf]at this;exact this
     exact⟨Sub.set rfl,_,rfl,b,_,rfl,Hk (s6 _ _ (t3 _ _ (g6.sd.get hb))),l7⟩
    ·have e7:H6 E=some (.lst (((g.fields.take 6).take 1).map λf=>V.int f.num)):=by
      have x8: (xs.take 1).length=((g.fields.take 6).take 1).length:=by rw[Bt,Bt,f5]
      rw[e6,x8,HS ((g.fields.take 6).take 1) (λf=>V.int f.num) _ (λi d hd=>by rw[hd])]
     have l2: (((g.fields.take 6).take 1).map λf=>V.int f.num).length<=1:=by rw[AV,Bt];omega
     refine⟨q1,E,_,_,rfl,rfl,s6 _ _ (t3 _ _ AX),e7,by rw[Bh,<-e5];exact BF (show _<=1000 by omega) Aa,λol a6=>⟨ol,_,rfl,(g6.next (t3.trans s6)).next (BM a6),AX,?_,?_,?_,?_⟩⟩
     ·obtain⟨vs,h1,_⟩:=(g6.next (t3.trans s6)).sd;exact λz=>by rw[z,h1]at a6;cases a6
     ·rw[Bh,Bh];omega
     ·rw[Bh,Bh];omega
     ·intro u L;rcases Cg.mp L with L|L
      ·rcases Cg.mp L with L|L
       ·obtain⟨i,hi⟩:=DW.mp L;obtain⟨R,hR,l0⟩:=Gf a5 i u hi;have c4: (Y2 nuL)[i]?=some R:=hR;unfold Y2 at c4;rw[Bj]at c4;obtain⟨dd,y9,rfl⟩:=BS.mp c4;have hm:=Bp y9;exact⟨dd,λ_=>P9 hm l0,.inl (yN dd hm)⟩
       ·obtain⟨m,hm,rfl⟩:=Bm.mp L;exact⟨.int m,λ_=>rfl,.inr ⟨m,BU _ (CA hm),rfl⟩⟩
      ·obtain⟨f,hf,rfl⟩:=Bm.mp L;exact⟨.int f.num,λ_=>rfl,.inr ⟨f.num,CF _ (Bm.mpr ⟨f,CA hf,rfl⟩),rfl⟩⟩
   rintro t H6 ⟨ol,us,rfl,a2,a6,n7,E4,E3,q7⟩;obtain⟨vs,G,b7,U,a0⟩:=id a2.sd;have i7:untr H6 D ol=some (.lst us):=by rw[Em n7];exact a6
   have hm:=Ey (n/9) (b:=((us.length:Nat):Int)) (by omega);obtain⟨u,L,v8⟩:=OH (xs:=us) (i:=n/9% ((us.length:Nat):Int)) hm.1 hm.2;obtain⟨dd,z4,z2⟩:=q7 u v8;refine⟨_,rfl,.inl ⟨rfl,_,Dk.of G⟩,D,vs,G,_,rfl,_,rfl,_,_,rfl,rfl,⟨Aa,Aa⟩,_,rfl,ol,_,rfl,.inl (Dk.of i7),_,_,rfl,rfl,(by show(0:Int) < ((us.length:Nat):Int);omega),ol,_,_,u,rfl,rfl,Dk.of i7,L,λkv H8 s8 hk x dx B N M=>?_⟩;refine Gd (Fj (Q:=λv H'=>BC H8 H'/\Rt H8 H' ⟨dd,.str "zzzb",.truth,.bl false,.bl false⟩ v) (f:=⟨dd,.str "zzzb",.truth,.bl false,.bl false⟩) (d:=.non) B N M trivial (z4 _) ⟨rfl,Aa⟩ hk rfl rfl rfl λv H' s hF=>⟨s,hF⟩) λv0 H9 hh=>⟨hh.1,?_⟩;obtain⟨_,s9,m0⟩:=hh;intro h0;refine⟨D,vs,_,rfl,rfl,AX,Ea (by omega),[.fld ⟨dd,.str "zzzb",.truth,.bl false,.bl false⟩],_,rfl,⟨λ_=>⟨_,rfl,dd,rfl,z2⟩,λh=>A38 w4 h⟩,?_⟩;rw[Fo];exact a2.push d1 G (by rw[Bh];omega) (s8.trans s9) h0 m0.isF
  rintro t H6 ⟨x4,od,rfl,i3,a2⟩;have l4:=(Hw i3.or).1;refine Df (λt H'=>∃x5,t=mS (.ref l) k wl n a (some (.ref D)) (some nv) (some (.ref p)) ah od tw/\ON 5 ways (B5 (EO (numsOf (DQ g)) 13) g.nam) x5/\MI H D p gone d nv ((g.fields.take 6).map (DG gs) ++x3++x4++x5) H') ?_ ?_
  ·refine⟨_,rfl,wl,_,rfl,.inl (Dk.of (a2.sd.get hwl)),rfl,IK ways,_,rfl,NX (x:=5) (λw5=>?_) (λw5=>⟨[],rfl,⟨λh=>A38 h w5,λ_=>rfl⟩,by rw[De];exact a2⟩)⟩;obtain⟨vs,G,b7,U,a0⟩:=id a2.sd;refine⟨_,rfl,.inl ⟨rfl,_,Dk.of G⟩,D,vs,G,_,rfl,.ref a,DQ g,13,rfl,d0.sm (Sm.of U),a4,d2,Aa,λH7 s7=>?_⟩;refine⟨_,rfl,_,rfl,_,rfl,_,_,rfl,rfl,⟨Aa,Aa⟩,.ref l,gs.map DQ,DQ g,k,n/11,rfl,e8.sm (Sm.of (U.trans s7)),p5,BF o2 Aa,by omega,λkd a9 kv H8 s8 x9=>?_⟩;intro x dx B N M;refine Gd (Fj (Q:=λv H'=>BC H8 H'/\Rt H8 H' ⟨.int (EO (numsOf (DQ g)) 13),.str "zzzc",kd,.bl false,HI kd⟩ v) (f:=⟨.int (EO (numsOf (DQ g)) 13),.str "zzzc",kd,.bl false,HI kd⟩) (d:=.non) B N M (kg _ kd a9) rfl ⟨rfl,Aa⟩ x9 rfl rfl rfl λv H' s hF=>⟨s,hF⟩) λv0 H9 hh=>⟨hh.1,?_⟩;obtain⟨_,s9,m0⟩:=hh;intro h0;refine⟨D,vs,_,rfl,rfl,AX,Ea (by omega),[.fld ⟨.int (EO (numsOf (DQ g)) 13),.str "zzzc",kd,.bl false,HI kd⟩],rfl,⟨λ_=>⟨_,rfl,kd,a9,rfl⟩,λh=>A38 w5 h⟩,?_⟩;rw[Fo];exact a2.push d1 G (by rw[Bh,Bh];omega) ((s7.trans s8).trans s9) h0 m0.isF
  rintro t H7 ⟨x5,rfl,k7,d5⟩;have l5:=(Hw k7.or).1;refine Df (λt H'=>∃x6,t=mS (.ref l) k wl n a (some (.ref D)) (some nv) (some (.ref p)) ah od tw/\ON 6 ways (B6 (EO (numsOf (DQ g)) 14) g.choice) x6/\MI H D p gone d nv ((g.fields.take 6).map (DG gs) ++x3++x4++x5++x6) H') ?_ ?_
  ·refine⟨_,rfl,wl,_,rfl,.inl (Dk.of (d5.sd.get hwl)),rfl,IK ways,_,rfl,NX (x:=6) (λw6=>?_) (λw6=>⟨[],rfl,⟨λh=>A38 h w6,λ_=>rfl⟩,by rw[De];exact d5⟩)⟩;obtain⟨vs,G,b7,U,a0⟩:=id d5.sd;refine⟨_,rfl,.inl ⟨rfl,_,Dk.of G⟩,D,vs,G,_,rfl,.ref a,DQ g,14,rfl,d0.sm (Sm.of U),a4,d2,Aa,λH8 s8=>?_⟩;refine⟨_,rfl,a,_,rfl,Ir (s8 _ _ (U _ _ hA)),_,rfl,_,_,rfl,rfl,⟨Aa,Aa⟩,_,g.choice,n/13,rfl,by omega,λr b8 v H9 s9 hF h0=>?_⟩;refine⟨D,vs,_,rfl,rfl,AX,Ea (by omega),[.fld (gp (EO (numsOf (DQ g)) 14) r)],rfl,⟨λ_=>⟨_,rfl,r,b8,rfl⟩,λh=>A38 w6 h⟩,?_⟩;rw[Fo];exact d5.push d1 G (by rw[Bh,Bh,Bh];omega) (s8.trans s9) h0 hF
  rintro t H8 ⟨x6,rfl,k6,a7⟩;have l6:=(Hw k6.or).1;have r0:Lm H8:=hL.same a7.sd.all;have n0:0∈ways->∀o:Ox,o.isForm=false->wt gs Ws k ways o:=λw0 o ho ws _=>⟨0,w0,λv _=>CH _,by
   cases o with
   |form g=>cases ho
   |_=>rfl⟩
  refine Df (λt H'=>0∉ways/\H8=H'/\t=mS (.ref l) k wl n a (some (.ref D)) (some nv) (some (.ref p)) ah od tw) ?_ ?_
  ·refine⟨_,rfl,wl,_,rfl,.inl (Dk.of (a7.sd.get hwl)),rfl,IK ways,_,rfl,NX (x:=0) (λw0=>?_) (λw0=>⟨w0,rfl,rfl⟩)⟩;refine λZ k8=>⟨zl 0,λel y7=>⟨zl 0,λf2 y6=>λx dx B N M=>?_⟩⟩;have t1:=BM (u:=.dK []) k8;have t2:=BM (u:=.lst []) y7;have t3:=BM (u:=.lst []) y6;have t4:BC (upd (upd (upd H8 Z (.dK [])) el (.lst [])) f2 (.lst [])) _:=KM (C:=696) (fs:=[]) B N M;have tt:=((t1.trans t2).trans t3).trans t4;refine⟨x,dx,_,_,_,some [],[],rfl,AX,⟨f2,[],rfl,t4 _ _ AX,.nil,(λe J=>by cases J),Aa⟩,.inl ⟨rfl,rfl⟩,r0.same tt,λu lq o' H9 bt i4 v4 _ _ _=>⟨rfl,zl 6,λpl j9=>?_⟩⟩;have s9:Sm H8 H9:=λb o e tb=>bt b o (λz=>by rw[z]at e;rw[((t1.trans t2).trans t3) _ _ e]at B;cases B) (tt _ _ e) tb;have b9:∀{b:Ba} {o:HO},(upd (upd (upd H8 Z (.dK [])) el (.lst [])) f2 (.lst [])) b=some o->tbF o=false->H9 b=some o:=λe tb=>bt _ _ (λz=>by rw[z,B]at e;cases e) (t4 _ _ e) tb;have tp:=BM (u:=.lst [.non,.str "record a",.int 5,.ref Z,.ref el,.ref x]) j9;have sA:Sm H (upd H9 pl (.lst [.non,.str "record a",.int 5,.ref Z,.ref el,.ref x])):=((Sm.of a7.sd.all).trans s9).trans (Sm.of tp);have z6:=i4.same tp;have q6:H9 Z=some (.dK []):=b9 (t3 _ _ (t2 _ _ AX)) rfl;have q2:H9 el=some (.lst []):=b9 (t3 _ _ AX) rfl;have hm:=Ey (n/5) (b:=6) Aa;have fin:∀v,bo [V.non,.str "record a",.int 5,.ref Z,.ref el,.ref x] (n/5%6)=some v->Q v (upd H9 pl (.lst [.non,.str "record a",.int 5,.ref Z,.ref el,.ref x])):=λv hv=>by
    have go:∀(i:Nat) (o:Ox) (u:V),n/5%6=(i:Int)->[V.non,.str "record a",.int 5,.ref Z,.ref el,.ref x][i]?=some u->o.isForm=false->(∀b,o≠ .thing (.bl b))->gr (upd H9 pl (.lst [.non,.str "record a",.int 5,.ref Z,.ref el,.ref x])) o u->Q v _:=λi o u ei hu ho hb hO=>by
     rw[ei,EK hu]at hv;obtain rfl:=AR hv;refine q o _ _ sA z6 (n0 w0 o ho) hO ?_ ?_
     ·cases o with
      |form g=>cases ho
      |bare=>trivial
      |thing d=>exact λb e=>hb b (by rw[e])
     ·cases o with
      |form g=>cases ho
      |_=>trivial
    have A2:n/5%6=((0:Nat):Int)\/n/5%6=((1:Nat):Int)\/n/5%6=((2:Nat):Int)\/n/5%6=((3:Nat):Int)\/n/5%6=((4:Nat):Int)\/n/5%6=((5:Nat):Int):=by omega
    rcases A2 with h|h|h|h|h|h
    ·exact go 0 (.thing .non) _ h rfl rfl (λb z=>by cases z) rfl
    ·exact go 1 (.thing (.str "record a")) _ h rfl rfl (λb z=>by cases z) ⟨rfl,Aa⟩
    ·exact go 2 (.thing (.int 5)) _ h rfl rfl (λb z=>by cases z) rfl
    ·exact go 3 (.thing .dct) _ h rfl rfl (λb z=>by cases z) ⟨Z,rfl,tp _ _ q6⟩
    ·exact go 4 (.thing (.lst [])) _ h rfl rfl (λb z=>by cases z) ⟨el,[],rfl,tp _ _ q2,rfl,CH _⟩
    ·exact go 5 .bare _ h rfl rfl (λb z=>by cases z) ⟨x,dx,_,rfl,tp _ _ v4⟩
   obtain⟨v,hv,_⟩:=OH (xs:=[V.non,.str "record a",.int 5,.ref Z,.ref el,.ref x]) (i:=n/5%6) hm.1 hm.2;exact⟨_,rfl,_,_,rfl,rfl,⟨Aa,Aa⟩,_,_,rfl,rfl,(by show(0:Int) <6;decide),pl,_,_,v,rfl,rfl,Dk.of AX,hv,fin v hv⟩
  rintro t H' ⟨w0,rfl,rfl⟩;have m1: (g.fields.take 6).map (DG gs) ++x3++x4++x5++x6=(g.fields.take 6).map (DG gs) ++ (x3++ (x4++ (x5++x6))):=by simp only[Gu]
  have f3:∀e∈ (g.fields.take 6).map (DG gs) ++ (x3++ (x4++ (x5++x6))),Ex.may e:=λe J=>by
   rcases Cg.mp J with J|J
   ·exact mu gs _ e J
   ·rcases Cg.mp J with J|J
    ·exact k1 e J
    ·rcases Cg.mp J with J|J
     ·obtain⟨dd,rfl,_⟩:=(Hw i3.or).2 e J;exact trivial
     ·rcases Cg.mp J with J|J
      ·obtain⟨kd,a9,rfl⟩:=(Hw k7.or).2 e J;exact kg _ kd a9
      ·obtain⟨r,b8,rfl⟩:=(Hw k6.or).2 e J;exact vW _ r b8
  have k2: ((g.fields.take 6).map (DG gs) ++ (x3++ (x4++ (x5++x6)))).length<=10:=by
   rw[Bh,Bh,Bh,Bh];omega
  refine Df (λt H'=>∃fo fv,t=mS (.ref l) k wl n a (some fv) (some nv) (some (.ref p)) ah od tw/\(7∈ways->fo=none)/\(7∉ways->fo=some ((g.fields.take 6).map (DG gs) ++ (x3++ (x4++ (x5++x6)))))/\BC H8 H'/\gm H' fo fv) ?_ ?_
  ·refine⟨_,rfl,wl,_,rfl,.inl (Dk.of (a7.sd.get hwl)),rfl,IK ways,_,rfl,NX (x:=7) (λw7=>?_) (λw7=>?_)⟩
   ·refine λZ k8=>⟨zl 4,λpl j9=>?_⟩;have t1:=BM (u:=.dK []) k8;have t2:=BM (u:=.lst [.non,.str "ab",.int 5,.ref Z]) j9;have hm:=Ey (n/3) (b:=4) Aa;obtain⟨v,hv,_⟩:=OH (xs:=[V.non,.str "ab",.int 5,.ref Z]) (i:=n/3%4) hm.1 hm.2;have fi:gm (upd (upd H8 Z (.dK [])) pl (.lst [.non,.str "ab",.int 5,.ref Z])) none v:=by
     have go:∀(i:Nat) (dd:Dt) (u:V),n/3%4=(i:Int)->[V.non,.str "ab",.int 5,.ref Z][i]?=some u->Pl dd=false->Th (upd (upd H8 Z (.dK [])) pl (.lst [.non,.str "ab",.int 5,.ref Z])) dd u->gm (upd (upd H8 Z (.dK [])) pl (.lst [.non,.str "ab",.int 5,.ref Z])) none v:=λi dd u ei hu hb hT=>by
      rw[ei,EK hu]at hv;obtain rfl:=AR hv;exact⟨dd,hT,hb⟩
     have A3:n/3%4=((0:Nat):Int)\/n/3%4=((1:Nat):Int)\/n/3%4=((2:Nat):Int)\/n/3%4=((3:Nat):Int):=by omega
     rcases A3 with h|h|h|h
     ·exact go 0 .non _ h rfl rfl rfl
     ·exact go 1 (.str "ab") _ h rfl rfl ⟨rfl,Aa⟩
     ·exact go 2 (.int 5) _ h rfl rfl rfl
     ·exact go 3 .dct _ h rfl rfl ⟨Z,rfl,t2 _ _ AX⟩
    exact⟨_,rfl,_,_,rfl,rfl,⟨Aa,Aa⟩,_,_,rfl,rfl,(by show(0:Int) <4;decide),pl,_,_,v,rfl,rfl,Dk.of AX,hv,none,v,rfl,λ_=>rfl,λh=>A38 w7 h,t1.trans t2,fi⟩
   ·obtain⟨vs,G,b7,U,a0⟩:=id a7.sd;rw[m1]at a0;exact⟨some _,.ref D,rfl,λh=>A38 h w7,λ_=>rfl,BC.refl _,D,vs,rfl,G,a0.sm (Sm.of SH),f3,by omega⟩
  rintro t H9 ⟨fo,fv,rfl,y5,p9,s9,p8⟩;have i4:=r0.same s9;have i8:Th H9 d nv:=Th.sm (Sm.of (SH.trans s9)) _ _ a7.nm;have j0:mV H9 gone (.ref p):=.inr ⟨p,rfl,s9 _ _ a7.gn,by omega⟩;have h4:=PySem.W.sortI_perm gone;have fin:∀v o' H',Sm H9 H'->Lm H'->TQ o' fo->OK H' ⟨g.choice,d,o',Gy gone⟩ v->Q v H':=λv o' H' s' z7 h9 hG=>by
   have n8:7∉ways->∃es,o'=some es/\es.Perm ((g.fields.take 6).map (DG gs) ++ (x3++ (x4++ (x5++x6)))):=λw7=>by
    rw[p9 w7]at h9;exact Yp h9
   have n9:7∈ways->o'=none:=λw7=>by
    rw[y5 w7]at h9;cases o' with
    |none=>rfl
    |some _=>exact h9.elim
   have q0:∀es,o'=some es->(∀e∈es,Ex.may e)/\es.length<=10:=λes J=>by
    by_cases w7:7∈ways
    ·rw[n9 w7]at J;cases J
    ·obtain⟨F6,e',pe⟩:=n8 w7;rw[e']at J;cases J;exact⟨λe hm=>f3 e (pe.mem_iff.mp hm),by rw[pe.length_eq];exact k2⟩
   refine q (.form ⟨g.choice,d,o',Gy gone⟩) v H' ((Sm.of (a7.sd.all.trans s9)).trans s') z7 (λws r6=>?_) hG (λes J=>(q0 es J).1) ⟨λes J=>Cp (q0 es J).2 Aa,?_⟩
   ·refine mn r6 hs hg n1 v7 w0 i9.1 (λh=>i9.2 h ws r6) (λh=>h4.trans (p1 h)) (λh=>by rw[h4.length_eq];exact p0 h) n8 n9 q3 ?_ k7 k6;refine⟨λh=>?_,i3.2⟩;obtain⟨e,B,dd,J,hb⟩:=i3.1 h;refine⟨e,B,dd,J,hb.imp id λo6=>?_⟩;obtain⟨m,hm,e2⟩:=o6;refine⟨m,?_,e2⟩;rcases Cg.mp hm with hm|hm
    ·exact CF _ hm
    ·exact BU _ (h4.mem_iff.mpr hm)
   ·show(Gy gone).length<40;rw[h4.length_eq];omega
  have A1:=s9 _ _ (a7.sd.get hA);refine⟨_,rfl,a,_,rfl,Ir A1,_,rfl,?_⟩;show if (DQ g).choice=true then _ else _
  cases hc:g.choice with
  |true=>
   rw[hc]at fin
   rw[show(DQ g).choice=true from hc];refine Er ⟨_,rfl,_,rfl,_,rfl,λx dx B N M=>?_⟩;exact HZ (c:=true) B N M i8 p8 j0 i4 fin
  |false=>
   rw[hc]at fin
   rw[show(DQ g).choice=false from hc];refine Dr ⟨_,rfl,_,rfl,_,rfl,λx dx B N M=>?_⟩;exact HZ (c:=false) B N M i8 p8 j0 i4 fin
theorem Po{ws:List (Bx×Int)}{c:Bool}{z:Dt}{es a:List Ex}(h:es.Perm a):Fk ws (.form ⟨c,z,some es,[]⟩)=Fk ws (.form ⟨c,z,some a,[]⟩):=by
 have b:Gz ⟨c,z,some es,[]⟩=Gz ⟨c,z,some a,[]⟩:=by
  show(KZ (.int es.length) _ 10&&_)=(KZ (.int a.length) _ 10&&_);rw[h.length_eq]
 show(if (ED z&& !UK ws z)=false then ("name" :Bx)else if Gz ⟨c,z,some es,[]⟩=false then ("many" :Bx)else HH ws c es [])=(if (ED z&& !UK ws z)=false then ("name" :Bx)else if Gz ⟨c,z,some a,[]⟩=false then ("many" :Bx)else HH ws c a [])
 rw[b,OE h (Mm [])]
def V4(j:Nat):Bx:=("f" :Bx) ++one (97+j)
def hvE(k:Kx)(j:Nat):Ex:=.fld ⟨.int (1+ (j:Int)),.str (V4 j),k,.bl true,HI k⟩
def Tu(k:Kx)(n:Nat):List Ex:=(Bz n).map (hvE k)
theorem Ts:Fk [] (.form ⟨false,.str "a",some (Tu .truth 10),[]⟩)="" /\DX [] false (Tu .truth 10)=11:=by decide+kernel
theorem pb:Fk [("a",11)] (.form ⟨false,.str "b",some (Tu (.form (.str "a")) 9),[]⟩)="" /\DX [("a",11)] false (Tu (.form (.str "a")) 9)=100:=by decide+kernel
theorem S5:Fk [("a",11)] (.form ⟨false,.str "b",some (Tu (.form (.str "a")) 10),[]⟩)="great":=by decide+kernel
section
variable{es1 es2:List Ex}
theorem rE(h1:es1.Perm (Tu .truth 10))(h2:es2.Perm (Tu (.form (.str "a")) 9)):Ij [.form ⟨false,.str "a",some es1,[]⟩,.form ⟨false,.str "b",some es2,[]⟩]= .inr [("a",11),("b",100)]:=by
 unfold Ij;rw[JI,Po h1,A36 Ts.1];have w1:Pf [] (.form ⟨false,.str "a",some es1,[]⟩)=11:=by
  show DX [] false es1=11;rw[HR h1];exact Ts.2
 rw[w1];show(match mD [.form ⟨false,.str "b",some es2,[]⟩] [("a",11)] 1 with|.inl e=>_|.inr ws=>_)=_;rw[JI,Po h2,A36 pb.1];have w2:Pf [("a",11)] (.form ⟨false,.str "b",some es2,[]⟩)=100:=by
  show DX [("a",11)] false es2=100;rw[HR h2];exact pb.2
 rw[w2];rfl
theorem vT(h1:es1.Perm (Tu .truth 10))(h2:es2.Perm (Tu (.form (.str "a")) 10)):Ij [.form ⟨false,.str "a",some es1,[]⟩,.form ⟨false,.str "b",some es2,[]⟩]= .inl (1,"great"):=by
 unfold Ij;rw[JI,Po h1,A36 Ts.1];have w1:Pf [] (.form ⟨false,.str "a",some es1,[]⟩)=11:=by
  show DX [] false es1=11;rw[HR h1];exact Ts.2
 rw[w1];show(match mD [.form ⟨false,.str "b",some es2,[]⟩] [("a",11)] 1 with|.inl e=>_|.inr ws=>_)=_;rw[JI,Po h2,S5,A35 Ab]
end
theorem YO{lo:Int}{n:Nat}{H1:Hp}{b:L2.St}{g:TG}{te:TE}{Q:VK}(B:n<=1000)(Y:Hp->Prop)(t:Y H1)(k:Nat->Hp->V->Prop)(l:∀i H H' v,BC H H'->k i H v->k i H' v)(hs:∀(j:Nat),j<n->∀(D:Ba) (ys:List V) (a:Hp) (R:VK),a D=none->BC H1 a->Y a->(∀y H',BC a H'->Y H'->H' D=none->k j H' y->R y (upd H' D (.lst ys)))->g (.int (lo+ (j:Int))) b (upd a D (.lst ys)) λf H2=>Sub b f/\te f H2 R)(hd:∀D H' ys,H' D=none->BC H1 H'->Y H'->ys.length=n->(∀(i:Nat) y,ys[i]?=some y->k i H' y)->Q (.ref D) (upd H' D (.lst ys))):QH (zE lo n) H1 b g XE te Q:=by
 intro D u;refine⟨λi m ys H=>m=n - i/\i<=n/\ys.length=i/\∃a,a D=none/\H=upd a D (.lst ys)/\BC H1 a/\Y a/\∀(j:Nat) y,ys[j]?=some y->k j a y,⟨n,by simp,CH _,rfl,H1,u,rfl,BC.refl _,t,λj y e=>by simp at e⟩,?_⟩;rintro i m ys H ⟨rfl,hi,c,a,h,rfl,sm,q,r⟩;refine⟨AX,?_⟩;by_cases d:i<n
 ·refine .inr ⟨d,λx H' y=>?_⟩;obtain⟨e,rfl⟩:=y;subst e;refine hs i d D ys a _ h sm q λy A s4 s w p=>?_;refine⟨AX,Ea (by omega),n - (i+1),by omega,rfl,d,by rw[Bh,c];rfl,A,w,by rw[Fo],sm.trans s4,s,λj z o=>?_⟩;rcases Lf o with o|⟨rfl,rfl⟩
  ·exact l _ _ _ _ s4 (r j z o)
  ·rw[c];exact p
 ·have e:i=n:=by omega
  subst e;exact .inl ⟨Bv _,hd D a ys h sm q c r⟩
theorem Mb{C:Ba}{vs:List V}{H:Hp}{Q g:VK}(h:SJ C vs H Q E0)(i:∀v H',Q v H'->g v H'):SJ C vs H g E0:=by
 obtain⟨x,dx,z,fv,m,o,ns,e,h1,h2,h3,k,j⟩:=h;exact⟨x,dx,z,fv,m,o,ns,e,h1,h2,h3,k,λu l o' H' a b c d e f=>i _ _ (j u l o' H' a b c d e f)⟩
theorem jH{H:Hp}{x dx:Ba}{c:V}{k:Kx}{j:Nat}(e:H x=none)(b:H dx=none)(a:dx≠x)(hm:k.may)(h:Rx H k c)(g: (V4 j).length<=1000):
  KE (.ref x::[.int (1+ (0+ (j:Int))),.str (V4 j),c,.bl true,.non]) (upd (upd H dx (.own x)) x (.ins 636 dx [])) (λv H2=>v= .non/\(BC H H2/\OL H2 (hvE k j) (.ref x))) E0:=Fj (Q:=λv H'=>BC H H'/\OL H' (hvE k j) v) (f:=⟨.int (1+ (j:Int)),.str (V4 j),k,.bl true,HI k⟩) (d:=.non) e b a hm (by show V.int (1+ (0+ (j:Int)))=V.int (1+ (j:Int));rw[LK]) ⟨rfl,g⟩ h rfl rfl rfl λv H' s i=>⟨s,i.isF⟩
theorem px(j:Nat): (V4 j).length<=1000:=by
 unfold V4;rw[Str.length_append];exact(by decide:1+1<=1000)
theorem A04{X:Cx}{P:BG}{w:Cs}(hc:X.calm=true:=by rfl):JT (XC P w true) X E0:=⟨λ_=>hc,rfl,λ_ _ _ _ _ _ _ h=>by
 obtain⟨_,_,_,_,_,_,_,_,_,_,_,_,_,_,a⟩:=h;exact CG a⟩
def ABJ:Bx:="abcdefghij"
theorem wf{j:Nat}(h:j<10):bo ABJ.cps.toList (0+ (j:Int))=some (97+j):=by
 have all:∀m:Fin 10,ABJ.cps.toList[m.val]?=some (97+m.val):=by decide+kernel
 rw[LK];exact EK (all ⟨j,h⟩)
def iM:Sp:=λvs H Q _=>∃n:Int,vs=[.int n]/\0<=n/\Lm H/\∀H',Sm H H'->Lm H'->Q (.bl true) H'
theorem A0h: ((AN:List Bx) ++ ([]:List Bx)).Nodup:=by decide+kernel
theorem zX(T:Tx K mg):Kj P w K mg base 1 "head" 838 nZ:=⟨T.Pd,_,_,_,T.dM,yG T,T.ir⟩
theorem uP(T:Tx K mg)(kb:K.In base):Cm P w K mg base DS 13 999 (Br K 999) Aw iM:=by
 have O:Cm P w K mg base DS 11 989 (Br K 989) ["_law_forms"] (fj K):=oQ T;have B:Cm P w K mg base DS 1 849 (Br K 849) As XR:=mi T;have GB:Cm P w K mg base (XC P w true) 9 821 (Br K 821) Ar (fk K):=Tl T;have v1:CQ [V.non] [CM]:=.cons rfl .nil;refine T.nE.ok Of (λvs H Q E h=>?_) (λcdv A outer s H vs Q E J h=>?_)
 ·obtain⟨n,rfl,_⟩:=h;rfl
 ·obtain⟨n,rfl,hn,hL,q⟩:=h;have Kr:Fm (1+1) _:=J.mono Aa;have b5:Fm (3+1) _:=J.mono Aa;have a6:Fm (4+1) _:=J.mono Aa;have d0:Fm (9+1) _:=J.mono Aa;have hu:=J.units;refine⟨_,BE (Ct (i:=1) Of.nd rfl (BP rfl) (Dy ⟨T.Kn,T.GZ,T.Fd,T.Kl⟩ (EH T kb (Ib T)) a6 rfl T.Jt (GJ T) v1 BR (AS Bs (AS (DY (ts:=AN) (xs:=[]) (js:=[]) rfl ⟨rfl,rfl,Ab,Ab,DZ rfl⟩ .nil Ab (FP rfl T.HP (AS Bc AZ)) (λC s_ H_ fp=>CN (X:=Ee _ _ _ C s_ H_ fp) (i:=0) A0h rfl (BP rfl) (Di rfl)) (λC s_ H_ fp=>DB (X:=Ee _ _ _ C s_ H_ fp)) (λC s_ H_ fp=>Jz (X:=Ee _ _ _ C s_ H_ fp) (Dy (X:=Ee _ _ _ C s_ H_ fp) ⟨T.FA,T.DN,T.DM,T.Fy⟩ (Dw T) b5 rfl T.Fc (JD T) v1 BR (AS (BO Eb Bc (pv 0)) (AS (BO ML Bs (Dp fS Bs (pv 0) (λ_ _=>rfl))) (AS (Ed T.Fb T.Dv T.Fa rfl T.EN) (AS DR AZ))))))) AZ)))) (BE (Ct (i:=2) Of.nd rfl (BP rfl) (BO Eb Bc (BO Dl (pv 0) Bc))) (BE (Iz (i:=3) (ts:=AN) (xs:=[]) (js:=[]) rfl ⟨rfl,rfl,Ab,Ab,DZ rfl⟩ .nil Ab (FP rfl T.HP (AS (pv 2) AZ)) (λC s_ H_ fp=>CN (X:=Ee _ _ _ C s_ H_ fp) (i:=0) A0h rfl (BP rfl) (Di rfl)) (λC s_ H_ fp=>DB (X:=Ee _ _ _ C s_ H_ fp)) (λC s_ H_ fp=>Jz (X:=Ee _ _ _ C s_ H_ fp) (Dy (X:=Ee _ _ _ C s_ H_ fp) ⟨T.FA,T.DN,T.DM,T.Fy⟩ (Dw T) b5 rfl T.Fc (JD T) v1 BR (AS (BO Eb Bc (pv 0)) (AS (BO ML Bs (Dp fS Bs (pv 0) (λ_ _=>rfl))) (AS (FH (Jl (.str "a")) ⟨T.Ko,T.Hg,T.GY,T.Km⟩ (Gk T) Kr rfl T.HQ T.Hh BR (Fi Bs λ_=>⟨rfl,Aa⟩)) (AS DR AZ))))))
     Of.nd rfl (BP rfl) rfl)
   (BE (CV (CK Gg (pv 2) Bc (Dc _)) (Bk (BH (GH (lX hu) (BX O (J.mono Aa) rfl T.Uk T.QT T.Ut .nil BR (AS (DO (AS (pv 1) (AS (Dy ⟨T.Kn,T.GZ,T.Fd,T.Kl⟩ (EH T kb (Ib T)) a6 rfl T.Jt (GJ T) v1 BR (AS Bs (AS (pv 3) AZ))) AZ))) AZ)) (Fq (AS Bc (AS Bs AZ))) (Dc _))))
    Ci)
   (BE (Ct (i:=4) Of.nd rfl (BP rfl) (Dy ⟨T.mZ,T.Vg,T.Vf,T.mY⟩ GB d0 rfl T.nf T.Vo .nil A04 (AS (DO (AS (pv 1) (AS (Dy ⟨T.Kn,T.GZ,T.Fd,T.Kl⟩ (EH T kb (Ib T)) a6 rfl T.Jt (GJ T) v1 BR (AS Bs (AS (pv 3) AZ))) AZ))) AZ)))
   (Bk (BH (JR (GH Gg (BX B (J.mono Aa) rfl T.sI T.ic T.tz .nil BR (AS (pv 4) (AS (HU (P:=P) (w:=w) (K:=K) (mg:=mg) (base:=base) (k:=1) rfl rfl rfl rfl rfl (pv 4) (J.mono Aa) BR) AZ))) Bc (Dc _)) (JQ (GH Gg (DC (HU (P:=P) (w:=w) (K:=K) (mg:=mg) (base:=base) (k:=1) rfl rfl rfl rfl rfl (pv 4) (J.mono Aa) BR) rfl) Bs (Dc _)))))))))),?_⟩
  have f1:∀(kd:Kx),kd.may->∀(j:Nat),j<10->True:=λ_ _ _ _=>trivial;refine Df (λd H'=>∃v es,d=[some (.int n),some v,none,none,none]/\Sm H H'/\Lm H'/\es.Perm (Tu .truth 10)/\OK H' ⟨false,.str "a",some es,[]⟩ v) ?_ ?_
  ·refine⟨10,rfl,Aa,Aa,YO (n:=10) Aa (λ_=>True) trivial (λj H' y=>OL H' (hvE .truth j) y) (λi H H' v s h=>h.sm (Sm.of s)) (λj G D ys Hu R a0 sm _ hR=>?_) (λD H1 ys h0 sm _ Y hP=>?_)⟩
   ·refine⟨Sub.set rfl,D,ys,AX,?_⟩;rw[GQ a0];refine⟨_,rfl,_,_,rfl,rfl,_,rfl,ABJ,_,_,rfl,rfl,Aa,wf G,_,_,rfl,rfl,(by show 1+1<=sizeLine;decide),λkv Hb sb hk x dx F l f=>?_⟩;refine Gd (jH (k:=.truth) F l f trivial hk (px j)) λv0 Hc p=>⟨p.1,λa9=>?_⟩;exact hR _ Hc (sb.trans p.2.1) trivial a9 p.2.2
   ·intro x dx F l f;have s1:BC H (upd H1 D (.lst ys)):=sm.trans (BM h0);have L:Es (upd H1 D (.lst ys)) (Tu .truth 10) ys:=Kq (by unfold Tu;rw[AV,Bw,Y]) λi e y g hy=>by
     unfold Tu at g;rw[Bj]at g;obtain⟨j,G,rfl⟩:=BS.mp g;have hi:i<10:=by have:=(Bi.mp G).1;rw[Bw]at this;exact this
     rw[FG hi]at G;obtain rfl:=AR G;exact(hP i y hy).sm (Sm.of (BM h0))
    refine Mb (HZ (c:=false) (Q:=λv H'=>Sm (upd H1 D (.lst ys)) H'/\Lm H'/\∃o',TQ o' (some (Tu .truth 10))/\OK H' ⟨false,.str "a",o',Gy []⟩ v) (nm:=.str "a") (o:=some (Tu .truth 10)) (ns:=[]) F l f ⟨rfl,Aa⟩ ⟨D,ys,rfl,AX,L,?_,by omega⟩ (.inl ⟨rfl,rfl⟩) (hL.same s1) λv o' H' a b c dd=>⟨a,b,o',c,dd⟩) λv0 H2 p=>⟨p.1,?_⟩
    ·intro e g;unfold Tu at g;obtain⟨j,_,rfl⟩:=Bm.mp g;exact trivial
    ·obtain⟨_,N,a2,o',a3,a4⟩:=p;obtain⟨es,rfl,pe⟩:=Yp a3;exact⟨_,es,rfl,(Sm.of s1).trans N,a2,pe,a4⟩
  rintro d H1 ⟨v,es1,rfl,s1,e0,I,c3⟩;refine Df (λd H'=>∃m:Nat,(m=9\/m=10)/\H1=H'/\d=[some (.int n),some v,some (.int (m:Nat)),none,none]) ?_ ?_
  ·refine⟨_,rfl,_,_,rfl,rfl,(by show(0:Int) <2;decide),_,_,rfl,rfl,(9+n%2).toNat,by omega,rfl,?_⟩;rw[Dj (by omega)];rfl
  rintro d H' ⟨m,hm,rfl,rfl⟩;refine Df (λd H'=>∃D ys,d=[some (.int n),some v,some (.int (m:Nat)),some (.ref D),none]/\BC H1 H'/\H' D=some (.lst ys)/\Es H' (Tu (.form (.str "a")) m) ys) ?_ ?_
  ·refine⟨_,rfl,((m:Nat):Int),rfl,by omega,by omega,?_⟩;rw[show(((m:Nat):Int)).toNat=m by omega];refine YO (by omega) (λ_=>True) trivial (λj H' y=>OL H' (hvE (.form (.str "a")) j) y) (λi H H' v s h=>h.sm (Sm.of s)) (λj G D ys Hu R a0 sm _ hR=>?_) (λD H2 ys h0 sm _ Y hP=>?_)
   ·refine⟨Sub.set rfl,D,ys,AX,?_⟩;rw[GQ a0];refine⟨_,rfl,_,_,rfl,rfl,_,rfl,ABJ,_,_,rfl,rfl,Aa,wf (by omega),_,_,rfl,rfl,(by show 1+1<=sizeLine;decide),λkv Hb sb hk x dx F l f=>?_⟩;refine Gd (jH (k:=.form (.str "a")) F l f trivial hk (px j)) λv0 Hc p=>⟨p.1,λa9=>?_⟩;exact hR _ Hc (sb.trans p.2.1) trivial a9 p.2.2
   ·refine⟨D,ys,rfl,sm.trans (BM h0),AX,Kq (by unfold Tu;rw[AV,Bw,Y]) λi e y g hy=>?_⟩;unfold Tu at g;rw[Bj]at g;obtain⟨j,G,rfl⟩:=BS.mp g;have hi:i<m:=by have:=(Bi.mp G).1;rw[Bw]at this;exact this
    rw[FG hi]at G;obtain rfl:=AR G;exact(hP i y hy).sm (Sm.of (BM h0))
  rintro d H2 ⟨D,ys,rfl,s2,hD,L⟩;have d9:=e0.same s2;have b8: (Tu (.form (.str "a")) m).length=m:=by unfold Tu;rw[AV,Bw]
  have S:∀e∈Tu (.form (.str "a")) m,Ex.may e:=λe g=>by
   unfold Tu at g;obtain⟨j,_,rfl⟩:=Bm.mp g;exact trivial
  have a8:∀e∈es1,Ex.may e:=λe g=>by
   have b9:=I.mem_iff.mp g;unfold Tu at b9;obtain⟨j,_,rfl⟩:=Bm.mp b9;exact trivial
  have f7:es1.length=10:=by rw[I.length_eq];unfold Tu;rw[AV,Bw]
  have b4:∀{x dx:Ba},H2 x=none->H2 dx=none->dx≠x->SJ 710 (.ref x::[.str "b",.ref D,.non]) (upd (upd H2 dx (.own x)) x (.ins 710 dx [])) (λu H'=>u= .non/\(Sm H2 H'/\Lm H'/\∃es2,es2.Perm (Tu (.form (.str "a")) m)/\OK H' ⟨false,.str "b",some es2,[]⟩ (.ref x))) E0:=λF l f=>
   Mb (HZ (c:=false) (Q:=λv H'=>Sm H2 H'/\Lm H'/\∃o',TQ o' (some (Tu (.form (.str "a")) m))/\OK H' ⟨false,.str "b",o',Gy []⟩ v) (nm:=.str "b") (o:=some (Tu (.form (.str "a")) m)) (ns:=[]) F l f ⟨rfl,Aa⟩ ⟨D,ys,rfl,hD,L,S,by rw[<-L.length,b8];omega⟩ (.inl ⟨rfl,rfl⟩) d9 λv o' H' a b c dd=>⟨a,b,o',c,dd⟩) λv0 H3 p=>⟨p.1,by
    obtain⟨_,N,a2,o',a3,a4⟩:=p;obtain⟨es,rfl,pe⟩:=Yp a3;exact⟨N,a2,es,pe,a4⟩⟩
  have mf:∀es2:List Ex,es2.Perm (Tu (.form (.str "a")) m)->∀o∈ [Ox.form ⟨false,.str "a",some es1,[]⟩,.form ⟨false,.str "b",some es2,[]⟩],Ox.may o/\Ox.few o:=λes2 r o ho=>by
   have f6:es2.length=m:=by rw[r.length_eq];exact b8
   simp only[BK,Cq,or_false]at ho;rcases ho with rfl|rfl
   ·exact⟨λes g=>by cases g;exact a8,⟨λes g=>by cases g;omega,(by show 0<40;decide)⟩⟩
   ·exact⟨λes g=>by cases g;exact λe d2=>S e (r.mem_iff.mp d2),⟨λes g=>by cases g;omega,(by show 0<40;decide)⟩⟩
  refine Df (λd H'=>m=9/\H2=H'/\d=[some (.int n),some v,some (.int (m:Nat)),some (.ref D),none]) ?_ ?_
  ·refine⟨_,rfl,rfl,_,rfl,Kg (λb0=>?_) (λb0=>?_)⟩
   ·have b7:m=10:=by have:=V.int.inj (A34 b0);omega
    refine⟨_,rfl,_,rfl,λx dx F l f=>?_⟩;refine Mb (b4 F l f) λu H3 p=>⟨p.1,zl 2,λpl a7=>?_⟩;obtain⟨_,N,a2,es2,r,M⟩:=p;have tp:=BM (u:=.lst [v,.ref x]) a7;subst b7;refine⟨_,rfl,.inr ⟨pl,[v,.ref x],[.form ⟨false,.str "a",some es1,[]⟩,.form ⟨false,.str "b",some es2,[]⟩],rfl,AX,.cons (OK.sm (((Sm.of s2).trans N).trans (Sm.of tp)) c3) (.cons (OK.sm (Sm.of tp) M) .nil),mf es2 r,by show 0<2;decide,by show 2<=8;decide,?_⟩⟩;rw[vT I r];intro t H5 s5 ht;refine⟨zl 2,λt2 a5=>?_⟩;refine⟨.tuple [.int 1,.str "great"],.tuple [.int 1,.str "great"],.tup (Hm.of (JH ht a5)) (.cons (.int _) (.cons (.str _) .nil)),.tup (Hm.of AX) (.cons (.int _) (.cons (.str _) .nil)),Ab,Ab,?_⟩;rw[show PyData.eqv (.tuple [.int 1,.str "great"]) (.tuple [.int 1,.str "great"])=true by decide+kernel];exact q _ ((((s1.trans (Sm.of s2)).trans N).trans (Sm.of (tp.trans s5))).trans (Sm.of (BM a5))) ((a2.same (tp.trans s5)).same (BM a5))
   ·refine⟨hm.resolve_right λe=>b0 (A32 (by rw[e];rfl)),rfl,rfl⟩
  rintro d H' ⟨d1,rfl,rfl⟩;subst d1;refine Df (λd H'=>∃bv u es2,d=[some (.int n),some v,some (.int ((9:Nat):Int)),some (.ref D),some bv]/\Sm H2 H'/\Lm H'/\IsB H' [v,u] [("a",11),("b",100)] bv/\OK H' ⟨false,.str "b",some es2,[]⟩ u) ?_ ?_
  ·refine⟨_,rfl,_,rfl,λx dx F l f=>?_⟩;refine Mb (b4 F l f) λu H3 p=>⟨p.1,zl 2,λpl a7=>?_⟩;obtain⟨_,N,a2,es2,r,M⟩:=p;have tp:=BM (u:=.lst [v,.ref x]) a7;intro xb e2 Z c0 b6;have tn:BC (upd H3 pl (.lst [v,.ref x])) _:=KM (C:=838) (fs:=[]) Z c0 b6;have tt:=tp.trans tn;refine⟨xb,e2,_,rfl,AX,.inr ⟨pl,[v,.ref x],[.form ⟨false,.str "a",some es1,[]⟩,.form ⟨false,.str "b",some es2,[]⟩],rfl,tn _ _ AX,.cons (OK.sm (((Sm.of s2).trans N).trans (Sm.of tt)) c3) (.cons (OK.sm (Sm.of tt) M) .nil),mf es2 r,by show 0<2;decide,by show 2<=8;decide,?_⟩⟩;rw[rE I r];intro H5 bt hB;have U:BC H3 H5:=λb o e=>bt b o (λz=>by rw[z]at e;rw[tp _ _ e]at Z;cases Z) (tt _ _ e);exact⟨rfl,_,_,es2,rfl,N.trans (Sm.of U),a2.same U,hB,OK.sm (Sm.of U) M⟩
  rintro d H3 ⟨bv,u,es2,rfl,s3,d8,hB,c2⟩;obtain⟨ba,c5,bl,bw,rfl,c1,f9,f8⟩:=id hB;obtain⟨ga,e1,gz,gf,gl,rfl,d5,d4,_⟩:=id c2;obtain rfl:gz= .str "b":=d4.1;refine⟨_,rfl,_,rfl,ba,_,c5,_,_,rfl,c1,rfl,zX T,_,_,_,_,rfl,hB,rfl,_,_,_,_,_,"b",100,rfl,hB,c2,rfl,Ab,rfl,_,rfl,?_⟩;refine Er ⟨_,rfl,ba,_,c5,_,_,rfl,c1,rfl,zX T,_,_,_,_,rfl,hB,rfl,ga,_,e1,_,_,rfl,d5,(Ib T).cl,(Ib T).n1,rfl,rfl,?_⟩;have e:decide (V.str "b"=V.str "b")=true:=by decide+kernel
  show Q (.bl (decide (V.str "b"=V.str "b"))) H3;rw[e];exact q H3 ((s1.trans (Sm.of s2)).trans s3) d8
theorem mq{b:Type}(f:b->Nat):∀{l:List b},l≠[]->∃x∈l,∀y∈l,f x<=f y
 |[],h=>A38 rfl h
 |[x],_=>⟨x,.head _,λy a=>by rw[Bu.mp a];exact Bv _⟩
 |x::z::r,_=>by
  obtain⟨m,hm,h⟩:=mq f (l:=z::r) (by simp);by_cases c:f x<=f m
  ·exact⟨x,.head _,λy a=>by
    rcases BK.mp a with rfl|a
    ·exact Bv _
    ·exact BF c (h y a)⟩
  ·exact⟨m,.tail _ hm,λy a=>by
    rcases BK.mp a with rfl|a
    ·omega
    ·exact h y a⟩
theorem U0{wr:Wr}(h:zB wr):∃p y,rr wr p y:=by
 obtain⟨q,f,hm⟩:=mq (λq:Nat×List Nat=>q.1) h.1;obtain⟨ws,a⟩:=SC f;obtain⟨e,d,_,g⟩:=LV a;obtain⟨h1,h2,h3⟩:=h.2.2 e d;rw[g]at h1 h2 h3;obtain⟨w,hw,c⟩:=mq EL h1;have b:=oI (h3 w hw);exact⟨q.1,LU[EL w]'b,⟨ws,a,w,hw,AW b,c⟩,hm⟩
theorem xQ{i:Nat}{y:Bx}(h:LU[i]?=some y):y≠ "":=by
 intro e;have hm:=Bp h;rw[e]at hm;exact A38 hm Ab
def vZ(wr:Wr)(p:Nat):Prop:=∃ws,IX wr p=some ws
theorem vY{wr:Wr}{q:Nat×List Nat}(h:q∈wr):vZ wr q.1:=SC h
theorem vz{gs:List SG}{Ws:List Int}{wr:Wr}(hs:Gn gs Ws)(F:gs.length<=6)(m:∀q∈wr,q.1<gs.length){os:List Ox}(B:os.length=gs.length)(C:∀i o g,¬vZ wr i->os[i]?=some o->gs[i]?=some g->OM gs g o)(D:∀i o ws,IX wr i=some ws->os[i]?=some o->wt gs Ws i ws o){p:Nat}{y:Bx}(h:rr wr p y):Ij os= .inl (p,y):=by
 obtain⟨⟨ws,b,w,hw,t,c⟩,d⟩:=h;obtain⟨x,j,G,_⟩:=LV b;have A:p<gs.length:=by rw[<-G];exact m x j
 have u:os[p]?=some (os[p]'(by omega)):=AW _;refine vU hs (iF hs) F B A (xQ t) (λi o g hi k n=>C i o g (λ⟨a,r⟩=>?_) k n) u (λa E=>?_)
 ·obtain⟨q,z,e,_⟩:=LV r;have:=d q z;omega
 ·obtain⟨s,f,l,v⟩:=D p _ ws b u a E;have e:EL s=EL w:=Nat.le_antisymm (l w hw) (c s f);rw[e,t]at v;exact(AR v).symm
def V7(n m:Nat)(wr:Wr):Prop:=wr.length<=m/\(0<m->wr≠[])/\∀q∈wr,q.1<n/\q.2≠[]/\q.2.length<=m/\∀w∈q.2,w<8
abbrev WL(H:Hp)(wr:Wr)(as:List Ba):Prop:=Paired (λ(p:Nat×List Nat) (l:Ba)=>H l=some (.lst (p.2.map λn=>V.int (n:Nat)))) wr as
def A1U(H:Hp)(wr:Wr)(as:List Ba)(n:Nat)(ws:List Nat)(o:Option V):Prop:=(o=none/\ws=[])\/∃l,o=some (.ref l)/\H l=some (.lst (ws.map λn=>V.int (n:Nat)))
theorem O4{H:Hp}{wr:Wr}{as:List Ba}{G m:Nat}(n:Nat)(hn:n<G)(hw:V7 G m wr)(hm:m<=1)(s:WL H wr as):∃ws:List Nat,A1U H wr as n ws (HF (Wf wr as) (.inl (n:Int)))/\ws.length<=m/\∀(x:Nat) (c:Ba),x<8->∃d j,Jp (Wf wr as) (.inl (n:Int)) (.ref c)=Wf d j/\V7 G (m+1) d/\∀H',(∀b xs,H b=some (.lst xs)->H' b=some (.lst xs))->H' c=some (.lst ((ws++[x]).map λn=>V.int (n:Nat)))->WL H' d j:=by
 obtain⟨h1,h2,h3⟩:=hw;cases s with
 |nil=>
  refine⟨[],.inl ⟨rfl,rfl⟩,CH _,λx c g=>⟨[(n,[x])],[c],rfl,⟨by show 1<=m+1;omega,(λ_=>by intro z;cases z),λq f=>?_⟩,λH' _ hc=>.cons hc .nil⟩⟩;rw[Bu.mp f];refine⟨hn,(λz=>by cases z),by show 1<=m+1;omega,λw hw=>by rw[Bu.mp hw];exact g⟩
 |cons e o=>
  rename_i p a r as;cases o with
  |cons _ _=>rw[Cj,Cj]at h1;omega
  |nil=>
  obtain⟨p1,p2⟩:=p;obtain⟨g1,g2,g3,l⟩:=h3 (p1,p2) (.head _);by_cases h:p1=n
  ·subst h;refine⟨p2,.inr ⟨a,?_,e⟩,g3,λx c g=>⟨[(p1,p2++[x])],[c],?_,⟨by show 1<=m+1;omega,(λ_=>by intro z;cases z),λq f=>?_⟩,λH' _ hc=>.cons hc .nil⟩⟩
   ·exact NY rfl
   ·show Jp [(Sum.inl ((p1:Nat):Int),V.ref a)] (.inl ((p1:Nat):Int)) (.ref c)=[(.inl ((p1:Nat):Int),.ref c)];simp[Jp]
   ·rw[Bu.mp f];refine⟨g1,λz=>by simp at z,?_,λw hw=>?_⟩
    ·show(p2++[x]).length<=m+1;rw[Bh];exact Nat.add_le_add_right g3 1
    ·rcases Cg.mp hw with hw|hw
     ·exact l w hw
     ·rw[Bu.mp hw];exact g
  ·have i:¬ (Sum.inl ((p1:Nat):Int):Gv)= .inl (n:Int):=λz=>by injection z with z;exact h (by omega)
   refine⟨[],.inl ⟨?_,rfl⟩,CH _,λx c g=>⟨[(p1,p2),(n,[x])],[a,c],?_,⟨by show 2<=m+1;have:1<=m:=h1;omega,(λ_=>by intro z;cases z),λq f=>?_⟩,λH' k hc=>.cons (k _ _ e) (.cons hc .nil)⟩⟩
   ·show HF ((Sum.inl ((p1:Nat):Int),V.ref a)::[]) _=none;rw[NZ i];rfl
   ·show Jp [(Sum.inl ((p1:Nat):Int),V.ref a)] (.inl (n:Int)) (.ref c)=[(.inl ((p1:Nat):Int),.ref a),(.inl (n:Int),.ref c)];simp[Jp,i]
   ·rcases BK.mp f with rfl|f
    ·exact⟨g1,g2,Nat.le_succ_of_le g3,l⟩
    ·rw[Bu.mp f];exact⟨hn,(λz=>by cases z),by show 1<=m+1;omega,λw hw=>by rw[Bu.mp hw];exact g⟩
theorem V7.ok{G m:Nat}{wr:Wr}(h:V7 G m wr)(c:0<m)(b:m<=8):zB wr:=⟨h.2.1 c,BF h.1 b,λp a=>⟨(h.2.2 p a).2.1,BF (h.2.2 p a).2.2.1 b,(h.2.2 p a).2.2.2⟩⟩
theorem iB{H:Hp}{a b:Ba}{o u:HO}(h:a≠b):upd (upd H a o) b u=upd (upd H b u) a o:=by
 funext c;by_cases ha:c=a
 ·subst ha;rw[AX,Bo h,AX]
 ·by_cases d:c=b
  ·subst d;rw[AX,Bo ha,AX]
  ·rw[Bo d,Bo ha,Bo ha,Bo d]
theorem vl{d H':Hp}{D:Ba}{o:HO}(f:d D=none)(s:BC (upd d D o) H'):∃c,H'=upd c D o/\c D=none/\BC d c:=by
 have e:H' D=some o:=s _ _ AX;refine⟨untr H' D,?_,Hi,?_⟩
 ·funext b;by_cases a:b=D
  ·subst a;rw[AX,e]
  ·rw[Bo a,Em a]
 ·have:=LW (D:=D) s;rw[GQ f]at this;exact this
theorem XH{K:Be}{H H':Hp}(s:Sm H H'){a:Ba}{xs:List V}(h:Dk K H a xs):Dk K H' a xs:=h.imp (λz=>z.imp (λe=>s _ _ e rfl) λb=>(by obtain⟨o,e⟩:=b;exact⟨o,s _ _ e rfl⟩)) id
theorem A7.sm{H H':Hp}(s:Sm H H'){wr:Wr}{v:V}:A7 H wr v->A7 H' wr v
 |⟨a,as,e,h,p⟩=>⟨a,as,e,h.imp (λz=>s _ _ z rfl) (λb=>(by obtain⟨o,z⟩:=b;exact⟨o,s _ _ z rfl⟩)),L2.Paired.imp' (λ_ _ z=>s _ _ z rfl) p⟩
theorem eX:∀{wr:Wr} {as:List Ba},wr.length=as.length->(Wf wr as).length=wr.length
 |[],_,_=>rfl
 |p::r,a::as,h=>by
  show(Wf r as).length+1=r.length+1;rw[eX (HB h)]
theorem eY:∀{wr:Wr} {as:List Ba} {i:Nat} {k:Gv} {v:V},(Wf wr as)[i]?=some (k,v)->∃q,wr[i]?=some q/\k= .inl ((q.1:Nat):Int)
 |[],_,i,k,v,h=>by simp[Wf]at h
 |p::r,[],i,k,v,h=>by simp[Wf]at h
 |p::r,a::as,0,k,v,h=>by
  simp[Wf]at h;exact⟨p,rfl,h.1.symm⟩
 |p::r,a::as,i+1,k,v,h=>by
  obtain⟨q,b,e⟩:=eY (wr:=r) (as:=as) (i:=i) (by simpa [Wf]using h);exact⟨q,by simpa using b,e⟩
theorem A0K{gs:List SG}{Ws:List Int}(hs:Gn gs Ws){k:Nat}{g:SG}(e:gs[k]?=some g):A18 (gs.map DQ).length (DQ g).fields:=λf m=>by
 have l:k<gs.length:=(Bi.mp e).1;have d:f∈g.fields:=CA m;have b:=hs.ok k g e;have c:=b.fs f d;refine⟨?_,b.nms.ok f.nam (Bm.mpr ⟨f,d,rfl⟩),c.dfl.imp id (λz=>⟨z.1,z.2.2⟩)⟩;rw[AV];have:=c.kind;cases a:f.kind with
 |form i=>rw[a]at this;exact LJ (show i<k from this) l
 |list j=>
  rw[a]at this;rcases this with h|⟨i,h,hi⟩
  ·exact .inl h
  ·exact .inr ⟨i,h,by omega⟩
 |_=>rw[a]at this;exact this
theorem pd{gs:List SG}{Ws:List Int}(hs:Gn gs Ws){k:Nat}{g:SG}(f:gs[k]?=some g){o:Ox}(h:OM gs g o):Ox.may o/\Ox.few o:=by
 obtain⟨es,gone,rfl,d,pg⟩:=h;have a:=hs.ok k g f;refine⟨λc b e hm=>?_,λc b=>?_,?_⟩
 ·cases b;exact mu gs (g.fields.take 6) e (d.mem_iff.mp hm)
 ·cases b;rw[d.length_eq,AV,Bt];omega
 ·show gone.length<40;rw[pg.length_eq];have:=a.gl;omega
structure BB(gs:List SG)(Ws:List Int)(wr:Wr)(os:List Ox)(ys:List V)(i:Nat)(os':List Ox)(ys':List V):Prop where
 len:os'.length=gs.length
 same:∀j:Nat,j∉ (wr.take i).map (·.1)->os'[j]?=os[j]?/\ys'[j]?=ys[j]?
 bad:∀j:Nat,j∈ (wr.take i).map (·.1)->∀o ws,IX wr j=some ws->os'[j]?=some o->wt gs Ws j ws o/\Ox.may o/\Ox.few o
theorem Wv{wr:Wr}{i:Nat}{q:Nat×List Nat}(h:wr[i]?=some q)(j:Nat):j∈ (wr.take (i+1)).map (·.1) ↔ j∈ (wr.take i).map (·.1)\/j=q.1:=by
 rw[Ml,h,Cr,Cg];exact or_congr Iff.rfl (by show j∈ [q.1] ↔ _;exact Bu)
theorem BB.step{gs:List SG}{Ws:List Int}{wr:Wr}{os:List Ox}{ys:List V}{i:Nat}{os':List Ox}{ys':List V}(h:BB gs Ws wr os ys i os' ys')(n:os'.length=ys'.length){q:Nat×List Nat}(g:wr[i]?=some q){ws:List Nat}(f:IX wr q.1=some ws)
  {o:Ox}{v:V}(m:wt gs Ws q.1 ws o)(hm:Ox.may o)(l:Ox.few o):BB gs Ws wr os ys (i+1) (os'.set q.1 o) (ys'.set q.1 v):=by
 refine⟨by rw[List.length_set];exact h.len,λj c=>?_,λj c k d b a=>?_⟩
 ·have h1:j∉ (wr.take i).map (·.1):=λz=>c ((Wv g j).mpr (.inl z));have h2:q.1≠j:=λz=>c ((Wv g j).mpr (.inr z.symm));rw[Fn h2,Fn h2];exact h.same j h1
 ·by_cases e:j=q.1
  ·subst e;obtain rfl:=AR (b.symm.trans f);rw[List.getElem?_set]at a;split at a
   ·split at a
    ·cases a;exact⟨m,hm,l⟩
    ·cases a
   ·exact A38 rfl (by assumption)
  ·rw[Fn (DP e)]at a;exact h.bad j (((Wv g j).mp c).resolve_right e) k d b a
theorem uE{H:Hp}{v:V}{o:Ox}(h:gr H o v):∀{os:List Ox} {ys:List V} (n:Nat),Os H os ys->Os H (os.set n o) (ys.set n v)
 |_,_,_,.nil=>.nil
 |_,_,0,.cons a r=>.cons h r
 |_,_,n+1,.cons a r=>.cons a (uE h n r)
theorem yO{wr:Wr}{j:Nat}(h:¬vZ wr j):j∉wr.map (·.1):=λz=>by
 obtain⟨q,a,e⟩:=Bm.mp z;exact h (by rw[<-e];exact vY a)
theorem xR{wr:Wr}{j:Nat}{ws:List Nat}(h:IX wr j=some ws):j∈wr.map (·.1):=by
 obtain⟨q,a,e,_⟩:=LV h;exact Bm.mpr ⟨q,a,e⟩
theorem BB.book{gs:List SG}{Ws:List Int}{wr:Wr}{os:List Ox}{ys:List V}{os':List Ox}{ys':List V}(h:BB gs Ws wr os ys wr.length os' ys')(hs:Gn gs Ws)(j:gs.length<=6)(b:∀q∈wr,q.1<gs.length)(d:∀(i:Nat) o g,os[i]?=some o->gs[i]?=some g->OM gs g o){p:Nat}{y:Bx}(hd:rr wr p y):Ij os'= .inl (p,y):=by
 have e: (wr.take wr.length).map (·.1)=wr.map (·.1):=by rw[DU]
 refine vz hs j b h.len (λi o g f a c=>?_) (λi o ws hw a=>?_) hd
 ·have:=(h.same i (by rw[e];exact yO f)).1;exact d i o g (by rw[<-this];exact a) c
 ·exact(h.bad i (by rw[e];exact xR hw) o ws hw a).1
theorem BB.mf{gs:List SG}{Ws:List Int}{wr:Wr}{os:List Ox}{ys:List V}{os':List Ox}{ys':List V}(h:BB gs Ws wr os ys wr.length os' ys')(hs:Gn gs Ws)(k:∀(i:Nat) o g,os[i]?=some o->gs[i]?=some g->OM gs g o):∀o∈os',Ox.may o/\Ox.few o:=λo j=>by
 obtain⟨i,hi⟩:=DW.mp j;have b:i<gs.length:=by rw[<-h.len];exact(Bi.mp hi).1
 have c:gs[i]?=some (gs[i]'b):=AW b;have e: (wr.take wr.length).map (·.1)=wr.map (·.1):=by rw[DU]
 by_cases d:i∈wr.map (·.1)
 ·obtain⟨q,f,eq⟩:=Bm.mp d;obtain⟨ws,a⟩:=SC f;rw[eq]at a;exact(h.bad i (by rw[e];exact d) o ws a hi).2
 ·exact pd hs c (k i o _ (by rw[<- (h.same i (by rw[e];exact d)).1];exact hi) c)
theorem wb{wr:Wr}{ys ys':List V}{i:Nat}{q:Nat×List Nat}{v:V}(c:wr[i]?=some q)(b:ys[q.1]?=some v)(h:∀j:Nat,(j∈ (wr.take i).map (·.1)\/j∉wr.map (·.1))->ys'[j]?=ys[j]?)(a:q.1<ys'.length):
  ∀j:Nat,(j∈ (wr.take (i+1)).map (·.1)\/j∉wr.map (·.1))->(ys'.set q.1 v)[j]?=ys[j]?:=λj d=>by
 by_cases e:j=q.1
 ·subst e;rw[PB a,b]
 ·rw[Fn (DP e)];refine h j (d.imp (λz=>((Wv c j).mp z).resolve_right e) id)
def nP:Ox:=.form ⟨true,.str "zzzzzzzzzzzz",some [.fld ⟨.int 1,.str "a",.truth,.bl false,.bl false⟩],[]⟩
theorem xV{ws:List (Bx×Int)}(h:UK ws (.str "zzzzzzzzzzzz")=false):Fk ws nP="":=by
 show(if (ED (.str "zzzzzzzzzzzz") && !UK ws (.str "zzzzzzzzzzzz"))=false then ("name" :Bx)else _)=""
 rw[h];kernel_rfl
theorem A05{H:Hp}{P:Nat->Ox->Prop}:∀(ys:List V),(∀(i:Nat) y,ys[i]?=some y->∃o,gr H o y/\P i o)->∃os:List Ox,Os H os ys/\∀(i:Nat) o,os[i]?=some o->P i o:=by
 intro ys;induction ys generalizing P with
 |nil=>exact λ_=>⟨[],.nil,λi o e=>by simp at e⟩
 |cons y r c=>
  intro h;obtain⟨o,f,d⟩:=h 0 y rfl;obtain⟨os,b,a⟩:=c (P:=λi=>P (i+1)) λi y e=>h (i+1) y (by simpa using e);refine⟨o::os,.cons f b,λi x e=>?_⟩;cases i with
  |zero=>simp at e;subst e;exact d
  |succ i=>exact a i x (by simpa using e)
theorem oY{n j:Nat}(h:j<n):vi n ((j:Nat):Int)=some j:=by
 unfold vi;rw[A36 (by omega),A36 (by omega)];rfl
theorem fY(p:Int)(y:Bx):PyData.eqv (.tuple [.int p,.str y]) (.tuple [.int p,.str y])=true:=by
 simp[PyData.eqv,PyData.eqvAll]
theorem Ju{y:Bx}(h:y∈LU++ (["head","forms"]:List Bx))(p:Int):UT (.tuple [.int p,.str y])=true:=by
 simp only[LU,List.cons_append,EW,BK,Cq,or_false]at h;rcases h with rfl|rfl|rfl|rfl|rfl|rfl|rfl|rfl|rfl <;> kernel_rfl
theorem jL{wr:Wr}{p:Nat}{y:Bx}(h:rr wr p y):y∈LU++ (["head","forms"]:List Bx):=by
 obtain⟨⟨_,_,_,_,a,_⟩,_⟩:=h;exact CF _ (Bp a)
def tU(K:Be):Sp:=λvs H Q _=>∃(a:Ba) (ns:List Int),vs=[.ref a]/\Dk K H a (ns.map V.int)/\Lm H/\∀H',Q (.bl true) H'
theorem A0i: ((["_law_form"]:List Bx) ++ (AQ:List Bx)).Nodup:=by decide+kernel
theorem P4(T:Tx K mg)(kb:K.In base):Cm P w K mg base DS 14 1004 (Br K 1004) AH (tU K):=by
 have c8:Cm P w K mg base DS 7 958 (Br K 958) AH (iH K):=uJ T;have G:Cm P w K mg base DS 1 856 (Br K 856) At (Ux K):=bV T;have a0:Cm P w K mg base DS 8 939 (Br K 939) AG iN:=uQ T kb;have d8:Cm P w K mg base DS 9 982 (Br K 982) AL nW:=yD T kb;have F:Cm P w K mg base DS 11 989 (Br K 989) ["_law_forms"] (fj K):=oQ T;have d0:Cm P w K mg base DS 1 994 (Br K 994) ["_law_wrong"] iO:=uR T;have c9:Cm P w K mg base DS 13 999 (Br K 999) Aw iM:=uP T kb;have v1:CQ [V.non] [CM]:=.cons rfl .nil;have v2:CQ [V.bl false,V.non] [Dm false,CM]:=.cons rfl (.cons rfl .nil);refine T.zK.ok IY (λvs H Q E h=>?_) (λcdv A outer s H vs Q E hr h=>?_)
 ·obtain⟨a,ns,rfl,_⟩:=h;rfl
 ·obtain⟨sc,ns,rfl,k2,hL,q⟩:=h;have Kr:Fm (1+1) _:=hr.mono Aa;have p8:Fm (3+1) _:=hr.mono Aa;have p7:Fm (4+1) _:=hr.mono Aa;have hu:=hr.units;have g4:=Cp (Cy (show 1<=64 by decide) _) hu;refine⟨_,BE (Ct (i:=1) IY.nd rfl (Di rfl) (BX c8 (hr.mono Aa) rfl T.xg T.ni T.xB .nil BR (AS (pv 0) AZ))) (BE (Ct (i:=2) IY.nd rfl (BP rfl) (BX G (hr.mono Aa) rfl T.LO T.Kv T.LS .nil BR (AS (pv 0) (AS Bc AZ)))) (BW (Ct (i:=3) IY.nd rfl (BP rfl) Ou) (BE (Ri JN rfl (FP rfl T.HP (AS (BO Eb Bc (BO Dl (pv 2) Bc)) AZ)) (CN (i:=4) IY.nd rfl (BP rfl)) (BE (Ct (i:=5) IY.nd rfl (BP rfl) (BX G (hr.mono Aa) rfl T.LO T.Kv T.LS .nil BR (AS (pv 0) (AS (BO Eb Bc (pv 4)) AZ)))) (BE (Ct (i:=6) IY.nd rfl (BP rfl) (BO Dl (pv 5) (BJ Dg (by rfl) T.Hs Fu (AS (pv 1) AZ)))) (Bk (Pk g4 (pv 3) (pv 6) (BO Hl (ji g4 (pv 3) (pv 6) (DO AZ) ⟨rfl,rfl,rfl,rfl⟩) (DO (AS (BO Dl (BO DT (pv 5) Bc) Bc) AZ))) rfl))))) (lP (BE (Iz (i:=7) (ts:=["_law_form"]) (xs:=AQ) (js:=[1]) rfl ⟨rfl,rfl,Ab,Ab,DZ rfl⟩ (.cons rfl (.inl rfl) rfl .nil) Ab (Ez (pv 1)) (λC s_ H_ fp=>CN (X:=Ee _ _ _ C s_ H_ fp) (i:=0) A0i rfl (BP rfl) (Di rfl)) (λC s_ H_ fp=>DB (X:=Ee _ _ _ C s_ H_ fp)) (λC s_ H_ fp=>Jz (X:=Ee _ _ _ C s_ H_ fp) (BX (X:=Ee _ _ _ C s_ H_ fp) a0 (hr.mono Aa) rfl T.ib T.Vd T.iq .nil BR (AS (pv 0) (AS (pv 1) (AS Bc AZ)))))
     IY.nd rfl (BP rfl) rfl)
   (BE (Ct (i:=8) IY.nd rfl (BP rfl) (Gj FW rfl T.Il Gi (AS (pv 7) AZ)))
   (BE (Ri JN rfl (oN (pv 3)) (CN (i:=6) IY.nd rfl (BP rfl)) (Bk (lQ (Jz (BX d8 (hr.mono Aa) rfl T.F3 T.sL T.K3 .nil BR (AS (pv 1) (AS (pv 6) (AS (CT g4 (pv 3) (pv 6) (λ_ _=>rfl)) (AS (BX G (hr.mono Aa) rfl T.LO T.Kv T.LS .nil BR (AS (pv 0) (AS (BO Eb Bc (pv 6)) AZ))) AZ)))))) (uw (pv 7) (pv 6) iT))))
   (BE (Ct (i:=9) IY.nd rfl (BP rfl) (Gj FW rfl T.Il Gi (AS (pv 7) AZ)))
   (BE (CV (PW.pt (Oo (CK (uG hu) (BX F (hr.mono Aa) rfl T.Uk T.QT T.Ut .nil BR (AS (pv 7) AZ)) (BX d0 (hr.mono Aa) rfl T.xj T.nq T.xE .nil BR (AS (pv 3) AZ)) (Dc _)) (Ly (CK jk (BJ Dg (by rfl) T.Hs Fu (AS (pv 7) AZ)) (BJ Dg (by rfl) T.Hs Fu (AS (pv 9) AZ)) (Dc _))))) (Bk LY)
    Ci)
   (BE (Ri JN rfl (oN (pv 3)) (CN (i:=6) IY.nd rfl (BP rfl)) (Bk (lQ (Dp Dz (pv 8) (pv 6) (λ_ _=>rfl)) (uw (pv 7) (pv 6) iT))))
   (BE (CV (PW.pt (Oo (CK oP (BX F (hr.mono Aa) rfl T.Uk T.QT T.Ut .nil BR (AS (pv 7) AZ)) FC (Dc _)) (Ly (CK oP (BX F (hr.mono Aa) rfl T.Uk T.QT T.Ut .nil BR (AS (pv 7) AZ)) FC (Dc _))))) (Bk LY)
    Ci)
   (BE (Ct (i:=10) IY.nd rfl (BP rfl) (BO Hl (pv 8) (DO (AS (Dy ⟨T.Pb,T.Jy,T.Fd,T.OY⟩ (EH T kb (Mc T)) p7 rfl T.LN (GJ T) v1 BR (AS Bs (AS (DO (AS (Dy ⟨T.FA,T.DN,T.DM,T.Fy⟩ (Dw T) p8 rfl T.Fc (Ge T) v2 BR (AS Bc (AS Bs (AS (Ed T.Fb T.Dv T.Fa rfl T.EN) AZ)))) AZ)) AZ))) AZ))))
   (BE (CV (PW.pt (Oo (CK (uG hu) (BX F (hr.mono Aa) rfl T.Uk T.QT T.Ut .nil BR (AS (pv 10) AZ)) (Fq (AS (BJ Dg (by rfl) T.Hs Fu (AS (pv 8) AZ)) (AS Bs AZ))) (Dc _)) (Ly (Fh (CZ (BX c9 (hr.mono Aa) rfl T.xi T.nk T.xD .nil BR (AS (BO DT (pv 2) Bc) AZ))))))) (Bk LY)
    Ci)
   (BE (Ct (i:=11) IY.nd rfl (BP rfl) (Dp Dz (DO (AS FC (AS (DO AZ) (AS (Gj bj rfl T.cN YS (AS (pv 8) AZ)) (AS Bs (AS Bc (AS Ou (AS (BO P1 (pv 8) Bc) (AS DR AZ))))))))) (BO Dl (BO DT (pv 2) Bc) Bc) (λ_ _=>rfl)))
   (Bk (BH (GH (lX hu) (BX F (hr.mono Aa) rfl T.Uk T.QT T.Ut .nil BR (AS (pv 11) AZ)) (Fq (AS Bc (AS Bs AZ))) (Dc _)))))))))))))))))),?_⟩
  let S:V->Int->Option V->Option V->Option V->Option V->Option V->Option V->Option V->Option V->Option V->L2.St:=λl n v3 v4 O v6 v7 v8 v9 v10 v11=>[some (.ref sc),some l,some (.int n),v3,v4,O,v6,v7,v8,v9,v10,v11];refine Df (λr H'=>∃gs Ws as l,r=[some (.ref sc),some (.ref l),none,none,none,none,none,none,none,none,none,none]/\Gn gs Ws/\1<=gs.length/\gs.length<=6/\(∀g,gs[gs.length - 1]?=some g->g.choice=false)/\BC H H'/\H' l=some (.lst (as.map V.ref))/\Paired (λg a=>Mf H' g (.ref a)) (gs.map DQ) as) ?_ ?_
  ·exact⟨_,rfl,sc,ns,rfl,k2,λgs Ws as l H1 hok h1 h6 hlast s1 b6 hpa=>⟨gs,Ws,as,l,rfl,hok,h1,h6,hlast,s1,b6,hpa⟩⟩
  rintro r H1 ⟨gs,Ws,as,l,rfl,hs,q5,d7,hlast,s1,b6,b2⟩;have e4:YW H1 (gs.map DQ) (.ref l):=⟨l,as,rfl,b6,b2⟩;have f5:as.length=gs.length:=by rw[<-b2.length,AV]
  have b1:=XH (Sm.of s1) k2;have t5:=hL.same s1;have hW:=iF hs;refine Df (λr H'=>∃n:Int,0<=n/\n<2147483629/\H1=H'/\r=S (.ref l) n none none none none none none none none none) ?_ ?_
  ·exact⟨_,rfl,sc,ns,40,rfl,b1,Aa,Aa,λn h1 h2=>⟨n,h1,h2,rfl,rfl⟩⟩
  rintro r H' ⟨n,y7,y6,rfl,rfl⟩;intro B g3;refine Df (λr H'=>∃wr ad v4 O v6,r=S (.ref l) n (some (.ref B)) v4 O v6 none none none none none/\V7 gs.length 2 wr/\wr≠[]/\BC H1 H'/\H' B=some (.dK (Wf wr ad))/\WL H' wr ad) ?_ ?_
  ·refine⟨_,rfl,_,_,rfl,rfl,(by show(0:Int) <2;decide),_,_,rfl,rfl,1+n%2,rfl,by omega,by omega,?_⟩;obtain⟨m,hm,em⟩:∃m:Nat,(m=1\/m=2)/\(1+n%2).toNat=m:=⟨_,by omega,rfl⟩;rw[em];refine UL (λi r H'=>∃wr ad v4 O v6,r=S (.ref l) n (some (.ref B)) v4 O v6 none none none none none/\V7 gs.length i wr/\BC H1 H'/\H' B=some (.dK (Wf wr ad))/\WL H' wr ad) ⟨[],[],none,none,none,rfl,⟨Bv _,λh=>A38 h (Ev _),λq hq=>by cases hq⟩,BM g3,AX,.nil⟩ (λi r H' hi h=>?_) (λr H' h=>?_)
   ·obtain⟨wr,ad,v4,O,v6,rfl,U,s2,M,I⟩:=h;refine Df (λr c7=>∃x:Int,0<=x/\H'=c7/\r=S (.ref l) n (some (.ref B)) (some (.int (0+ (i:Int)))) (some (.int x)) v6 none none none none none) ?_ ?_
    ·exact⟨_,rfl,_,rfl,_,_,rfl,rfl,sc,ns,_,rfl,XH (Sm.of s2) b1,by omega,by omega,λx h1 h2=>⟨x,h1,rfl,rfl⟩⟩
    rintro r c7 ⟨x,j4,rfl,rfl⟩;refine Df (λr c7=>∃p:Nat,p<gs.length/\H'=c7/\r=S (.ref l) n (some (.ref B)) (some (.int (0+ (i:Int)))) (some (.int x)) (some (.int (p:Nat))) none none none none none) ?_ ?_
    ·have l2: ((as.map V.ref).length:Int)=(gs.length:Int):=by rw[AV,f5]
     refine⟨_,rfl,_,rfl,l,_,rfl,.inl (Dk.of (s2 _ _ b6)),_,_,rfl,rfl,(by show(0:Int) < ((as.map V.ref).length:Int);omega),(x% (gs.length:Int)).toNat,?_,rfl,?_⟩
     ·have:=Ey x (b:=(gs.length:Int)) (by omega);omega
     ·have:=Ey x (b:=(gs.length:Int)) (by omega);rw[l2,Dj this.1];rfl
    rintro r c7 ⟨p,hp,rfl,rfl⟩;obtain⟨ws,k9,x2,k4⟩:=O4 p hp U (by omega) I;refine⟨_,rfl,B,rfl,.inl ⟨_,.inl M⟩,_,rfl,zl 0,λe1 q9=>?_⟩;have t1:=BM (u:=.lst []) q9;refine⟨_,Go.k (k:=.inl (p:Int)) (t1 _ _ M),_,rfl,_,_,rfl,rfl,⟨Aa,Aa⟩,_,_,rfl,rfl,(by show(0:Int) <8;decide),zl 1,λe2 q8=>?_⟩;have t2:=BM (u:=.lst [.int (x/8%8)]) q8;have o9:=Ey (x/8) (b:=8) Aa;have ex:V.int (x/8%8)=V.int (((x/8%8).toNat:Nat):Int):=by rw[Dj o9.1]
    obtain⟨lx,u0,g7⟩:∃lx,(HF (Wf wr ad) (.inl (p:Int))).getD (.ref e1)= .ref lx/\(upd (upd H' e1 (.lst [])) e2 (.lst [.int (x/8%8)])) lx=some (.lst (ws.map λn=>V.int (n:Nat))):=by
     rcases k9 with⟨e,rfl⟩|⟨lx,e,g7⟩
     ·rw[e];exact⟨e1,rfl,t2 _ _ AX⟩
     ·rw[e];exact⟨lx,rfl,t2 _ _ (t1 _ _ g7)⟩
    rw[u0];refine⟨lx,e2,_,_,rfl,rfl,g7,AX,?_,λc hc=>?_⟩
    ·show(ws.map λn=>V.int (n:Nat)).length+1<=sizeLine;rw[AV];exact Ea (by omega)
    have t3:=BM (u:=.lst ((ws.map λn=>V.int (n:Nat)) ++[.int (x/8%8)])) hc;obtain⟨n9,u8,n0,j5,j7⟩:=k4 (x/8%8).toNat c (by omega);have r2:=t3 _ _ (t2 _ _ (t1 _ _ M));refine⟨_,rfl,_,rfl,B,_,rfl,bp.k (k:=.inl (p:Int)) r2 ?_,n9,u8,_,_,_,rfl,j5,((s2.trans t1).trans (t2.trans t3)).put g3,?_,j7 _ (λb xs e=>?_) ?_⟩
    ·rw[eX I.length];exact Cp (show wr.length<=1 by have:=U.1;omega) Aa
    ·rw[AX,n0]
    ·rw[Bo (λz=>by rw[z,M]at e;cases e)];exact t3 _ _ (t2 _ _ (t1 _ _ e))
    ·rw[Bo (λz=>by rw[z,t2 _ _ (t1 _ _ M)]at hc;cases hc),AX,Cr];show some (HO.lst ((ws.map λn=>V.int (n:Nat)) ++[V.int (x/8%8)]))=_;rw[ex];rfl
   ·obtain⟨wr,ad,v4,O,v6,rfl,U,s2,M,I⟩:=h;refine⟨wr,ad,v4,O,v6,rfl,⟨BF U.1 (by omega),λ_=>U.2.1 (by omega),λq hq=>?_⟩,U.2.1 (by omega),s2,M,I⟩;obtain⟨a1,a2,a3,a4⟩:=U.2.2 q hq;exact⟨a1,a2,by omega,a4⟩
  rintro r H2 ⟨wr,ad,v4,O,v6,rfl,U,x3,s2,M,I⟩;have b8:zB wr:=U.ok Aa Aa;have g8:∀q∈wr,q.1<gs.length:=λq hq=>(U.2.2 q hq).1;have l4:=eX I.length;refine⟨B,_,M,λfo=>?_⟩;have s3:BC H1 (upd H2 B (.frz fo (.dK (Wf wr ad)))):=s2.put g3;have b3: (upd H2 B (.frz fo (.dK (Wf wr ad)))) B=some (.frz fo (.dK (Wf wr ad))):=AX;have a9:WL (upd H2 B (.frz fo (.dK (Wf wr ad)))) wr ad:=L2.Paired.imp' (λ_ _ e=>by
   rw[Bo (λz=>by rw[z,M]at e;cases e)];exact e) I
  generalize upd H2 B (.frz fo (.dK (Wf wr ad)))=H3 at s3 b3 a9;have m4:A7 H3 wr (.ref B):=⟨B,ad,rfl,.inr ⟨fo,b3⟩,a9⟩;have m6:=t5.same s3;have b9:=e4.sm (Sm.of s3);have g9:=s3 _ _ b6;have e5:=XH (Sm.of s3) b1;have e6:Paired (λg a=>Mf H3 g (.ref a)) (gs.map DQ) as:=L2.Paired.imp' (λ_ _ z=>z.sm (Sm.of s3)) b2;clear M I s2 H2;refine Df (λr H'=>∃D ys os J,r=S (.ref l) n (some (.ref B)) v4 O v6 (some (.ref D)) none none none none/\H'=upd J D (.lst ys)/\J D=none/\Sm H3 J/\Lm J/\os.length=gs.length/\Os J os ys/\∀(i:Nat) o g,os[i]?=some o->gs[i]?=some g->OM gs g o) ?_ ?_
  ·refine⟨_,rfl,l,rfl,⟨_,Dk.of g9⟩,?_⟩;refine cB g9 (by rw[AV];omega) Lm m6 (λj H' y=>∃g o,gs[j]?=some g/\OM gs g o/\gr H' o y) (λi H' H2 v s l6=>(by obtain⟨g,o,e,h,h2⟩:=l6;exact⟨g,o,e,h,h2.sm s⟩)) (λj x hx D ys J R p3 sm hy hR=>?_) (λD H' ys h0 sm hy o5 hP=>?_)
   ·rw[Bj]at hx;obtain⟨a,ha,rfl⟩:=BS.mp hx;obtain⟨g',c6,p5⟩:=Gf e6 j a ha;rw[Bj]at c6;obtain⟨g,hg,rfl⟩:=BS.mp c6;have q3:=hs.ok j g hg;refine⟨Sub.set rfl,D,ys,AX,?_⟩;rw[GQ p3];refine⟨_,rfl,_,rfl,.ref a,.ref l,gs.map DQ,DQ g,rfl,p5.sm sm,b9.sm sm,by rw[bX];exact hs.nms,hs.nms.ok g.nam (Bm.mpr ⟨g,Bp hg,rfl⟩),A0K hs hg,?_,?_,hy,λv es H' s' h7 pe hG h0=>?_⟩
    ·show(g.fields.take 6).length<40;rw[Bt];omega
    ·have:=q3.gl;show g.gone.length<40;omega
    ·refine hR v H' s' h7 h0 ⟨g,_,hg,⟨es,_,rfl,?_,PySem.W.sortI_perm g.gone⟩,hG⟩;have e: (DQ g).fields.map (DG (gs.map DQ))=(g.fields.take 6).map (DG gs):=Lu λf _=>T5 gs f;rw[e]at pe;exact pe
   ·have a8:ys.length=gs.length:=by rw[o5,AV,f5]
    obtain⟨os,k8,a7⟩:=A05 (H:=H') (P:=λi o=>∀g,gs[i]?=some g->OM gs g o) ys (λi y o6=>by
     obtain⟨g,o,hg,hx,ho⟩:=hP i y o6;exact⟨o,ho,λg' c6=>by rw[hg]at c6;cases c6;exact hx⟩)
    exact⟨D,ys,os,H',rfl,rfl,h0,sm,hy,k8.length.trans a8,k8,λi o g ho hg=>a7 i o ho g hg⟩
  rintro r H' ⟨D,ys,os,J,rfl,rfl,m8,s4,m5,a6,c3,a7⟩;have j2:ys.length=gs.length:=by rw[<-c3.length,a6]
  refine Df (λr H'=>∃N H5,r=S (.ref l) n (some (.ref B)) v4 O v6 (some (.ref D)) (some (.ref N)) none none none/\H'=upd H5 D (.lst ys)/\H5 D=none/\Sm H3 H5/\Lm H5/\Os H5 os ys/\H5 N=some (.lst ys)) ?_ ?_
  ·refine⟨_,rfl,D,ys,rfl,.inl (Dk.of AX),λN d6=>?_⟩;have Y:N≠D:=λz=>by rw[z,AX]at d6;cases d6
   rw[Bo Y]at d6;have t:=BM (u:=.lst ys) d6;exact⟨N,upd J N (.lst ys),rfl,iB (DP Y),by rw[Bo (DP Y)];exact m8,s4.trans (Sm.of t),m5.same t,c3.sm (Sm.of t),AX⟩
  rintro r H' ⟨N,H5,rfl,rfl,h8,s5,t4,e8,c5⟩;have L:=s5 _ _ b3 rfl;have k0:=b9.sm s5;have k1:=XH s5 e5;have r5:=m4.sm s5;have j6:WL H5 wr ad:=L2.Paired.imp' (λ_ _ e=>s5 _ _ e rfl) a9;have l8:N≠D:=λz=>by rw[z,h8]at c5;cases c5
  have b0:B≠D:=λz=>by rw[z,h8]at L;cases L
  clear b3 b9 e5 m4 a9 m6 m5 c3 e6 g9 s4 m8 b2 b6 e4 b1;refine Df (λr H'=>∃os' ys' J v6,r=S (.ref l) n (some (.ref B)) v4 O v6 (some (.ref D)) (some (.ref N)) none none none/\H'=upd J D (.lst ys')/\J D=none/\Sm H5 J/\Lm J/\Os J os' ys'/\BB gs Ws wr os ys wr.length os' ys') ?_ ?_
  ·refine⟨_,rfl,B,_,rfl,.inr ⟨fo,by rw[Bo b0];exact L,?_⟩⟩;refine jI (λi r H'=>∃os' ys' J v6,r=S (.ref l) n (some (.ref B)) v4 O v6 (some (.ref D)) (some (.ref N)) none none none/\H'=upd J D (.lst ys')/\J D=none/\Sm H5 J/\Lm J/\Os J os' ys'/\BB gs Ws wr os ys i os' ys') ⟨os,ys,H5,v6,rfl,rfl,h8,Sm.refl _,t4,e8,a6,λj _=>⟨rfl,rfl⟩,λj hj=>by simp at hj⟩ (λi r H' _ h=>by
     obtain⟨_,_,J,_,_,rfl,_,s,_⟩:=h;rw[Bo b0];exact s _ _ L rfl) (λi k v r H' hk h=>?_) (λr H' h=>by rw[l4]at h;exact h)
   obtain⟨os',ys',J,d2,rfl,rfl,hD,sm,r6,c1,Z⟩:=h;obtain⟨q,hq,rfl⟩:=eY hk;have k3:=Bp hq;have d4:=g8 q k3;obtain⟨ws,g1⟩:=SC k3;obtain⟨p0,q0,_,e0⟩:=LV g1;obtain⟨w1,w2,w3⟩:=b8.2.2 p0 q0;rw[e0]at w1 w2 w3;obtain⟨wl,p1,hwl⟩:=ln j6 g1;have q2:gs[q.1]?=some (gs[q.1]'d4):=AW d4;have l9:Go J B (.int (q.1:Nat)) (some (.ref wl)):=by
    have:=Go.rd (k:=.inl ((q.1:Nat):Int)) (.inr ⟨fo,sm _ _ L rfl⟩:Rd J B (.dK (Wf wr ad)));rw[p1]at this;exact this
   have a8:ys'.length=gs.length:=by rw[<-c1.length,Z.len]
   refine⟨D,ys',AX,?_⟩;rw[GQ hD];refine⟨_,rfl,_,rfl,_,rfl,_,rfl,B,_,rfl,l9,_,rfl,_,rfl,_,_,rfl,rfl,sc,ns,_,rfl,XH sm k1,by omega,by omega,λx j4 y4=>?_⟩;refine⟨.ref l,wl,gs,Ws,gs[q.1]'d4,q.1,ws,x,rfl,k0.sm sm,hs,d7,q2,sm _ _ hwl rfl,w1,w2,w3,j4,r6,λo v H' s' h7 m3 hO l1 m0 h0=>?_⟩;refine⟨_,rfl,_,rfl,D,ys',_,q.1,rfl,rfl,AX,oY (by omega),os'.set q.1 o,ys'.set q.1 v,H',some (.int (q.1:Nat)),rfl,Fo,h0,sm.trans s',h7,uE hO _ (c1.sm s'),Z.step c1.length hq g1 m3 l1 m0⟩
  rintro r H' ⟨os',ys',J,d2,rfl,rfl,t8,s6,t0,e7,Z⟩;have a8:ys'.length=gs.length:=by rw[<-e7.length,Z.len]
  refine Df (λr H'=>∃kp H7,r=S (.ref l) n (some (.ref B)) v4 O d2 (some (.ref D)) (some (.ref N)) (some (.ref kp)) none none/\H'=upd H7 D (.lst ys')/\H7 D=none/\Sm H5 H7/\Lm H7/\Os H7 os' ys'/\H7 kp=some (.lst ys')) ?_ ?_
  ·refine⟨_,rfl,D,ys',rfl,.inl (Dk.of AX),λkp d5=>?_⟩;have Y:kp≠D:=λz=>by rw[z,AX]at d5;cases d5
   rw[Bo Y]at d5;have t:=BM (u:=.lst ys') d5;exact⟨kp,upd J kp (.lst ys'),rfl,iB (DP Y),by rw[Bo (DP Y)];exact t8,s6.trans (Sm.of t),t0.same t,e7.sm (Sm.of t),AX⟩
  rintro r H' ⟨kp,H7,rfl,rfl,m7,s7,s0,k7,l3⟩;have tD:=BM (u:=.lst ys') m7;obtain⟨p,y,b4⟩:=U0 b8;have h5:∀{p:Nat} {y:Bx},rr wr p y->Ij os'= .inl (p,y):=λh=>Z.book hs d7 g8 a7 h;refine Df (λr H'=>∃H8,r=S (.ref l) n (some (.ref B)) v4 O d2 (some (.ref D)) (some (.ref N)) (some (.ref kp)) none none/\H'=upd H8 D (.lst ys')/\H8 D=none/\BC H7 H8) ?_ ?_
  ·refine⟨_,rfl,_,rfl,.inr ⟨D,ys',os',rfl,AX,k7.sm (Sm.of tD),Z.mf hs a7,by rw[Z.len];omega,by rw[Z.len];omega,?_⟩⟩;rw[h5 b4];intro t H8 s8 ht;refine⟨_,rfl,.ref B,wr,rfl,r5.sm (s7.trans (Sm.of (tD.trans s8))),b8,λp' y' h4 t2 H9 s9 b5=>?_⟩;have e:=(h5 h4).symm.trans (h5 b4);cases e;refine⟨.tuple [.int (p:Nat),.str y],.tuple [.int (p:Nat),.str y],.tup (Hm.of (s9 _ _ ht)) (.cons (.int _) (.cons (.str _) .nil)),.tup (Hm.of b5) (.cons (.int _) (.cons (.str _) .nil)),Ju (jL b4) _,Ju (jL b4) _,_,rfl,?_⟩;rw[fY];obtain⟨Hv,rfl,j8,sv⟩:=vl m7 (s8.trans s9);refine Dr ⟨_,rfl,D,_,rfl,.inl (Dk.of AX),_,rfl,kp,_,rfl,.inl (Dk.of (JH (sv _ _ l3) j8)),rfl,_,rfl,?_⟩;rw[show(!decide (V.int (ys'.length:Nat)=V.int (ys'.length:Nat)))=false by rw[A32 rfl];rfl];exact Dr ⟨Hv,rfl,rfl,j8,sv⟩
  rintro r H' ⟨H8,rfl,rfl,t7,i9⟩;have s8:Sm H5 H8:=s7.trans (Sm.of i9);have r9:=s0.same i9;have f3:=s8 _ _ c5 rfl;have c2:Os H8 os ys:=e8.sm s8;refine Df (λr H'=>∃v6,r=S (.ref l) n (some (.ref B)) v4 O v6 (some (.ref D)) (some (.ref N)) (some (.ref kp)) none none/\H'=upd H8 D (.lst ys)) ?_ ?_
  ·refine⟨_,rfl,B,_,rfl,.inr ⟨fo,by rw[Bo b0];exact s8 _ _ L rfl,?_⟩⟩;refine jI (λi r H'=>∃zs v6,r=S (.ref l) n (some (.ref B)) v4 O v6 (some (.ref D)) (some (.ref N)) (some (.ref kp)) none none/\H'=upd H8 D (.lst zs)/\zs.length=gs.length/\∀j:Nat,(j∈ (wr.take i).map (·.1)\/j∉wr.map (·.1))->zs[j]?=ys[j]?) ⟨ys',d2,rfl,rfl,a8,λj hj=>?_⟩ (λi r H' _ h=>by
     obtain⟨_,_,_,rfl,_⟩:=h;rw[Bo b0];exact s8 _ _ L rfl) (λi k v r H' hk h=>?_) (λr H' h=>?_)
   ·rcases hj with hj|hj
    ·simp at hj
    ·exact(Z.same j (by rw[DU];exact hj)).2
   ·obtain⟨zs,d9,rfl,rfl,j1,g0⟩:=h;obtain⟨q,hq,rfl⟩:=eY hk;have d4:=g8 q (Bp hq);have j3:ys[q.1]?=some (ys[q.1]'(by omega)):=AW _;exact⟨_,rfl,_,rfl,N,_,_,_,rfl,rfl,Dk.of (by rw[Bo l8];exact f3),EK (j:=q.1) j3,_,rfl,_,rfl,D,zs,_,q.1,rfl,rfl,AX,oY (by omega),zs.set q.1 _,_,rfl,Fo,by rw[List.length_set];exact j1,wb hq j3 g0 (by omega)⟩
   ·obtain⟨zs,d9,rfl,rfl,j1,g0⟩:=h;refine⟨d9,rfl,?_⟩;have e:zs=ys:=Nx λj=>g0 j (by
     rw[l4,DU];exact Classical.em _)
    rw[e]
  rintro r H' ⟨v6,rfl,rfl⟩;have f7:=BM (u:=.lst ys) t7;have g6:∀o∈os,Ox.may o/\Ox.few o:=λo ho=>by
   obtain⟨i,hi⟩:=DW.mp ho;have e9:i<gs.length:=by rw[<-a6];exact(Bi.mp hi).1
   exact pd hs (AW e9) (a7 i o _ hi (AW e9))
  obtain⟨x6,e3⟩:=rG hs hW d7 q5 hlast a6 a7;refine Df (λr H'=>r=S (.ref l) n (some (.ref B)) v4 O v6 (some (.ref D)) (some (.ref N)) (some (.ref kp)) none none/\BC H8 H') ?_ ?_
  ·refine⟨_,rfl,_,rfl,.inr ⟨D,ys,os,rfl,AX,c2.sm (Sm.of f7),g6,by omega,by omega,?_⟩⟩;rw[e3];intro H9 s9;refine⟨rfl,_,rfl,Dr ⟨_,rfl,_,rfl,.inr ⟨D,ys,os,rfl,s9 _ _ AX,c2.sm (Sm.of (f7.trans s9)),g6,by omega,by omega,?_⟩⟩⟩;rw[e3];intro Ha sa;exact⟨rfl,_,rfl,Dr ⟨rfl,(f7.trans s9).trans sa⟩⟩
  rintro r H9 ⟨rfl,f8⟩;have r8:=r9.same f8;have f2:=f8 _ _ f3;have k6:=c2.sm (Sm.of f8);refine Df (λr H'=>∃tp cv,r=S (.ref l) n (some (.ref B)) v4 O v6 (some (.ref D)) (some (.ref N)) (some (.ref kp)) (some (.ref tp)) none/\Sm H9 H'/\Lm H'/\H' tp=some (.lst (ys++[cv]))/\gr H' nP cv) ?_ ?_
  ·refine⟨_,rfl,λkv Ha sa hk x dx hx r0 Y=>?_⟩;refine Gd (Fj (Q:=λv H'=>BC Ha H'/\Rt Ha H' ⟨.int 1,.str "a",.truth,.bl false,.bl false⟩ v) (f:=⟨.int 1,.str "a",.truth,.bl false,.bl false⟩) (d:=.non) hx r0 Y trivial rfl ⟨rfl,Aa⟩ hk rfl rfl rfl λv H' s hF=>⟨s,hF⟩) λv0 Hb hh=>⟨hh.1,zl 1,λfl q6=>?_⟩;obtain⟨_,sb,t6⟩:=hh;intro xc A2 o8 m2 l0;have tf:=BM (u:=.lst [.ref x]) q6;have i7:=(sa.trans sb).trans tf;refine Mb (HZ (c:=true) (Q:=λv H'=>Sm (upd Hb fl (.lst [.ref x])) H'/\Lm H'/\∃o',TQ o' (some [.fld ⟨.int 1,.str "a",.truth,.bl false,.bl false⟩])/\OK H' ⟨true,.str "zzzzzzzzzzzz",o',Gy []⟩ v) (nm:=.str "zzzzzzzzzzzz") (o:=some [.fld ⟨.int 1,.str "a",.truth,.bl false,.bl false⟩]) (ns:=[]) o8 m2 l0 ⟨rfl,Aa⟩ ⟨fl,[.ref x],rfl,AX,.cons (OL.sm (Sm.of tf) (e:=.fld ⟨.int 1,.str "a",.truth,.bl false,.bl false⟩) t6.isF) .nil,(λe he=>by rw[Bu.mp he];exact trivial),by show 1<64;decide⟩ (.inl ⟨rfl,rfl⟩) (r8.same i7) λv o' H' a b c dd=>⟨a,b,o',c,dd⟩) λv0 Hc hh=>⟨hh.1,zl 1,λcl r4=>?_⟩;obtain⟨_,a1,a2,o',a3,a4⟩:=hh;obtain⟨es,rfl,pe⟩:=Yp a3;obtain rfl:=List.perm_singleton.mp pe;have tc:=BM (u:=.lst [.ref xc]) r4;have i8:Sm H9 (upd Hc cl (.lst [.ref xc])):=((Sm.of i7).trans a1).trans (Sm.of tc);refine⟨N,cl,ys,[.ref xc],rfl,rfl,i8 _ _ f2 rfl,AX,(by show ys.length+1<=sizeLine;exact Ea (by omega)),λtp g5=>?_⟩;have tt:=BM (u:=.lst (ys++[.ref xc])) g5;exact⟨tp,.ref xc,rfl,i8.trans (Sm.of tt),(a2.same tc).same tt,AX,OK.sm (Sm.of (tc.trans tt)) a4⟩
  rintro r Ht ⟨tp,cv,rfl,st,r7,g5,r3⟩;have k5:=k6.sm st;have f1:=st _ _ f2 rfl;refine Df (λr H'=>r=S (.ref l) n (some (.ref B)) v4 O v6 (some (.ref D)) (some (.ref N)) (some (.ref kp)) (some (.ref tp)) none/\Sm Ht H') ?_ ?_
  ·refine⟨_,rfl,_,rfl,.inr ⟨tp,ys++[cv],os++[nP],rfl,g5,MK k5 (.cons r3 .nil),(λo ho=>?_),by rw[Bh];omega,by rw[Bh];show os.length+1<=8;omega,?_⟩⟩
   ·rcases Cg.mp ho with ho|ho
    ·exact g6 o ho
    ·rw[Bu.mp ho];exact⟨λes he e hm=>by cases he;rw[Bu.mp hm];exact trivial,λes he=>by cases he;show 1<40;decide,by show 0<40;decide⟩
   rw[rF hs hW d7 a6 a7 (o:=nP) rfl λws hA=>xV (To hA λi g2 hi q4 e=>uW (hs.nms.ok g2.nam (Bm.mpr ⟨g2,Bp q4,rfl⟩)) e)];intro t Hx sx ht;refine⟨_,rfl,N,_,rfl,.inl (Dk.of (sx _ _ f1)),zl 2,λt2 b5=>?_⟩;refine⟨.tuple [.int (gs.length:Nat),.str "head"],.tuple [.int (ys.length:Nat),.str "head"],.tup (Hm.of (JH ht b5)) (.cons (.int _) (.cons (.str _) .nil)),.tup (Hm.of AX) (.cons (.int _) (.cons (.str _) .nil)),Ju Ab _,Ju Ab _,_,rfl,?_⟩;rw[j2,fY];have i6:=BM (u:=.tup [.int (gs.length:Nat),.str "head"]) b5;refine Dr ⟨_,rfl,_,_,rfl,rfl,⟨Aa,Aa⟩,n/3,rfl,by omega,(r7.same sx).same i6,λHy sy z3=>⟨_,rfl,Dr ⟨rfl,(Sm.of (sx.trans i6)).trans sy⟩⟩⟩
  rintro r Hz ⟨rfl,sz⟩;have f0:=sz _ _ f1 rfl;refine Df (λr H'=>∃v,r=S (.ref l) n (some (.ref B)) v4 O v6 (some (.ref D)) (some (.ref N)) (some (.ref kp)) (some (.ref tp)) (some v)/\Lp K H' v) ?_ ?_
  ·refine⟨zl 0,λel q7=>?_⟩;have u1:=BM (u:=.lst []) q7;refine⟨_,rfl,N,ys,rfl,.inl ⟨Dk.of (u1 _ _ f0),λtu p4 dk r1=>?_⟩⟩;have u2:=BM (u:=.tup ys) p4;have u3:=BM (u:=.dK []) r1;refine⟨_,rfl,N,9,ys,rfl,rfl,u3 _ _ (u2 _ _ (u1 _ _ f0)),Aa,Aa,Gp (show ys.length*9<sizeLine from Ea (by omega)),λrp p6=>⟨zl 8,λpl p9=>?_⟩⟩;have u4:=BM (u:=.lst (CI (9:Int).toNat ys).flatten) p6;have u5:=BM (u:=.lst [.non,.ref el,.ref tu,.str "forms",.int 5,.ref dk,.ref rp,.bl true]) p9;have hm:=Ey (n/6) (b:=8) Aa;obtain⟨v,hv,_⟩:=OH (xs:=[V.non,.ref el,.ref tu,.str "forms",.int 5,.ref dk,.ref rp,.bl true]) (i:=n/6%8) hm.1 hm.2;refine⟨_,rfl,_,_,rfl,rfl,⟨Aa,Aa⟩,_,_,rfl,rfl,(by show(0:Int) <8;decide),pl,_,_,v,rfl,rfl,Dk.of AX,hv,v,rfl,?_⟩;have go:∀(Hn:Hp) (i:Nat) (u:V),n/6%8=(i:Int)->[V.non,.ref el,.ref tu,.str "forms",.int 5,.ref dk,.ref rp,.bl true][i]?=some u->Lp K Hn u->Lp K Hn v:=λHn i u ei hu hN=>by
    rw[ei,EK hu]at hv;obtain rfl:=AR hv;exact hN
   have t9:n/6%8=((0:Nat):Int)\/n/6%8=((1:Nat):Int)\/n/6%8=((2:Nat):Int)\/n/6%8=((3:Nat):Int)\/n/6%8=((4:Nat):Int)\/n/6%8=((5:Nat):Int)\/n/6%8=((6:Nat):Int)\/n/6%8=((7:Nat):Int):=by omega
   rcases t9 with h|h|h|h|h|h|h|h
   ·exact go _ 0 _ h rfl (.inl ⟨_,.non,T.Na⟩)
   ·exact go _ 1 _ h rfl (.inr ⟨el,[],rfl,u5 _ _ (u4 _ _ (u3 _ _ (u2 _ _ AX))),Aa,λz=>by have:=z.1;exact A38 this Aa⟩)
   ·exact go _ 2 _ h rfl (.inl ⟨_,.tup (u5 _ _ (u4 _ _ (u3 _ _ AX))),T.cX⟩)
   ·exact go _ 3 _ h rfl (.inl ⟨_,.str _,T.WO⟩)
   ·exact go _ 4 _ h rfl (.inl ⟨_,.int _,T.WP⟩)
   ·exact go _ 5 _ h rfl (.inl ⟨_,.dK (u5 _ _ (u4 _ _ AX)),T.Va⟩)
   ·have y8: (CI (9:Int).toNat ys).flatten.length=9*ys.length:=oU ys 9;exact go _ 6 _ h rfl (.inr ⟨rp,_,rfl,u5 _ _ AX,by omega,λz=>by omega⟩)
   ·exact go _ 7 _ h rfl (.inl ⟨_,.bl _,T.Vb⟩)
  rintro r Hf ⟨v,rfl,q1⟩;refine⟨_,rfl,_,rfl,.inl ⟨q1,λt Hx sx ht=>⟨zl 2,λt2 b5=>⟨.tuple [.int 0,.str "forms"],.tuple [.int 0,.str "forms"],.tup (Hm.of (JH ht b5)) (.cons (.int _) (.cons (.str _) .nil)),.tup (Hm.of AX) (.cons (.int _) (.cons (.str _) .nil)),Ju Ab _,Ju Ab _,?_⟩⟩⟩⟩;rw[fY];exact q _
theorem vV{K:Be}{mg:Bx->Option AY}(T:Tx K mg)(s:Bf)(u:AY):BindsTo s (Br K 1004) ⟨[u],[]⟩ [("_law_script",u)]:=by
 obtain⟨oc,od,kV,doc,pm,an,cdv,ct,osl,e,lk,a⟩:=T.zK.ex;rw[e];exact .of_eq rfl
theorem xW:u6.Holds:=holds (k:=14) ⟨Aa,Aa⟩ (sp:=tU) (λw K mg base T b _=>P4 T b) (λK mg T s u=>vV T s u) (λK H a ns _ _ c h=>⟨a,ns,rfl,h,.inl c.1,λ_=>rfl⟩)
end K9
theorem PySem.Challenge.cw_formkin_k09_books_refused_holds : PySem.Challenge.rw_formkin_k09_books_refused.Holds := by
 exact K9.xW
#print axioms PySem.Challenge.cw_formkin_k09_books_refused_holds
