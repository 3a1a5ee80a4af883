import PyProof.Rows.All
import Wide.All
import OpenK.AllK
import Wide.FinOn
import Lean
import PyProof.EqAt
import PyProof.EqKinds
import PyProof.TupleCall
import OpenK.KOwn
import PySem.Challenge.RW_aheadmill_k12_labels
import PyProof.NeKinds
set_option Elab.async false
set_option linter.all false
set_option maxRecDepth 100000
set_option exponentiation.threshold 2000
set_option maxHeartbeats 0
set_option compiler.extract_closed false
set_option genSizeOf false
local macro_rules | `(tactic| omega)=>`(tactic| lia)
local macro_rules | `(command| $d:definition) => `(command| noncomputable $d:definition)
open Array renaming append_assoc->GR,length_toList->Cj,toList->GW,find?_toList->GU,getElem?_toList->GV,ext'->GS,toList_extract->GX
open Bool renaming true->aB,false->aF,eq_iff_iff->uJ,false_ne_true->dG,and_eq_true->aY,or_false->Na,false_or->Mz,not_eq_true'->qG,or_true->Nb,or_eq_true->uK,and_true->GY,false_eq_true->Ck
open Char renaming toNat->Cr
open Classical renaming byContradiction->HJ
open False renaming elim->jT
open ForInStep renaming yield->sI
open Int renaming natCast_nonneg->HY,fmod_eq_emod_of_nonneg->aJj,fdiv_eq_ediv_of_nonneg->HX,toNat_natCast->gm,eq_ofNat_of_zero_le->wX,emod_nonneg->Dd,emod_lt_of_pos->Cz,ediv_nonneg->HW,ediv_le_self->HV
open List renaming range->gL,filterMap_cons->pD,mem_cons_self->fU,mem_cons_of_mem->hV,mem_append_left->gx,getElem?_set_self->gu,getElem?_set_ne->gr,mem_append_right->hU,size_toArray->eM,any_eq_false->IA,append_nil->iS,of_mem_zip->Od,replicate->cJ,length->qN,length_take->eT,getElem?_append_right->IM,getElem?_replicate->IS,getElem?_append_left->uL,getElem?_map->gK,getElem?_take_of_lt->aJq,mem_of_getElem?->fQ,length_append->fP,length_map->aV,length_replicate->sy,filterMap_map->Nt,length_drop->uM,all_cons->hG,any_cons->kC,replicate_succ->pG,flatten_cons->gq,foldl->Nx,append_assoc->qL,foldl_cons->Ny,length_singleton->uN,nil_append->hW,map_nil->Dl,map_cons->dS,find?_cons->zZ,length_cons->hJ,length_nil->sx,getElem?_eq_none->sv,contains_cons->IC,mem_singleton_self->Dn,forIn_cons->su,lookup_cons->gR,lookup->Ob,map_map->lD,all_eq_true->xA,getElem?_eq_getElem->cZ,getElem?_eq_some_iff->IQ,any_eq_true->gp,getElem_mem->aa,getElem_of_mem->IU,getElem?_toArray->Nz,range'->tf,drop_of_length_le->Nq,drop_eq_getElem_cons->Np,drop_zero->xB,findIdx?_eq_some_iff_getElem->IK,range_succ_eq_map->JH,findIdx?_cons->Nw,eq_nil_of_length_eq_zero->zY,take_succ_cons->af,take_of_length_le->qQ,zipIdx_cons->JK,zipIdx_nil->JL,forIn_nil->IL,mem_cons->pF,not_mem_nil->qP,getElem?_eq_none_iff->IP,not_any_eq_all_not->aJu,exists_cons_of_length_eq_add_one->Dg,mem_map_of_mem->JA,getElem?_take->Dj,map_take->IZ,getD_eq_getElem?_getD->aJo,getElem?_zip_eq_some->IT,extract_eq_drop_take'->IG,take_add_one->gM,range_succ->tj,filter_append->pE,filter_cons->Di,filter_nil->IJ,take_append_of_le_length->aJx,cons_append->fT,getElem?_cons_succ->aJp,zip_cons_cons->Og,length_filter_le->qO,map->Oc,take_length->jG,takeWhile_cons->Dq,getLast?_eq_getElem?->aJr,takeWhile->Dp,reverse_reverse->Oe,length_reverse->Oa,map_append->dA,filterMap_append->so,length_range->IW,head?_append->IV,dropWhile_sublist->IF,takeWhile_sublist->JJ,takeWhile_append_dropWhile->Of,reverse_append->JI,mem_range'_1->JC,dropLast_concat_getLast->IE,any_map->De,cons_ne_nil->IB,head?_dropWhile_not->aJt,eq_append_cons_of_mem->aJm,append_cancel_right->sk,mem_append->sJ,nodup_append->JD,getLast?_eq_some_getLast->aJs,getElem?_of_mem->xC,filterMap_cons_none->sr,filterMap_cons_some->Dh,filterMap->Nr,filterMap_filterMap->IH,length_filterMap_le->Dk,eq_of_mem_replicate->sm,takeWhile_append_of_pos->aJw,replicate_append_replicate->aJv,mem_of_mem_take->JB,nodup_iff_pairwise_ne->JE,pairwise_map->JG,pairwise_lt_range->JF,append_cancel_right_eq->aJl,append_cancel_left_eq->aJk,contains_eq_mem->ID,filterMap_nil->II,mem_singleton->ae,filter_cons_of_pos->Nv,filter_cons_of_neg->Nu,findIdx?_eq_none_iff->aJn,set->lE
open List.Pairwise renaming imp_of_mem->HZ
open List.cons renaming injEq->pC,inj->Nn
open Nat renaming lt_of_lt_of_le->cP,lt_irrefl->pI,ne_of_lt->bU,le_trans->eN,le_of_lt->Ds,ne_of_gt->pJ,le_refl->cB,succ_mul->JQ,add_comm->JM,lt_trans->tu,zero_le->kD,lt_succ_self->cQ,le_succ->xD,lt_succ_of_lt->lV,min_self->Dt,zero_add->gy,log2_lt->JN,le_add_right->Dr,zero_lt_one->JT,le_succ_of_le->Oi,not_lt_zero->ua,min_eq_left->JO,sub_self->JP,ble->Oh,sub_zero->Oj,toDigits->Ol,isDigit_of_mem_toDigits->aJy,length_toDigits_le_iff->aJz,toDigits_of_lt_base->JS,toDigits_of_base_le->JR
open Ne renaming symm->kE
open Option renaming some->aA,none->aD,getD_none->Oo,isSome_map->Oq,bind_some->qR,map_some->JV,or_none->uc
open Option.some renaming inj->dB
open PyProof renaming noPylong_of_log2->aKb
open PyProof.Rows renaming AllBare->pA,callWith_type1->Dw,envOfC->uU,callWith_builtin1->aKa,slicePart_none->LO,slot_tuple_getitem->JY,subscriptTail->Pz,subscriptTail_builtinR->LP,IntsAre->rq,intBits_le->Ek,boot_isinstance->LJ
open PyProof.Rows.KTD renaming tabLook->Nm,strsLook->sj,tabLook->JX,hashesOf->JW
open PySem renaming World->bD,Program->bG,KeyKind->KH,wpAny_eqBool_str->LU,Paired->gz,Heap->aQ,sysModules->kF,tupleKind->ay,mainGlobals->eJ,builtinsNs->Pm,bootBuiltins->pK,Around->bS,Shared->aG,Scope->eU,GenState->Cu,Model->jH,wpAny->aO,storeName->Py,Expr->aJ,model->aS,backTo->nZ,starEach->eY,wpAny_mono->kH,wpAny_Name->Qc,wpAny_loadName_local->LZ,wpAny_loadName_cell->LX,wpAny_execs_nil->Qd,swapsWith->ax,assign->uS,assignInOrder->LH,assignEach->qU,Operator->uO,wpAny_assign_Name->LR,holding->uk,wpAny_bind->aL,wpAny_holding->kG,wpAny_standAt->iu,swapsWithSole->LQ,swappedStores->Er,pyNext->xK,letOwnedTupleGo->Em,pyIter->um,wpAny_pure->bH,rawInt->qW,wpAny_pyNext_list_item->MH,wpAny_pyNext_list_end->MG,PassesOwn->Ot,foldedSetIterable->Ei,wpAny_passesOwn->uv,binaryOp->eI,unaryOp->Et,compareOp->dM,CmpOp->sH,behindInMarks->uh,wpAny_truthy_bool->Ez,sizeLine_eq->iB,attributeBase->Eg,FuncData->eW,BindsTo->gg,codeAny->sN,wpAny_call->ba,codeAny_mono->ak,wpAny_Call_Name_kw->uq,Keyword->wZ,NameKind->sL,bindL->xG,bindC->xF,leaving->uV,cellsFrom->Pn,mem_of_lookup->ue,Arguments->Mx,concat_meets->Pp,noFill_tuple_add->Pt,seq_tuple_add->Pw,IsPart->wY,wpAny_field->jI,getItem->ao,wpAny_callSpecial?_slot->uu,wpAny_call_entry->ik,wpAny_typeOf->MJ,wpAny_newObj_type->bf,evalPart_none->LL,typeLookup->Es,seqIndex_of->Pu,subscripted->Qa,typeIs_str->az,sliceBounds->aw,typeIs_int->Qb,typeOf->uW,call_meets->xH,Params->dD,callerA->xI,call->Pf,valueAt->iC,atKey->uT,wpAny_getItem_of->LV,tupleKind_room_in1->ij,wpAny_notIn_of->MC,call_meetsIn->ui,meets_dict_get->LN,field->sO,setFlight->au,frameOf->Dz,noteFrame->aq,wpAny_landsW->LW,wpAny_setField->Ey,passOn->Ph,excClassObj->xJ,wpAny_loadPart_at->bc,wpAny_isSubtype_exc->Eu,ExceptHandler->pB,codeAny_call_builtin->Eh,isInstance->El,wpAny_mkText->MB,wpAny_attempt->ur,getAttrByItsOwn->Ej,boundAndCalled->Pl,checkBuiltinCall->LK,wpAny_loadPart->MA,notedBy->En,closureFor->Po,compEnvC->uj,wpAny_comprehension_free->LS,strValues->Ep,JoinOk->si,strKind->uQ,strKind_is->Eo,wpAny_specialOf->MI,wpAny_pyIter_list->uw,strIterType->uo,plainObj_wpAny_Assign_Attribute->aMm,ExcBaseFacts->zW,wpAny_seqItems->xM,wpAny_rule->Qf,firstArgMember->LM,ZipApart->aj,IsZip->lC,IsPair->gA,wpAny_setField_rec->iq,wpAny_onRaise->Ew,wpAny_updateSeq_pair->Qg,wpAny_letGo->Qe,wpAny_pyIter_tuple->ME,wpAny_pyIter_enum->MD,wpAny_pyIter_zip->MF,Str->aI
open PySem.Around renaming under->My
open PySem.AutoListH renaming list___mul___list_int_3->aJi
open PySem.Builtin renaming bitAnd->HE,bitOr->HF,bitXor->HG
open PySem.Builtin.List renaming listTooLong->Nc
open PySem.Builtin.Slice renaming sliceAdjust->Nd,slicePlaces->Cm,sliceApplied->GZ
open PySem.Builtin.SmallTypes renaming nextOf->sG,ownedTupleIsFree->Co,ownedTupleHandOut->HA
open PySem.Builtin.Str renaming partsBetween->gi,occurrences->qH,strKind->gj,strSub->gk,subAt->HC,strSliceIndices->HB
open PySem.Builtin.Tuple renaming tupleItemsOf->HD,tupleExact->Cq
open PySem.Calls renaming Name_function_global->HH,evalArgs_plain->HI
open PySem.Challenge renaming pw_aheadmill_k12_labels->aKc,rw_aheadmill_k12_labels->aKd
open PySem.Code renaming isFrame->Nf,quiet_builtin->Ng
open PySem.EntryCells renaming newEntry->HK
open PySem.EqMixed renaming eq_bool_str->aKe,eq_int_str->aKf,eq_str_bool->aKg,eq_str_int->aKh,ne_bool_str->aKi,ne_int_str->aKj,ne_str_bool->aKk,ne_str_int->aKl
open PySem.EqNone renaming eq_none_none->aKq,eq_none_bool->aKo,eq_none_int->aKp,eq_none_str->aKr,eq_bool_none->aKm,eq_int_none->aKn,eq_str_none->aKs,ne_none_none->aKx,ne_none_bool->aKv,ne_none_int->aKw,ne_none_str->aKy,ne_bool_none->aKt,ne_int_none->aKu,ne_str_none->aKz
open PySem.F renaming slot_tuple_add->Oy,entry_tuple_add->Ow,args_tuple_add_2->Ov,slot_int_rmul->HR,slot_dict_get->ia,entry_dict_get->ud,args_dict_get_2->Ou,args_dict_get_3->JZ,entry_bexc_ga->HN,slot_str_split->Nj,entry_str_split->Ni,args_str_split_2->Nh,slot_NoneType_hash->aLh,entry_NoneType_hash->aLc,slot_tuple_index->KG,entry_tuple_index->aLe,args_tuple_index_2->aLb,store_ValueError->aLm,slot_list_index->KD,entry_list_index->aLd,args_list_index_2->aLa,slot_tuple_iterator_next->Cs,entry_tuple_iterator_next->HP,args_tuple_iterator_next_1->HL,slot_zip_next->Ct,entry_zip_next->HQ,args_zip_next_1->HM,plainAttrs_list->KA,type_list_index->aLo,slot_list_append->aLi,type_list_append->aLn,plainAttrs_str->KC,slot_str_startswith->aLl,type_str_startswith->aLr,slot_str_endswith->aLj,type_str_endswith->aLp,slot_str_partition->aLk,type_str_partition->aLq,plainAttrs_tuple->aLg,type_tuple_index->aLs,plainAttrs_dict->aLf,excBase_ValueError->Ox
open PySem.Heap renaming lt_size->cU,get?_none_of_le->Nl,SameBut->zX,get?_push_of_some->dH,get?_push_size->iM,get?_update_self->rm,get?_update_other->Cy,FlyingW->mV,HeldW->Nk,MadeExcOf->Cv,size_push->rn,get?_update_ne->Cw,get?_push_at->HU,ExtBut->rj
open PySem.Heap.SameBut renaming update->HS
open PySem.NameKind renaming free->hZ,cell->ag
open PySem.Obj renaming mapSeq->ub,mapFields->Om,isFreed_of_fields->JU,data_mapFields->Du
open PySem.Paired renaming length->Dv
open PySem.SeqAt renaming EqAt->ie,in_listAt->KZ,in_tupleAt->LA,ne_of_list_tuple->LB
open PySem.SeqAt.EqAt renaming int_str->KR,str_int->KW,same->Pj,none_int->KS,none_str->KU,int_none->KQ,str_none->KY
open PySem.Str renaming ofString->uf,empty->Ea,ofString->uP,ofString_eq_toList->aLt,join->Dx
open PySem.Txt renaming join->Ec,startswith->Ed,endswith->Eb,stripChars->Ee,split->uR,mul->sM,slice->mX
open PySem.Value renaming isStrOf->LG,int->ug,str->nY,none->lW,bool->qT,ref->eX,type->Ef
open PySem.W renaming methodObj->Pe,hideAll->mW,hideAll_get->Pc,of_hideAll->Dy,hideAll_none->Pd,Frag->aX,lookIn->KO,keepIn->ic,callWith_K->KJ,cellsFrom_some->KL,fnOf->ib,codeIn->Pb,OpenLaw->Pa,WalkO->KI,findIn->qV,specialIn->Px,Looks->pH,looks_findIn->ig,looks_mroIn->Pq,nsIn->gS,kitOne->eO,kia_one->xE,excIn->KN,mg_of->iA,mg_none_of->KP
open PySem.W.KIN renaming val_back->Oz
open PySem.W.Looks renaming here->tq
open PySem.W.SL renaming s2766695959194262286x5->aMb,s5856160107412720595x4->aMg,s658472552662922059x5->aMj,s14018661285674007319x4->aLx,s7097527257260152453x26->aMk,s6070975301684473832x10->aMi,s11030030927630378310x26->aLw,s10062305145149207511x16->aLu,s17162191345867700912x4->aLz,s5946037652744460706x9->aMh,s4278001404047624695x13->aMd,s2742458400755230247x6->aMa,s4209523147560561109x18->aMc,s14755015743595814543x17->aLy,s10220274742760427390x26->aLv,s4290257624100764138x5->aMe,s4860613602091757760x24->aMf,s7174869446012820540x8->aMl
open Std.Legacy renaming Range->LC
open Std.Legacy.Range renaming forIn_eq_forIn_range'->LD,size->LF
open Subtype renaming val->lF
open Sum renaming inl->ah,inr->ai
open Sum.inr renaming inj->Pk
open True renaming intro->dJ
namespace L2
open PySem PySem.Spec PyProof.Rows
abbrev aU:=Sum Int Str
def yM:aU->Value->Bool
 |.inl k,v=>Value.isInt k v
 |.inr x,v=>LG x v
def Vt(w:bD):aU->Int
 |.inl k=>hashInt k
 |.inr x=>hashStr w x
theorem mH:∀{k:aU}{v:Value},yM k v=aB->(∃i t,k=ah i/\v=ug i t)\/(∃x t,k=ai x/\v=nY x t)
 |.inl i,v,h=>by obtain⟨t,e⟩:=Value.isInt_shape (k:=i) (v:=v) h;exact .inl ⟨i,t,rfl,e⟩
 |.inr x,v,h=>by obtain⟨t,e⟩:=Value.isStrOf_shape (x:=x) (v:=v) h;exact .inr ⟨x,t,rfl,e⟩
theorem XB(i:Int)(t:Tok):yM (.inl i) (.int i t)=aB:=by simp[yM,Value.isInt]
theorem XC(x:Str)(t:Tok):yM (.inr x) (.str x t)=aB:=by simp[yM,LG]
theorem XE(a b:Int):decide ((ah a:aU)=ah b)=(a==b):=by
 by_cases e:a=b
 .subst e;simp
 .have h:¬(ah a:aU)=ah b:=λq=>e (Sum.inl.inj q);rw[decide_eq_false h];exact(beq_eq_false_iff_ne.mpr e).symm
theorem XH(a b:Str):decide ((ai a:aU)=ai b)=decide (a=b):=by
 by_cases e:a=b
 .subst e;simp
 .have h:¬(ai a:aU)=ai b:=λq=>e (Pk q);rw[decide_eq_false h,decide_eq_false e]
theorem XF(a:Int)(b:Str):decide ((ah a:aU)=ai b)=aF:=decide_eq_false (λq=>nomatch q)
theorem XG(a:Str)(b:Int):decide ((ai a:aU)=ah b)=aF:=decide_eq_false (λq=>nomatch q)
def gG(prog:bG)(w:bD):KH prog w aU where
 is:=yM
 hash:=Vt w
 inj:=λv a b ha hb=>by
  rcases mH ha with⟨i,t,rfl,rfl⟩|⟨x,t,rfl,rfl⟩
  .rcases mH hb with⟨j,u,rfl,e⟩|⟨y,u,rfl,e⟩
   .injection e with e1 _;rw[e1]
   .exact nomatch e
  .rcases mH hb with⟨j,u,rfl,e⟩|⟨y,u,rfl,e⟩
   .exact nomatch e
   .injection e with e1 _;rw[e1]
 byValue:=λk v h=>by rcases mH h with⟨i,t,rfl,rfl⟩|⟨x,t,rfl,rfl⟩<;>rfl
 pyHash:=λhv h=>by
  rcases mH hv with⟨i,t,rfl,rfl⟩|⟨x,t,rfl,rfl⟩
  .exact wpAny_pyHash_int h
  .exact wpAny_pyHash_str h
 eqBool:=λhu hv h=>by
  rcases mH hu with⟨i,t,rfl,rfl⟩|⟨x,t,rfl,rfl⟩
  .rcases mH hv with⟨j,u,rfl,rfl⟩|⟨y,u,rfl,rfl⟩
   .rw[XE]at h;exact wpAny_eqBool_int h
   .rw[XF]at h;exact KR i t y u _ _ _ _ h
  .rcases mH hv with⟨j,u,rfl,rfl⟩|⟨y,u,rfl,rfl⟩
   .rw[XG]at h;exact KW x t j u _ _ _ _ h
   .rw[XH]at h;exact LU h
 «strs»:=λk x t v h=>by
  rcases mH h with⟨i,u,rfl,e⟩|⟨y,u,rfl,e⟩
  .exact nomatch e
  .injection e with e1 _;subst e1;cases v<;>rfl
theorem YQ(prog:bG)(w:bD)(i:Int)(t:Tok):(gG prog w).is (.inl i) (.int i t)=aB:=XB i t
theorem YR(prog:bG)(w:bD)(x:Str)(t:Tok):(gG prog w).is (.inr x) (.str x t)=aB:=XC x t
inductive V where
 |aK|bl (b:Bool)|int (i:Int)|str (x:Str)|mC (b:Array UInt8)|xh (b:UInt64)|ref (a:Addr)|ty (n:String)
 deriving DecidableEq
def RelV:V->Value->Prop
 |.aK,u=>u=lW
 |.bl b,u=>u=qT b
 |.int i,u=>∃t,u=ug i t
 |.str x,u=>∃t,u=nY x t
 |.mC b,u=>∃t,u=Value.bytes b t
 |.xh b,u=>∃t,u=Value.float b t
 |.ref a,u=>u=eX a
 |.ty n,u=>u=Ef n
abbrev Vals:List V->List Value->Prop:=gz RelV
theorem Vals.length{xs:List V}{us:List Value}(r:Vals xs us):xs.length=us.length:=Dv r
theorem Vals.get:∀{xs:List V}{us:List Value}{i:Nat}{x:V},Vals xs us->xs[i]?=aA x->∃u,us[i]?=aA u/\RelV x u
 |_,_,_,_,.nil,e=>by simp at e
 |_,_,0,_,.cons r _,e=>by simp at e;subst e;exact⟨_,rfl,r⟩
 |_,_,i+1,x,.cons _ t,e=>by obtain⟨u,h1,h2⟩:=Vals.get (i:=i) (x:=x) t (by simpa using e);exact⟨u,by simpa using h1,h2⟩
theorem Vals.set{x:V}{u:Value}(r:RelV x u):∀{xs:List V}{us:List Value} (i:Nat),Vals xs us->Vals (xs.set i x) (us.set i u)
 |_,_,_,.nil=>.nil
 |_,_,0,.cons _ t=>.cons r t
 |_,_,i+1,.cons q t=>.cons q (Vals.set r i t)
theorem Vals.append:∀{xs ys:List V}{us ws:List Value},Vals xs us->Vals ys ws->Vals (xs++ys) (us++ws)
 |_,_,_,_,.nil,s=>s
 |_,_,_,_,.cons r t,s=>.cons r (Vals.append t s)
theorem Vals.take:∀{xs:List V}{us:List Value} (n:Nat),Vals xs us->Vals (xs.take n) (us.take n)
 |_,_,0,_=>.nil
 |_,_,_+1,.nil=>.nil
 |_,_,n+1,.cons r t=>.cons r (Vals.take n t)
theorem Vals.drop:∀{xs:List V}{us:List Value} (n:Nat),Vals xs us->Vals (xs.drop n) (us.drop n)
 |_,_,0,r=>r
 |_,_,_+1,.nil=>.nil
 |_,_,n+1,.cons _ t=>Vals.drop n t
theorem Vals.none_of:∀{xs:List V}{us:List Value}{i:Nat},Vals xs us->xs[i]?=aD->us[i]?=aD:=λ{xs us i} r e=>by have h1:=r.length;have h2:xs.length<=i:=List.getElem?_eq_none_iff.mp e;exact List.getElem?_eq_none_iff.mpr (by omega)
def lZ:Option V->Option Value->Prop
 |some v,aA u=>RelV v u
 |none,aD=>True
 |_,_=>False
def KV{κ:Type}:List (κ×V)->List (κ×Value)->Prop:=gz λ(p:κ×V) (q:κ×Value)=>p.1=q.1/\RelV p.2 q.2
def kV:aU->V
 |.inl i=>.int i
 |.inr x=>.str x
inductive HO where
 |lst (xs:List V)
 |tup (xs:List V)
 |dK (aE:List (aU×V))|dT (aE:List (List aU×V))
 |set (S:Int->Bool) (n:Nat)
 |ins (C dx:Addr) (fs:List (Str×V))
 |own (x:Addr)
 |xd (fs:List (Str×V))
 |met (f x:Addr)
 |Am (lo hi:Int)
 |dX (o:Obj) (u:HO)
 |wI (ps:Array Value)
 |ext (φ:aQ->Prop)
abbrev Hp:=Addr->Option HO
def aZ(H:Hp)(a:Addr)(o:HO):Hp:=λb=>if b=a then aA o else H b
theorem gY{H:Hp}{a:Addr}{o:HO}:aZ H a o a=aA o:=by unfold aZ;rw[if_pos rfl]
theorem bW{H:Hp}{a b:Addr}{o:HO}(h:b≠a):aZ H a o b=H b:=by unfold aZ;rw[if_neg h]
theorem tS{H:Hp}{a b:Addr}{o u:HO}(h:H a=aA o)(h':H b=aA u)(d:o≠u):a≠b:=by intro e;subst e;rw[h]at h';exact d (dB h')
theorem gW{H:Hp}{a b:Addr}{o:HO}(h:H a=aA o)(h':H b=aD):a≠b:=by intro e;subst e;rw[h]at h';cases h'
section
variable (P:bG)(w:bD)
def eZ(H:Hp)(h:aQ)(a:Addr):HO->Prop
 |.lst xs=>xs.length<=sizeLine/\∃(its:List Value) (n:Nat),Vals xs its/\h.get? a=aA { cls:=.type "list",data:=.seq its.toArray n }
 |.tup xs=>xs.length<=sizeLine/\∃its:List Value,Vals xs its/\IsTup h a its.toArray
 |.dK aE=>aE.length<=sizeLine/\(a==kF)=aF/\∃vs,KV aE vs/\h.DictOf (gG P w) a vs
 |.dT aE=>aE.length<=sizeLine/\(a==kF)=aF/\∃xs:List (List aU×Addr×Value),
  gz (λ(p:List aU×V) (q:List aU×Addr×Value)=>p.1=q.1/\H q.2.1=aA (.tup (p.1.map kV))/\RelV p.2 q.2.2) aE xs /\
  ∃o es ep,h.get? a=aA o/\o.ExactDict/\o.data = .dict es ep/\es.toList=xs.map (entryOfKey (ay (gG P w)))/\(xs.map (·.1)).Nodup
 |.set S n=>h.SetOf (intKind P w) a S n
 |.ins C dx fs=>H dx=aA (.own a)/\fs.length<=1000/\dx≠a/\h.get? a=aA (W.instObj C dx) /\
  ∃mA,h.Ns1 dx mA/\(∀f,lZ (fs.lookup f) (mA f))/\PySem.Within mA (fs.map (·.1))
 |.own _=>∃o,h.get? a=aA o
 |.xd fs=>∃mA,h.Ns1 a mA/\∀f,lZ (fs.lookup f) (mA f)
 |.Am lo hi=>∃t u v,h.get? a=aA { cls:=.type "range",data:=.fields #[.int lo t,.int hi u,.int 1 v] }
 |.dX o u=>h.get? a=aA o/\eZ H h a u
 |.wI ps=>h.get? a=aA { cls:=.none,data:=.fields ps }
 |.met f x=>h.get? a=aA (Pe (.ref f) (.ref x))
 |.ext φ=>φ h/\(∃o,h.get? a=aA o)/\∀h1 h2:aQ,φ h1->(∀o,h1.get? a=aA o->h2.get? a=aA o)->φ h2
def dW(H:Hp)(h:aQ):Prop:=∀a o,H a=aA o->eZ P w H h a o
end
section
variable {P:bG}{w:bD}{H H':Hp}{h h':aQ}{a:Addr}{o:HO}
theorem eZ.lt(x:eZ P w H h a o):a<h.objs.size:=by
 cases o with
 |lst xs=>obtain⟨_,_,_,_,e⟩:=x;exact cU e|tup xs=>obtain⟨_,_,_,p⟩:=x;exact p.lt|dK aE=>obtain⟨_,_,_,_,o,_,_,e,_⟩:=x;exact cU e|dT aE=>obtain⟨_,_,_,_,o,_,_,e,_⟩:=x;exact cU e|set S n=>obtain⟨o,_,_,_,e,_⟩:=x;exact cU e|ins C dx fs=>obtain⟨_,_,_,e,_⟩:=x;exact cU e|own y=>obtain⟨_,e⟩:=x;exact cU e|xd fs=>obtain⟨_,⟨_,_,_,e,_⟩,_⟩:=x;exact cU e|Am lo hi=>obtain⟨_,_,_,e⟩:=x;exact cU e|dX ob u=>obtain⟨e,_⟩:=x;exact cU e|wI ps=>exact cU (show h.get? a=aA _ from x)|met f y=>exact cU (show h.get? a=aA _ from x)|ext φ=>obtain⟨_,⟨_,e⟩,_⟩:=x;exact cU e
theorem Paired.Jb{α β:Type}{F G:α->β->Prop}:∀{l₁:List α}{l₂:List β},gz F l₁ l₂->(∀a b,F a b->G a b)->gz G l₁ l₂
 |_,_,.nil,_=>.nil
 |_,_,.cons r t,f=>.cons (f _ _ r) (Paired.Jb t f)
theorem eZ.mP(x:eZ P w H h a o)(k:∀b u,(b=a\/H b=aA (.own a))->h.get? b=aA u->h'.get? b=aA u)
  (ho:∀b,H b=aA (.own a)->H' b=aA (.own a)) (ht:∀b xs,H b=aA (.tup xs)->H' b=aA (.tup xs)):eZ P w H' h' a o:=by
 induction o with
 |lst xs=>obtain⟨z,its,n,r,e⟩:=x;exact⟨z,its,n,r,k _ _ (.inl rfl) e⟩|tup xs=>obtain⟨z,its,r,ob,e,c⟩:=x;exact⟨z,its,r,ob,k _ _ (.inl rfl) e,c⟩|dK aE=>obtain⟨z,y,vs,r,ob,es,ep,e,c⟩:=x;exact⟨z,y,vs,r,ob,es,ep,k _ _ (.inl rfl) e,c⟩|dT aE=>obtain⟨z,y,xs,r,ob,es,ep,e,c⟩:=x;exact⟨z,y,xs,Paired.Jb r λp q z=>⟨z.1,ht _ _ z.2.1,z.2.2⟩,ob,es,ep,k _ _ (.inl rfl) e,c⟩
 |set S n=>obtain⟨ob,es,ep,t,e,c⟩:=x;exact⟨ob,es,ep,t,k _ _ (.inl rfl) e,c⟩|ins C dx fs=>obtain⟨d,z,ne,e,mA,⟨od,es,ep,e2,c⟩,r⟩:=x;exact⟨ho _ d,z,ne,k _ _ (.inl rfl) e,mA,⟨od,es,ep,k _ _ (.inr d) e2,c⟩,r⟩
 |own y=>obtain⟨ob,e⟩:=x;exact⟨ob,k _ _ (.inl rfl) e⟩|xd fs=>obtain⟨mA,⟨od,es,ep,e,c⟩,r⟩:=x;exact⟨mA,⟨od,es,ep,k _ _ (.inl rfl) e,c⟩,r⟩|Am lo hi=>obtain⟨t,u,v,e⟩:=x;exact⟨t,u,v,k _ _ (.inl rfl) e⟩|dX ob u ih=>obtain⟨e,q⟩:=x;exact⟨k _ _ (.inl rfl) e,ih q⟩|wI ps=>have e:h.get? a=aA { cls:=.none,data:=.fields ps }:=x;show h'.get? a=aA { cls:=.none,data:=.fields ps };exact k a _ (.inl rfl) e
 |met f y=>have e:h.get? a=aA (Pe (.ref f) (.ref y)):=x;show h'.get? a=aA (Pe (.ref f) (.ref y));exact k a _ (.inl rfl) e
 |ext φ=>obtain⟨p,⟨o,e⟩,st⟩:=x;exact⟨st _ _ p λo q=>k _ _ (.inl rfl) q,⟨o,k _ _ (.inl rfl) e⟩,st⟩
theorem dW.lt(x:dW P w H h)(e:H a=aA o):a<h.objs.size:=(x a o e).lt
theorem dW.fresh(x:dW P w H h)(e:h.objs.size<=a):H a=aD:=by
 cases q:H a with
 |none=>rfl|some u=>exact absurd (cP (x.lt q) e) (pI _)
theorem dW.kept(x:dW P w H h)(k:∀b u,h.get? b=aA u->h'.get? b=aA u):dW P w H h':=λa o e=>
 (x a o e).mP (λb u _ q=>k b u q) (λ_ q=>q) λ_ _ q=>q
theorem dW.laid(x:dW P w H h)(k:∀b u,h.get? b=aA u->h'.get? b=aA u)(hp:h.objs.size<=a)(new:eZ P w (aZ H a o) h' a o):dW P w (aZ H a o) h':=λb u e=>by
 have hn:=x.fresh hp;by_cases hb:b=a
 .subst hb;rw[gY]at e;cases e;exact new
 .rw[bW hb]at e;exact(x b u e).mP (λc v _ q=>k c v q) (λc q=>by rw[bW (gW q hn)];exact q) λc xs q=>by rw[bW (gW q hn)];exact q
end
def Rd(H:Hp)(a:Addr)(u:HO):Prop:=H a=aA u\/∃o,H a=aA (.dX o u)
theorem Rd.ok{P:bG}{w:bD}{H:Hp}{h:aQ}{a:Addr}{u:HO}(r:Rd H a u)(x:dW P w H h):eZ P w H h a u:=by
 rcases r with r|⟨o,r⟩
 .exact x a u r
 .obtain⟨_,q⟩:=x a _ r;exact q
def iz:Option HO->Prop
 |some (.lst _)=>True
 |some (.dK _)=>True
 |some (.dT _)=>True
 |some (.set _ _)=>True
 |some (.ins _ _ _)=>True
 |some (.ext _)=>True
 |_=>False
section
variable {P:bG}{w:bD}{H:Hp}{h h':aQ}{x e:Addr}{o':HO}
theorem dW.write(ok:dW P w H h)(mu:iz (H x))(he:e=x\/H e=aA (.own x))(k:∀b u,b≠e->h.get? b=aA u->h'.get? b=aA u)(heo:∃u,h'.get? e=aA u)
  (new:eZ P w (aZ H x o') h' x o'):dW P w (aZ H x o') h':=λb u q=>by
 have nown:∀c y,H c=aA (.own y)->c≠x:=λc y r z=>by subst z;rw[r]at mu;exact mu
 have ntup:∀c xs,H c=aA (.tup xs)->c≠x:=λc xs r z=>by subst z;rw[r]at mu;exact mu
 by_cases hb:b=x
 .subst hb;rw[gY]at q;cases q;exact new
 .rw[bW hb]at q;by_cases hbe:b=e
  .have q':H b=aA (.own x):=by
    rcases he with z|z
    .exact absurd (hbe.trans z) hb
    .rw[hbe];exact z
   rw[q]at q';cases q';obtain⟨v,hv⟩:=heo;exact⟨v,by rw[hbe];exact hv⟩
  .refine(ok b u q).mP (λc v hc r=>k c v ?_ r) (λc r=>by rw[bW (nown c b r)];exact r) λc xs r=>by rw[bW (ntup c xs r)];exact r
   rcases hc with rfl|hc
   .exact hbe
   .rintro rfl
    rcases he with z|z
    .exact nown c b hc z
    .rw[hc]at z;cases z;exact hb rfl
end
structure Un(fs ex:List Addr)(H H':Hp)(h h':aQ):Prop where
 keep:∀b o,h.get? b=aA o->H b=aD->b∉fs->b∉ex->h'.get? b=aA o
 slot:∀b o,h.get? b=aA o->H b=aD->b∈fs->b∉ex->∃sl,h'.get? b=aA { o with slots:=sl }
 free:∀b o,h.get? b=aA o->H b=aD->b∉ex->H' b=aD
 there:∀b o,h.get? b=aA o->b∉ex->∃o',h'.get? b=aA o'
 lT:∀b xs,H b=aA (.tup xs)->H' b=aA (.tup xs)
 kO:∀b o u,H b=aA (.dX o u)->H' b=aA (.dX o u)
 lR:∀b ps,H b=aA (.wI ps)->∃more,H' b=aA (.wI (ps++more))
section
variable {fs fs' ex ex':List Addr}{H H1 H2:Hp}{h h1 h2 h':aQ}{a x e:Addr}{o:HO}
theorem Un.any(u:Un fs ex H H1 h h1){b:Addr}{ob:Obj}(q:h.get? b=aA ob)(n:H b=aD)(hx:b∉ex):∃sl,h1.get? b=aA { ob with slots:=sl }:=by
 by_cases hb:b∈fs
 .exact u.slot b ob q n hb hx
 .exact⟨ob.slots,u.keep b ob q n hb hx⟩
theorem Un.kept(k:∀b u,h.get? b=aA u->h'.get? b=aA u):Un fs ex H H h h':=
 ⟨λb ob q _ _ _=>k b ob q,λb ob q _ _ _=>⟨ob.slots,k b ob q⟩,λ_ _ _ n _=>n,λb ob q _=>⟨ob,k b ob q⟩,λ_ _ q=>q,λ_ _ _ q=>q,λ_ ps q=>⟨#[],by rw[q];simp⟩⟩
theorem Un.refl:Un fs ex H H h h:=Un.kept λ_ _ q=>q
theorem Un.laid(k:∀b u,h.get? b=aA u->h'.get? b=aA u)(hp:h.objs.size<=a)(hn:H a=aD):Un fs ex H (aZ H a o) h h' where
 keep:=λb u q _ _ _=>k b u q
 slot:=λb u q _ _ _=>⟨u.slots,k b u q⟩
 free:=λb u q n _=>by rw[bW (bU (cP (cU q) hp))];exact n
 there:=λb u q _=>⟨u,k b u q⟩
 lT:=λb xs q=>by rw[bW (gW q hn)];exact q
 kO:=λb u xs q=>by rw[bW (gW q hn)];exact q
 lR:=λb ps q=>⟨#[],by rw[bW (gW q hn),q];simp⟩
theorem Un.write(mu:iz (H x))(he:e=x\/H e=aA (.own x))(k:∀b u,b≠e->h.get? b=aA u->h'.get? b=aA u)(heo:∃u,h'.get? e=aA u):Un fs ex H (aZ H x o) h h':=by
 have hx:∀b,H b=aD->b≠x:=λb n z=>by subst z;rw[n]at mu;exact mu
 have hb:∀b,H b=aD->b≠e:=λb n z=>by
  subst z;rcases he with r|r
  .exact hx b n r
  .rw[n]at r;cases r
 have hm:∀b u,H b=aA u->¬iz (aA u)->b≠x:=λb u q nm z=>by subst z;rw[q]at mu;exact nm mu
 refine⟨λb u q n _ _=>k b u (hb b n) q,λb u q n _ _=>⟨u.slots,k b u (hb b n) q⟩,λb u q n _=>by rw[bW (hx b n)];exact n,λb u q _=>?_,
  λb xs q=>by rw[bW (hm b _ q λz=>z)];exact q,λb u xs q=>by rw[bW (hm b _ q λz=>z)];exact q,λb ps q=>⟨#[],by rw[bW (hm b _ q λz=>z),q];simp⟩⟩
 by_cases hbe:b=e
 .subst hbe;exact heo
 .exact⟨u,k b u hbe q⟩
end
def zP(h:aQ)(H:Hp):List Addr:=(gL h.objs.size).filter λa=>(H a).isSome
def tM(h:aQ)(H:Hp):aQ:=mW h (zP h H)
theorem VD(h:aQ)(H:Hp):(tM h H).objs.size=h.objs.size:=W.hideAll_size _ _
theorem VC{h:aQ}{H:Hp}{b:Addr}{o:Obj}(e:h.get? b=aA o)(n:H b=aD):(tM h H).get? b=aA o:=
 Pc _ e λhm=>by have q:(H b).isSome=aB:=(List.mem_filter.mp hm).2;rw[n]at q;simp at q
theorem ZY{h:aQ}{H:Hp}{b:Addr}{o:Obj}(e:(tM h H).get? b=aA o):h.get? b=aA o/\H b=aD:=by
 have e':h.get? b=aA o:=Dy (zP h H) e;refine⟨e',?_⟩;cases q:H b with
 |none=>rfl|some x=>have hm:b∈zP h H:=List.mem_filter.mpr ⟨List.mem_range.mpr (cU e'),by simp[q]⟩;have z:(tM h H).get? b=aD:=Pd (zP h H) hm;rw[z]at e;cases e
structure Mod(K:aX)(mg:Str->Option Value)(base:aQ):Prop where
 kl:K.In base
 glob:base.Ns eJ mg
 blt:∃mb,base.Ns Pm mb/\∀x:Str,x≠"__name__"->mb x=pK x
 nolimit:base.NoLimit
structure Cx where
 prog:bG
 w:bD
 K:aX
 mg:Str->Option Value
 base:aQ
 A:bS
 N:List Str
 s₀:aG
 H₀:Hp
 env:Env
 outer:List Env
 stack:List Env
 ex:List Addr
 fn:Str->Bool
 calm:Bool
 pn:List (Addr×Obj)
 xe:Value->aG->Prop
def cN(l:List Env):List Addr:=l.filterMap (·.frame)
noncomputable abbrev Cx.fs(X:Cx):List Addr:=cN X.outer
def xV(sc:eU)(x:Str):Prop:=sc.names.lookup x=aA .local\/sc.names.lookup x=aA .cell\/sc.names.lookup x=aA .free
def oG(sc:eU)(x:Str):Prop:=sc.names.lookup x=aA .local\/sc.names.lookup x=aA .cell
def ML(env:Env)(h:aQ)(m:Str->Option Value)(x:Str)(u:Value):Prop:=
 (env.kindOf x=aA .local/\m x=aA u)\/((env.kindOf x=aA .cell\/env.kindOf x=aA .free)/\∃c,env.cells.lookup x=aA c/\h.IsCell c (aA u))
structure Cx.Ok(X:Cx):Prop where
 mod:Mod X.K X.mg X.base
 kind:X.env.scope.kind = .function
 glob:X.env.globals=eJ
 blt:X.env.builtins=Pm
 above:X.s₀.heap.objs.size<=X.env.locals
 inj:∀x y c,X.env.cells.lookup x=aA c->X.env.cells.lookup y=aA c->x=y
 has:∀x,(X.env.kindOf x=aA .cell\/X.env.kindOf x=aA .free)->∃c,X.env.cells.lookup x=aA c
 pP:∀x c,X.fn x=aB->X.env.cells.lookup x=aA c->X.s₀.heap.objs.size<=c
 hd:X.calm=aB->X.A.handled=aD
 frames:X.A.frames=aA X.stack
 gQ:X.stack=X.outer\/(X.stack=X.env::X.outer/\X.env.frame=aA X.env.locals)
 pT:∀b∈X.ex,b≠X.env.locals/\∀x c,X.env.cells.lookup x=aA c->c≠b
 bs:∀b o,X.base.get? b=aA o->X.s₀.heap.get? b=aA o/\X.H₀ b=aD
 lJ:X.base.objs.size<=X.s₀.heap.objs.size
 pW:∀b o,X.base.get? b=aA o->b∉X.ex
 oR:∀b∈X.ex,b∉X.fs
 jL:X.s₀.heap.FunFrames X.base X.outer
 nE:∀b∈X.fs,X.H₀ b=aD
structure Inv(X:Cx)(pins:List (Addr×Obj))(σ:List (Option V))(H:Hp)(s:aG):Prop where
 ok:X.Ok
 os:s.os=X.s₀.os
 bare:pA s.gens
 base:Un X.fs X.ex X.H₀ H X.s₀.heap s.heap
 loc:∃m,s.heap.Ns X.env.locals m/\∀(i:Nat) (x:Str) (v:V),X.N[i]?=aA x->σ[i]?=aA (aA v)->xV X.env.scope x->∃u,RelV v u/\ML X.env s.heap m x u
 cell:∀x c,X.env.cells.lookup x=aA c->∃v,s.heap.IsCell c v
 free:H X.env.locals=aD
 iW:∀x c,X.env.cells.lookup x=aA c->H c=aD
 pin:∀p∈X.pn++pins,s.heap.get? p.1=aA p.2/\H p.1=aD/\p.1≠X.env.locals/\p.1∉X.fs/\∀v,p.2.data ≠ .cell v
 aR:dW X.prog X.w H s.heap
 len:σ.length=X.N.length
section
variable {X:Cx}{pins:List (Addr×Obj)}{σ:List (Option V)}{H H':Hp}{s:aG}{h':aQ}
theorem Cx.Ok.ZS(ok:X.Ok){b:Addr}{o:Obj}(e:X.base.get? b=aA o):b∉X.fs:=λhb=>by have:=(ok.jL.mem hb).1;rw[e]at this;cases this
theorem Inv.bs(I:Inv X pins σ H s):∀b o,X.base.get? b=aA o->s.heap.get? b=aA o/\H b=aD:=λb o e=>
 ⟨I.base.keep b o (I.ok.bs b o e).1 (I.ok.bs b o e).2 (I.ok.ZS e) (I.ok.pW b o e),I.base.free b o (I.ok.bs b o e).1 (I.ok.bs b o e).2 (I.ok.pW b o e)⟩
theorem Inv.bk(I:Inv X pins σ H s):∀b o,X.base.get? b=aA o->s.heap.get? b=aA o:=λb o e=>(I.bs b o e).1
theorem Inv.mod(I:Inv X pins σ H s):Mod X.K X.mg X.base:=I.ok.mod
theorem Inv.fW(I:Inv X pins σ H s):X.K.In s.heap:=I.ok.mod.kl.keeps I.bk
theorem Inv.lt(I:Inv X pins σ H s):X.env.locals<s.heap.objs.size:=let ⟨_,hn,_⟩:=I.loc;hn.lt
theorem Inv.sz(I:Inv X pins σ H s):X.s₀.heap.objs.size<=s.heap.objs.size:=eN I.ok.above (Ds I.lt)
theorem Inv.Yf(I:Inv X pins σ H s){a:Addr}(h:s.heap.objs.size<=a):a∉X.fs:=λhb=>by obtain⟨_,o,ho,_⟩:=I.ok.jL.mem hb;exact absurd (cP (cU ho) (eN I.sz h)) (pI _)
theorem Inv.pR(I:Inv X pins σ H s):∀x c,X.env.cells.lookup x=aA c->c≠X.env.locals:=λx c e z=>by obtain⟨v,o,ho,hd⟩:=I.cell x c e;obtain⟨m,⟨o',es,ep,ho',hd',_⟩,_⟩:=I.loc;rw[z,ho']at ho;cases ho;rw[hd']at hd;cases hd
theorem Inv.jL(I:Inv X pins σ H s):s.heap.FunFrames X.base X.outer:=by
 have all:∀(l:List Env),(∀b∈cN l,b∈X.fs)->X.s₀.heap.FunFrames X.base l->s.heap.FunFrames X.base l:=by
  intro l;induction l with
  |nil=>intro _ _;trivial|cons env r ih=>intro hs hl;obtain⟨hk,⟨L,o,hf,hn,ho,hd⟩,hr⟩:=hl;have hL:L∈X.fs:=hs L (by unfold cN;rw[pD,hf];exact fU);obtain⟨sl,e⟩:=I.base.slot L o ho (I.ok.nE L hL) hL λz=>I.ok.oR L z hL;exact⟨hk,⟨L,_,hf,hn,e,hd⟩,ih (λb hb=>hs b (by unfold cN;rw[pD,hf];exact hV _ hb)) hr⟩
 exact all X.outer (λ_ hb=>hb) I.ok.jL
theorem Inv.stack(I:Inv X pins σ H s):s.heap.FunFrames X.base X.stack:=by
 rcases I.ok.gQ with e|⟨e,hf⟩
 .rw[e];exact I.jL
 .rw[e];obtain⟨m,hn,_⟩:=I.loc;refine .cons (by rw[I.ok.kind];decide) hf hn ?_ I.jL;exact Nl (eN I.ok.lJ I.ok.above)
theorem Inv.fk(I:Inv X pins σ H s):∀b∈cN X.stack,b∈X.env.locals::X.fs:=λb hb=>by
 rcases I.ok.gQ with e|⟨e,hf⟩
 .rw[e]at hb;exact hV _ hb
 .rw[e]at hb;unfold cN at hb;rw[pD,hf]at hb;exact hb
theorem Inv.zM(I:Inv X pins σ H s):∀b∈cN X.stack,H b=aD:=λb hb=>by
 rcases List.mem_cons.mp (I.fk b hb)with e|hb
 .rw[e];exact I.free
 .obtain⟨_,o,ho,_⟩:=I.ok.jL.mem hb;exact I.base.free b o ho (I.ok.nE b hb) λz=>I.ok.oR b z hb
theorem Inv.step{g':Array Cu}{t':Nat}{d':Drawn}{ch:List Addr}(I:Inv X pins σ H s)
  (hch:∀b∈ch,(b∈X.ex\/X.s₀.heap.objs.size<=b)/\b≠X.env.locals/\(∀x c,X.env.cells.lookup x=aA c->c≠b)/\∀p∈X.pn++pins,p.1≠b)
  (keep:∀b o,b≠X.env.locals->b∉X.fs->b∉ch->s.heap.get? b=aA o->H b=aD->h'.get? b=aA o)
  (slot:∀b o,b≠X.env.locals->b∈X.fs->b∉ch->s.heap.get? b=aA o->H b=aD->∃sl,h'.get? b=aA { o with slots:=sl }) (free:∀b o,b∉ch->s.heap.get? b=aA o->H b=aD->H' b=aD)
  (there:∀b o,b∉ch->s.heap.get? b=aA o->∃o',h'.get? b=aA o')
  (lT:∀b xs,H b=aA (.tup xs)->H' b=aA (.tup xs)) (kO:∀b o u,H b=aA (.dX o u)->H' b=aA (.dX o u)) (lR:∀b ps,H b=aA (.wI ps)->∃more,H' b=aA (.wI (ps++more)))
  (ns:∀m,s.heap.Ns X.env.locals m->h'.Ns X.env.locals m) (aR:dW X.prog X.w H' h') (hg:pA g') :
  Inv X pins σ H' { s with heap:=h',gens:=g',drawn:=d',toks:=t' }:=by
 have neL:∀b o,X.s₀.heap.get? b=aA o->b≠X.env.locals:=λb o e=>bU (cP (cU e) I.ok.above);have neC:∀b o,X.s₀.heap.get? b=aA o->b∉X.ex->b∉ch:=λb o e hx hb=>by
  rcases(hch b hb).1 with z|z
  .exact hx z
  .exact absurd (cP (cU e) z) (pI _)
 have cellK:∀x c,X.env.cells.lookup x=aA c->∀v,s.heap.IsCell c v->h'.IsCell c v:=λx c e v ⟨o,ho,hd⟩=>by
  have nch:c∉ch:=λz=>(hch c z).2.2.1 x c e rfl;by_cases hc:c∈X.fs
  .obtain⟨sl,q⟩:=slot c o (I.pR x c e) hc nch ho (I.iW x c e);exact⟨_,q,hd⟩
  .exact⟨o,keep c o (I.pR x c e) hc nch ho (I.iW x c e),hd⟩
 refine⟨I.ok,I.os,hg,⟨λb o e n hb hx=>?_,λb o e n hb hx=>?_,λb o e n hx=>?_,λb o e hx=>?_,λb xs e=>lT b xs (I.base.lT b xs e),λb o xs e=>kO b o xs (I.base.kO b o xs e),λb ps e=>?_⟩,?_,λx c e=>?_,?_,λx c e=>?_,λp hp=>?_,aR,I.len⟩
 .exact keep b o (neL b o e) hb (neC b o e hx) (I.base.keep b o e n hb hx) (I.base.free b o e n hx)
 .obtain⟨sl,e1⟩:=I.base.slot b o e n hb hx;obtain⟨sl',e2⟩:=slot b _ (neL b o e) hb (neC b o e hx) e1 (I.base.free b o e n hx);exact⟨sl',e2⟩
 .obtain⟨o',e1⟩:=I.base.there b o e hx;exact free b o' (neC b o e hx) e1 (I.base.free b o e n hx)
 .obtain⟨o',e1⟩:=I.base.there b o e hx;exact there b o' (neC b o e hx) e1
 .obtain⟨m1,e1⟩:=I.base.lR b ps e;obtain⟨m2,e2⟩:=lR b _ e1;exact⟨m1++m2,by rw[e2,GR]⟩
 .obtain⟨m,hn,hl⟩:=I.loc;refine⟨m,ns m hn,λi x v e1 e2 e3=>?_⟩;obtain⟨u,r,l⟩:=hl i x v e1 e2 e3;refine⟨u,r,?_⟩;rcases l with l|⟨k,c,e,z⟩
  .exact .inl l
  .exact .inr ⟨k,c,e,cellK x c e _ z⟩
 .obtain⟨v,z⟩:=I.cell x c e;exact⟨v,cellK x c e v z⟩
 .obtain⟨m,⟨o,_,_,ho,_⟩,_⟩:=I.loc;exact free _ o (λz=>(hch _ z).2.1 rfl) ho I.free
 .obtain⟨v,o,ho,hd⟩:=I.cell x c e;exact free c o (λz=>(hch c z).2.2.1 x c e rfl) ho (I.iW x c e)
 .obtain⟨e,n,ne,nf,d⟩:=I.pin p hp;have nch:p.1∉ch:=λz=>(hch p.1 z).2.2.2 p hp rfl;exact⟨keep p.1 p.2 ne nf nch e n,free p.1 p.2 nch e n,ne,nf,d⟩
theorem Inv.un{t':Nat}(I:Inv X pins σ H s)(u:Un X.fs [] H H' s.heap h')(aR:dW X.prog X.w H' h'):Inv X pins σ H' { s with heap:=h',toks:=t' }:=by
 obtain⟨m,⟨o,es,ep,ho,r⟩,_⟩:=id I.loc;obtain⟨sl,hL⟩:=u.any ho I.free (by simp);exact I.step (g':=s.gens) (d':=s.drawn) (ch:=[]) (λ_ z=>nomatch z) (λb o _ hb _ e n=>u.keep b o e n hb (by simp)) (λb o _ hb _ e n=>u.slot b o e n hb (by simp)) (λb o _ e n=>u.free b o e n (by simp)) (λb o _ e=>u.there b o e (by simp)) u.lT u.kO u.lR (λm' hm=>by obtain⟨o',es',ep',ho',r'⟩:=hm;rw[ho]at ho';cases ho';exact⟨_,es',ep',hL,r'⟩) aR I.bare
theorem Inv.call{g':Array Cu}{t':Nat}{d':Drawn}{ch:List Addr}(I:Inv X pins σ H s)(u:Un (cN X.stack) ch H H' s.heap h')(aR:dW X.prog X.w H' h')(hg:pA g')
  (hch:∀b∈ch,(b∈X.ex\/X.s₀.heap.objs.size<=b)/\b≠X.env.locals/\(∀x c,X.env.cells.lookup x=aA c->c≠b)/\∀p∈X.pn++pins,p.1≠b) :
  Inv X pins σ H' { s with heap:=h',gens:=g',drawn:=d',toks:=t' }:=by
 obtain⟨m,⟨o,es,ep,ho,r⟩,_⟩:=id I.loc;obtain⟨sl,hL⟩:=u.any ho I.free λz=>(hch _ z).2.1 rfl;exact I.step (ch:=ch) hch (λb o hL hb hc e n=>u.keep b o e n (λz=>(List.mem_cons.mp (I.fk b z)).elim hL hb) hc) (λb o _ _ hc e n=>u.any e n hc) (λb o hc e n=>u.free b o e n hc) (λb o hc e=>u.there b o e hc) u.lT u.kO u.lR (λm' hm=>by obtain⟨o',es',ep',ho',r'⟩:=hm;rw[ho]at ho';cases ho';exact⟨_,es',ep',hL,r'⟩) aR hg
theorem Inv.turned{t':Nat}{it:Addr}(I:Inv X pins σ H s)(k:∀b o,b≠it->s.heap.get? b=aA o->h'.get? b=aA o)(hn:H it=aD)(hL:it≠X.env.locals)
  (h1:it∈X.ex\/X.s₀.heap.objs.size<=it) (h2:∀x c,X.env.cells.lookup x=aA c->c≠it) (h3:∀p∈X.pn++pins,p.1≠it):Inv X pins σ H { s with heap:=h',toks:=t' }:=by
 have nit:∀b u,H b=aA u->b≠it:=λb u e z=>by rw[z,hn]at e;cases e
 refine I.step (g':=s.gens) (d':=s.drawn) (ch:=[it]) (λb hb=>?_) (λb o _ _ hc e _=>k b o (λz=>hc (by simp[z])) e) (λb o _ _ hc e _=>⟨o.slots,k b o (λz=>hc (by simp[z])) e⟩) (λ_ _ _ _ n=>n)
  (λb o hc e=>⟨o,k b o (λz=>hc (by simp[z])) e⟩) (λ_ _ e=>e) (λ_ _ _ e=>e) (λb ps e=>⟨#[],by rw[e];simp⟩) (λm hm=>?_) (λb u e=>?_) I.bare
 .have e:b=it:=by simpa using hb
  subst e;exact⟨h1,hL,h2,h3⟩
 .obtain⟨o,es,ep,ho,r⟩:=hm;exact⟨o,es,ep,k _ o (kE hL) ho,r⟩
 .refine(I.aR b u e).mP (λc v hc q=>k c v ?_ q) (λ_ q=>q) λ_ _ q=>q;rcases hc with z|z
  .rw[z];exact nit b u e
  .exact nit c _ z
theorem Inv.tok(I:Inv X pins σ H s)(t:Nat):Inv X pins σ H { s with toks:=t }:=I.un (h':=s.heap) (t':=t) Un.refl I.aR
theorem Inv.kept{t':Nat}(I:Inv X pins σ H s)(k:∀b u,s.heap.get? b=aA u->h'.get? b=aA u):Inv X pins σ H { s with heap:=h',toks:=t' }:=I.un (Un.kept k) (I.aR.kept k)
theorem Inv.laid{a:Addr}{o:HO}{t':Nat}(I:Inv X pins σ H s)(k:∀b u,s.heap.get? b=aA u->h'.get? b=aA u)(hp:s.heap.objs.size<=a)(new:eZ X.prog X.w (aZ H a o) h' a o) :
 Inv X pins σ (aZ H a o) { s with heap:=h',toks:=t' }:=I.un (Un.laid k hp (I.aR.fresh hp)) (I.aR.laid k hp new)
theorem Inv.write{x e:Addr}{o:HO}{t':Nat}(I:Inv X pins σ H s)(mu:iz (H x))(he:e=x\/H e=aA (.own x))(k:∀b u,b≠e->s.heap.get? b=aA u->h'.get? b=aA u)(heo:∃u,h'.get? e=aA u)
 (new:eZ X.prog X.w (aZ H x o) h' x o):Inv X pins σ (aZ H x o) { s with heap:=h',toks:=t' }:=I.un (Un.write mu he k heo) (I.aR.write mu he k heo new)
theorem Inv.ef{pins':List (Addr×Obj)}(I:Inv X pins σ H s)(h:∀p∈pins',s.heap.get? p.1=aA p.2/\H p.1=aD/\p.1≠X.env.locals/\p.1∉X.fs/\∀v,p.2.data ≠ .cell v):Inv X pins' σ H s:=
 ⟨I.ok,I.os,I.bare,I.base,I.loc,I.cell,I.free,I.iW,λp hp=>(List.mem_append.mp hp).elim (λz=>I.pin p (gx _ z)) (h p),I.aR,I.len⟩
theorem Jk{N:List Str}(hN:N.Nodup){i j:Nat}{x:Str}(a:N[i]?=aA x)(b:N[j]?=aA x):i=j:=by obtain⟨h1,e1⟩:=List.getElem?_eq_some_iff.mp a;obtain⟨h2,e2⟩:=List.getElem?_eq_some_iff.mp b;exact(List.getElem_inj hN).mp (e1.trans e2.symm)
theorem aBu{M:jH}{A:bS}{E:Value->aG->Prop}{i:Nat}{x:Str}{v:V}{u:Value}{Q:Unit->aG->Prop}(I:Inv X pins σ H s)(hN:X.N.Nodup)(hi:X.N[i]?=aA x)(hx:oG X.env.scope x)(r:RelV v u)
  (h:∀s',Inv X pins (σ.set i (aA v)) H s'->(∃a,zX a s.heap s'.heap/\(a=X.env.locals\/X.env.cells.lookup x=aA a))->Q () s') (hf:X.fn x=aB\/X.env.scope.names.lookup x=aA .local:=by first|exact .inl rfl|exact .inr rfl|assumption):aO M A (Py X.env x u) Q E s:=by
 obtain⟨m,hn,hl⟩:=id I.loc;have jz:(X.env.scope.kind == .class||(X.env.scope.kind == .module&&X.env.locals != X.env.globals))=aF:=by rw[I.ok.kind];rfl
 have hiσ:i<σ.length:=by rw[I.len];exact(List.getElem?_eq_some_iff.mp hi).1
 have pR:=I.pR;have tracked:∀{a:Addr} {h':aQ},(∃o,s.heap.get? a=aA o/\H a=aD)->zX a s.heap h'->dW X.prog X.w H h':=λ{a h'} ha hs b ob e=>by
  obtain⟨_,_,kf⟩:=ha;refine(I.aR b ob e).mP (λc w' hc q=>(hs.2 c ?_).trans q) (λ_ q=>q) λ_ _ q=>q;rintro rfl
  rcases hc with rfl|hc
  .rw[kf]at e;cases e
  .rw[kf]at hc;cases hc
 rcases hx with hk|hk
 .refine wpAny_storeName_local hk hn (λh' hn' hs=>?_) jz;obtain⟨oL,_,_,hoL,_⟩:=id hn;refine h _ ⟨I.ok,I.os,I.bare,⟨λb o e n hb hx=>?_,λb o e n hb hx=>?_,I.base.free,λb o e hx=>?_,I.base.lT,I.base.kO,I.base.lR⟩,⟨_,hn',λj y v' e1 e2 e3=>?_⟩,λy c e=>?_,I.free,I.iW,λp hp=>?_,tracked ⟨oL,hoL,I.free⟩ hs,by simpa using I.len⟩ ⟨_,hs,.inl rfl⟩
  .exact(hs.2 b (bU (cP (cU e) I.ok.above))).trans (I.base.keep b o e n hb hx)
  .obtain⟨sl,e1⟩:=I.base.slot b o e n hb hx;exact⟨sl,(hs.2 b (bU (cP (cU e) I.ok.above))).trans e1⟩
  .obtain⟨o',e1⟩:=I.base.there b o e hx;exact⟨o',(hs.2 b (bU (cP (cU e) I.ok.above))).trans e1⟩
  .by_cases hj:j=i
   .subst hj;rw[hi]at e1;cases e1;rw[gu hiσ]at e2;cases e2;exact⟨u,r,.inl ⟨hk,by simp⟩⟩
   .rw[gr (kE hj)]at e2;obtain⟨u',r',q⟩:=hl j y v' e1 e2 e3;refine⟨u',r',?_⟩;rcases q with⟨k,e⟩|⟨k,c,e,z⟩
    .refine .inl ⟨k,?_⟩;have:y≠x:=λe=>hj (Jk hN e1 (e▸hi));simp[this,e]
    .exact .inr ⟨k,c,e,z.sameBut hs (pR y c e)⟩
  .obtain⟨w',z⟩:=I.cell y c e;exact⟨w',z.sameBut hs (pR y c e)⟩
  .obtain⟨e,n,ne,nf,d⟩:=I.pin p hp;exact⟨(hs.2 p.1 ne).trans e,n,ne,nf,d⟩
 .have hfn:X.fn x=aB:=by
   rcases hf with z|z
   .exact z
   .rw[z]at hk;cases hk
  obtain⟨c,hc⟩:=I.ok.has x (.inl hk);obtain⟨w',z⟩:=I.cell x c hc;refine wpAny_storeName_cell I.ok.kind hk hc z (λh' hc' hs=>?_);obtain⟨oc,hoc,VL⟩:=id z;refine h { s with heap:=h' } ⟨I.ok,I.os,I.bare,⟨λb o e n hb hx=>?_,λb o e n hb hx=>?_,I.base.free,λb o e hx=>?_,I.base.lT,I.base.kO,I.base.lR⟩,⟨m,hn.sameBut hs (kE (pR x c hc)),λj y v' e1 e2 e3=>?_⟩,λy c' e=>?_,I.free,I.iW,λp hp=>?_,tracked ⟨oc,hoc,I.iW x c hc⟩ hs,by simpa using I.len⟩ ⟨c,hs,.inr hc⟩
  .exact(hs.2 b (bU (cP (cU e) (I.ok.pP x c hfn hc)))).trans (I.base.keep b o e n hb hx)
  .obtain⟨sl,e1⟩:=I.base.slot b o e n hb hx;exact⟨sl,(hs.2 b (bU (cP (cU e) (I.ok.pP x c hfn hc)))).trans e1⟩
  .obtain⟨o',e1⟩:=I.base.there b o e hx;exact⟨o',(hs.2 b (bU (cP (cU e) (I.ok.pP x c hfn hc)))).trans e1⟩
  .by_cases hj:j=i
   .subst hj;rw[hi]at e1;cases e1;rw[gu hiσ]at e2;cases e2;exact⟨u,r,.inr ⟨.inl hk,c,hc,hc'⟩⟩
   .rw[gr (kE hj)]at e2;obtain⟨u',r',q⟩:=hl j y v' e1 e2 e3;refine⟨u',r',?_⟩;rcases q with q|⟨k,c',e,z'⟩
    .exact .inl q
    .refine .inr ⟨k,c',e,z'.sameBut hs ?_⟩;rintro rfl
     exact hj (Jk hN e1 (I.ok.inj _ _ _ e hc▸hi))
  .by_cases hcc:c'=c
   .subst hcc;exact⟨_,hc'⟩
   .obtain⟨w2,z2⟩:=I.cell y c' e;exact⟨w2,z2.sameBut hs hcc⟩
  .obtain⟨e,n,ne,nf,d⟩:=I.pin p hp;refine⟨(hs.2 p.1 ?_).trans e,n,ne,nf,d⟩;intro q;rw[q,hoc]at e;have q':oc=p.2:=dB e;exact d w' (by rw[<- q'];exact VL)
theorem qj{M:jH}{A:bS}{E:Value->aG->Prop}{i:Nat}{x:Str}{v:V}{u:Value}{Q:Unit->aG->Prop}(I:Inv X pins σ H s)(hN:X.N.Nodup)(hi:X.N[i]?=aA x)(hx:oG X.env.scope x)(r:RelV v u)
  (h:∀s',Inv X pins (σ.set i (aA v)) H s'->Q () s') (hf:X.fn x=aB\/X.env.scope.names.lookup x=aA .local:=by first|exact .inl rfl|exact .inr rfl|assumption):aO M A (Py X.env x u) Q E s:=
 aBu I hN hi hx r (λs' I' _=>h s' I') hf
theorem Inv.Gn{s':aG}{ch:List Addr}(I:Inv X pins σ H s)(ho:s'.os=s.os)(u:Un (cN X.stack) ch H H' s.heap s'.heap)(aR:dW X.prog X.w H' s'.heap)(hg:pA s'.gens)
  (hch:∀b∈ch,(b∈X.ex\/X.s₀.heap.objs.size<=b)/\b≠X.env.locals/\(∀x c,X.env.cells.lookup x=aA c->c≠b)/\∀p∈X.pn++pins,p.1≠b):Inv X pins σ H' s':=by
 obtain⟨h',g',d',t',o'⟩:=s';have e:o'=s.os:=ho;subst e;exact I.call (g':=g') (t':=t') (d':=d') u aR hg hch
end
abbrev XK:=Value->Option Addr->Hp->Prop
abbrev St:=List (Option V)
abbrev VK:=V->Hp->Prop
abbrev TE:=St->Hp->VK->Prop
abbrev TT:=St->Hp->(Bool->Hp->Prop)->Prop
abbrev TA:=St->Hp->(List V->Hp->Prop)->Prop
structure Ends where
 nx:St->Hp->Prop
 rt:VK
 bk:St->Hp->Prop:=λ_ _=>False
 ct:St->Hp->Prop:=λ_ _=>False
abbrev TS:=Ends->St->Hp->Prop
def EP(X:Cx)(pins:List (Addr×Obj))(σ:St)(Q:VK)(u:Value)(s':aG):Prop:=∃v H',Inv X pins σ H' s'/\RelV v u/\Q v H'
def TP(X:Cx)(pins:List (Addr×Obj))(σ:St)(Q:Bool->Hp->Prop)(b:Bool)(s':aG):Prop:=∃H',Inv X pins σ H' s'/\Q b H'
def AP(X:Cx)(pins:List (Addr×Obj))(σ:St)(Q:List V->Hp->Prop)(us:List Value)(s':aG):Prop:=∃vs H',Inv X pins σ H' s'/\Vals vs us/\Q vs H'
def SP(X:Cx)(pins:List (Addr×Obj))(D:Ends)(f:Flow)(s':aG):Prop:=
 match f with
 |.next=>∃σ' H',Inv X pins σ' H' s'/\D.nx σ' H'
 |.brk=>∃σ' H',Inv X pins σ' H' s'/\D.bk σ' H'
 |.cont=>∃σ' H',Inv X pins σ' H' s'/\D.ct σ' H'
 |.ret u=>∃v σ' H',Inv X pins σ' H' s'/\RelV v u/\D.rt v H'
def PE(X:Cx)(e:aJ)(t:TE):Prop:=
 ∀(pins:List (Addr×Obj)) (s:aG) (σ:St) (H:Hp) (Q:VK),Inv X pins σ H s->t σ H Q->aO (aS X.prog X.w) X.A (eval e X.env) (EP X pins σ Q) X.xe s
def PT(X:Cx)(e:aJ)(t:TT):Prop:=
 ∀(pins:List (Addr×Obj)) (s:aG) (σ:St) (H:Hp) (Q:Bool->Hp->Prop),Inv X pins σ H s->t σ H Q->aO (aS X.prog X.w) X.A (isTrue e X.env (eval e X.env)) (TP X pins σ Q) X.xe s
def PW(X:Cx)(e:aJ)(t:TT):Prop:=
 ∀(whole:Sem Value) (pins:List (Addr×Obj)) (s:aG) (σ:St) (H:Hp) (Q:Bool->Hp->Prop),Inv X pins σ H s->t σ H Q->aO (aS X.prog X.w) X.A (isTrue e X.env whole) (TP X pins σ Q) X.xe s
theorem PW.pt{X:Cx}{e:aJ}{t:TT}(h:PW X e t):PT X e t:=h _
def PA(X:Cx)(es:List aJ)(t:TA):Prop:=
 ∀(pos:Pos) (pins:List (Addr×Obj)) (s:aG) (σ:St) (H:Hp) (Q:List V->Hp->Prop),Inv X pins σ H s->t σ H Q->aO (aS X.prog X.w) X.A (spliced (nZ pos (eY es X.env))) (AP X pins σ Q) X.xe s
def PS(X:Cx)(st:Stmt)(t:TS):Prop:=
 ∀(pins:List (Addr×Obj)) (s:aG) (σ:St) (H:Hp) (D:Ends),Inv X pins σ H s->t D σ H->aO (aS X.prog X.w) X.A (exec st X.env) (SP X pins D) X.xe s
def oH(X:Cx)(st:List Stmt)(t:TS):Prop:=
 ∀(pins:List (Addr×Obj)) (s:aG) (σ:St) (H:Hp) (D:Ends),Inv X pins σ H s->t D σ H->aO (aS X.prog X.w) X.A (execs st X.env) (SP X pins D) X.xe s
theorem bM{α:Type}{t:Sem α}{Q Q':α->aG->Prop}{M:jH}{A:bS}{E:Value->aG->Prop}{s:aG}(h:aO M A t Q E s)(hQ:∀a s,Q a s->Q' a s):aO M A t Q' E s:=kH h hQ λ_ _ x=>x
section
variable {X:Cx}
def aDh(i:Nat):TE:=λσ H Q=>∃v,σ[i]?=aA (aA v)/\Q v H
def tC(v:V):TE:=λ_ H Q=>Q v H
theorem Jt{i:Nat}{x:Str}{pos:Pos} (hN:X.N[i]?=aA x) (hv:xV X.env.scope x) (hd:(x==("__debug__":Str))=aF:=by decide) (hcd:(x==("__classdict__":Str))=aF:=by decide):PE X (.Name x pos) (aDh i):=by
 intro pins s σ H Q I h;obtain⟨v,e,h⟩:=h;obtain⟨m,hn,hl⟩:=I.loc;obtain⟨u,r,l⟩:=hl i x v hN e hv;have fin:EP X pins σ Q u s:=⟨v,H,I,r,h⟩;rcases l with⟨hk,hm⟩|⟨hk,c,hc,xu⟩
 .exact Qc (LZ I.ok.kind hk hn hm fin) hd
 .rcases hk with hk|hk
  .exact Qc (LX I.ok.kind hk hc xu fin) hd
  .exact Qc (wpAny_loadName_free I.ok.kind hk hc xu fin hcd) hd
theorem Jr{i j pos}:PE X (.Constant (.int i) j pos) (tC (.int i)):=λ_ _ _ H _ I h=>wpAny_Constant_int ⟨.int i,H,I.tok _,⟨_,rfl⟩,h⟩
theorem Jq{b j pos}:PE X (.Constant (.bool b) j pos) (tC (.bl b)):=λ_ _ _ H _ I h=>Constant_bool ⟨.bl b,H,I,rfl,h⟩
theorem Js{j pos}:PE X (.Constant .none j pos) (tC .aK):=λ_ _ _ H _ I h=>Constant_none ⟨.aK,H,I,rfl,h⟩
theorem yw{x j pos}:PE X (.Constant (.str x) j pos) (tC (.str x)):=λ_ _ _ H _ I h=>Calls.Constant_str ⟨.str x,H,I.tok _,⟨_,rfl⟩,h⟩
def Gl(X:Cx)(x:Str):Prop:=X.env.kindOf x=aA .globalImplicit
theorem da{E:Value->aG->Prop}{pins:List (Addr×Obj)}{s:aG}{σ:St}{H:Hp}{x:Str}{u:Value}{pos:Pos}{Q:Value->aG->Prop}(I:Inv X pins σ H s)(hg:Gl X x)(hm:X.mg x=aA u)(h:Q u s)
  (hd:(x==("__debug__":Str))=aF:=by decide):aO (aS X.prog X.w) X.A (eval (.Name x pos) X.env) Q E s:=
 HH I.ok.kind hg (Calls.loadGlobal_global (by rw[I.ok.glob];exact I.mod.glob.keeps I.bk) hm h) hd
theorem cz{E:Value->aG->Prop}{pins:List (Addr×Obj)}{s:aG}{σ:St}{H:Hp}{x:Str}{u:Value}{pos:Pos}{Q:Value->aG->Prop}(I:Inv X pins σ H s)(hg:Gl X x)(hm:X.mg x=aD)(hv:pK x=aA u)(h:Q u s)
  (hn:x≠"__name__":=by decide) (hd:(x==("__debug__":Str))=aF:=by decide):aO (aS X.prog X.w) X.A (eval (.Name x pos) X.env) Q E s:=by
 obtain⟨mb,h1,h2⟩:=I.mod.blt;exact HH I.ok.kind hg (Calls.loadGlobal_builtin (by rw[I.ok.glob];exact I.mod.glob.keeps I.bk) hm (by rw[I.ok.blt];exact h1.keeps I.bk) ((h2 x hn).trans hv) h) hd
theorem ee{x:Str}{v:V}{u:Value}{pos:Pos} (hg:Gl X x) (hm:X.mg x=aA u) (r:RelV v u) (hd:(x==("__debug__":Str))=aF:=by decide):PE X (.Name x pos) (tC v):=
 λ_ _ _ H _ I h=>da I hg hm ⟨v,H,I,r,h⟩ hd
theorem Yz{x:Str}{v:V}{u:Value}{pos:Pos} (hg:Gl X x) (hm:X.mg x=aD) (hv:pK x=aA u) (r:RelV v u) (hn:x≠"__name__":=by decide) (hd:(x==("__debug__":Str))=aF:=by decide):PE X (.Name x pos) (tC v):=
 λ_ _ _ H _ I h=>cz I hg hm hv ⟨v,H,I,r,h⟩ hn hd
variable {a b:aJ}{ta tb:TE}{pos:Pos}
variable {tA tB':TT}{rest:List aJ}
def aCl(t u:TT):TT:=λσ H Q=>t σ H λc H1=>if c=aB then u σ H1 Q else Q aF H1
def tOr(t u:TT):TT:=λσ H Q=>t σ H λc H1=>if c=aB then Q aB H1 else u σ H1 Q
def aCy(t:TT):TT:=λσ H Q=>t σ H λc H1=>Q (!c) H1
theorem E4(ha:PT X a tA):PW X (.BoolOp .And [a] pos) tA:=by
 intro wh pins s σ H Q I h;refine isTrue_and (bM (ha pins s σ H Q I h) λc s1 e=>?_);cases c with
 |true=>exact isTrue_and_nil e|false=>exact e
theorem E6(ha:PT X a tA):PW X (.BoolOp .Or [a] pos) tA:=by
 intro wh pins s σ H Q I h;refine isTrue_or (bM (ha pins s σ H Q I h) λc s1 e=>?_);cases c with
 |false=>exact isTrue_or_nil e|true=>exact e
theorem E3(ha:PT X a tA)(hb:PW X (.BoolOp .And (b::rest) pos) tB'):PW X (.BoolOp .And (a::b::rest) pos) (aCl tA tB'):=by
 intro wh pins s σ H Q I h;refine isTrue_and (bM (ha pins s σ H _ I h) λc s1 ⟨H1,I1,q1⟩=>?_);cases c with
 |true=>exact hb wh pins s1 σ H1 Q I1 q1|false=>exact⟨H1,I1,q1⟩
theorem E5(ha:PT X a tA)(hb:PW X (.BoolOp .Or (b::rest) pos) tB'):PW X (.BoolOp .Or (a::b::rest) pos) (tOr tA tB'):=by
 intro wh pins s σ H Q I h;refine isTrue_or (bM (ha pins s σ H _ I h) λc s1 ⟨H1,I1,q1⟩=>?_);cases c with
 |true=>exact⟨H1,I1,q1⟩|false=>exact hb wh pins s1 σ H1 Q I1 q1
theorem D7(ha:PT X a tA):PT X (.UnaryOp .Not a pos) (aCy tA):=by intro pins s σ H Q I h;exact isTrue_not (ha pins s σ H (λc H1=>Q (!c) H1) I h)
theorem y8{op}{t:TE}(h:PE X a t):PE X (.BoolOp op [a] pos) t:=λpins s σ H Q I hw=>BoolOp_one (h pins s σ H Q I hw)
def tIf(t:TT)(ta tb:TE):TE:=λσ H Q=>t σ H λc H1=>if c=aB then ta σ H1 Q else tb σ H1 Q
theorem x9{c:aJ}(hc:PT X c tA)(ha:PE X a ta)(hb:PE X b tb):PE X (.IfExp c a b pos) (tIf tA ta tb):=by
 intro pins s σ H Q I h;refine wpAny_IfExp (bM (hc pins s σ H _ I h) λd s1 ⟨H1,I1,q1⟩=>?_);cases d with
 |true=>exact ha pins s1 σ H1 Q I1 q1|false=>exact hb pins s1 σ H1 Q I1 q1
end
def cW(K:aX)(H:Hp)(a:Addr)(xs:List V):Prop:=
 Rd H a (.lst xs) \/
  ∃(o:Obj) (its:Array Value) (n:Nat),K.lookup a=aA o/\o.cls = .type "list"/\o.dict=aD/\o.data = .seq its n/\its.size<=sizeLine/\Vals xs its.toList
def dE(K:aX)(H:Hp)(a:Addr)(xs:List V):Prop:=
 Rd H a (.tup xs) \/
  ∃(o:Obj) (its:Array Value) (n:Nat),K.lookup a=aA o/\o.cls = .type "tuple"/\o.data = .seq its n/\its.size<=sizeLine/\Vals xs its.toList
def MO:Value->Option V
 |.none=>aA .aK
 |.bool b=>aA (.bl b)
 |.int i _=>aA (.int i)
 |.str x _=>aA (.str x)
 |.bytes b _=>aA (.mC b)
 |.float b _=>aA (.xh b)
 |.ref a=>aA (.ref a)
 |.type n=>aA (.ty n)
 |_=>aD
theorem RelV.abs{x:V}{u:Value}(r:RelV x u):MO u=aA x:=by
 cases x with
 |aK=>cases r;rfl|bl _=>cases r;rfl|int _=>obtain⟨t,rfl⟩:=r;rfl|str _=>obtain⟨t,rfl⟩:=r;rfl|mC _=>obtain⟨t,rfl⟩:=r;rfl|xh _=>obtain⟨t,rfl⟩:=r;rfl|ref _=>cases r;rfl|ty _=>cases r;rfl
theorem RelV.inj{x y:V}{u:Value}(r:RelV x u)(q:RelV y u):x=y:=dB (r.abs.symm.trans q.abs)
theorem Vals.inj:∀{xs ys:List V}{us:List Value},Vals xs us->Vals ys us->xs=ys
 |_,_,_,.nil,.nil=>rfl|_,_,_,.cons r t,.cons r' t'=>by rw[r.inj r',Vals.inj t t']
section
variable {X:Cx}{pins:List (Addr×Obj)}{σ:St}{H:Hp}{s:aG}{a:Addr}{xs ys:List V}
theorem cW.of{K:aX}(h:H a=aA (.lst xs)):cW K H a xs:=.inl (.inl h)
theorem dE.of{K:aX}(h:H a=aA (.tup xs)):dE K H a xs:=.inl (.inl h)
theorem Inv.list(I:Inv X pins σ H s)(h:cW X.K H a xs):∃its:List Value,Vals xs its/\PlainL s.heap a its.toArray/\xs.length<=sizeLine:=by
 rcases h with h|⟨o,its,n,hk,hc,hd,hs,hz,r⟩
 .obtain⟨z,its,n,r,e⟩:=h.ok I.aR;exact⟨its,r,⟨_,n,e,rfl,rfl,rfl⟩,z⟩
 .refine⟨its.toList,r,⟨o,n,I.fW a o hk,hc,hd,by simpa using hs⟩,?_⟩;have e:=r.length;simp only[Cj]at e;omega
theorem Inv.tuple(I:Inv X pins σ H s)(h:dE X.K H a xs):∃its:List Value,Vals xs its/\IsTup s.heap a its.toArray/\xs.length<=sizeLine:=by
 rcases h with h|⟨o,its,n,hk,hc,hs,hz,r⟩
 .obtain⟨z,its,r,p⟩:=h.ok I.aR;exact⟨its,r,p,z⟩
 .refine⟨its.toList,r,⟨o,I.fW a o hk,hc,n,by simpa using hs⟩,?_⟩;have e:=r.length;simp only[Cj]at e;omega
theorem Inv.Iy(I:Inv X pins σ H s)(h:cW X.K H a xs)(h':cW X.K H a ys):xs=ys:=by
 obtain⟨its,r,⟨o,n,e,_,_,d⟩,_⟩:=I.list h;obtain⟨its',r',⟨o',n',e',_,_,d'⟩,_⟩:=I.list h';rw[e]at e';cases e';rw[d]at d';injection d' with d1 _;have:its=its':=by simpa using congrArg GW d1
 subst this;exact r.inj r'
theorem Inv.EK(I:Inv X pins σ H s)(h:dE X.K H a xs)(h':dE X.K H a ys):xs=ys:=by
 obtain⟨its,r,⟨o,e,_,n,d⟩,_⟩:=I.tuple h;obtain⟨its',r',⟨o',e',_,n',d'⟩,_⟩:=I.tuple h';rw[e]at e';cases e';rw[d]at d';injection d' with d1 _;have:its=its':=by simpa using congrArg GW d1
 subst this;exact r.inj r'
end
abbrev Cx.uG(X:Cx)(E:Value->aG->Prop):Cx:={ X with xe:=E }
abbrev Cx.dk(X:Cx):Cx:=X.uG λ_ _=>False
theorem Cx.Ok.uG{X:Cx}(ok:X.Ok)(E:Value->aG->Prop):(X.uG E).Ok:=
 ⟨ok.mod,ok.kind,ok.glob,ok.blt,ok.above,ok.inj,ok.has,ok.pP,ok.hd,ok.frames,ok.gQ,ok.pT,ok.bs,ok.lJ,ok.pW,ok.oR,ok.jL,ok.nE⟩
theorem Cx.Ok.Lu{X:Cx}{E:Value->aG->Prop}(ok:(X.uG E).Ok):X.Ok:=
 ⟨ok.mod,ok.kind,ok.glob,ok.blt,ok.above,ok.inj,ok.has,ok.pP,ok.hd,ok.frames,ok.gQ,ok.pT,ok.bs,ok.lJ,ok.pW,ok.oR,ok.jL,ok.nE⟩
section
variable {X:Cx}{pins:List (Addr×Obj)}{σ:St}{H:Hp}{s:aG}{E:Value->aG->Prop}
theorem Inv.uG(I:Inv X pins σ H s)(E:Value->aG->Prop):Inv (X.uG E) pins σ H s:=⟨I.ok.uG E,I.os,I.bare,I.base,I.loc,I.cell,I.free,I.iW,I.pin,I.aR,I.len⟩
theorem Inv.Lu(I:Inv (X.uG E) pins σ H s):Inv X pins σ H s:=⟨I.ok.Lu,I.os,I.bare,I.base,I.loc,I.cell,I.free,I.iW,I.pin,I.aR,I.len⟩
end
section
variable {X:Cx}{st:Stmt}{rest:List Stmt}{t u:TS}{e:aJ}{te:TE}{pos:Pos}
def qm:TS:=λD σ H=>D.nx σ H
def Bg(t u:TS):TS:=λD σ H=>t { D with nx:=u D } σ H
theorem lx:oH X [] qm:=λ_ _ σ H _ I h=>Qd ⟨σ,H,I,h⟩
theorem lu(h1:PS X st t)(h2:oH X rest u):oH X (st::rest) (Bg t u):=by
 intro pins s σ H D I h;refine wpAny_execs_cons (bM (h1 pins s σ H { D with nx:=u D } I h) λf s1 q=>?_);cases f with
 |next=>obtain⟨σ',H',I',q⟩:=q;exact h2 pins s1 σ' H' D I' q
 |ret v=>exact q|brk=>exact q|cont=>exact q
def aCo:TS:=λD σ H=>D.bk σ H
def aCr:TS:=λD σ H=>D.ct σ H
theorem C9:PS X (.Pass pos) qm:=λ_ _ σ H _ I h=>wpAny_Pass ⟨σ,H,I,h⟩
theorem C4:PS X (.Break pos) aCo:=λ_ _ σ H _ I h=>wpAny_Break ⟨σ,H,I,h⟩
theorem C5:PS X (.Continue pos) aCr:=λ_ _ σ H _ I h=>wpAny_Continue ⟨σ,H,I,h⟩
theorem Inv.quiet{pins:List (Addr×Obj)}{σ:St}{H:Hp}{s:aG}(I:Inv X pins σ H s):interactive X.env=aF:=by simp[interactive,I.ok.kind]
def DC(te:TE):TS:=λD σ H=>te σ H λ_ H1=>D.nx σ H1
theorem Zh(he:PE X e te)(hs:ax e aD pos.line X.env=pure aF:=by rfl):PS X (.Expr e pos) (DC te):=by intro pins s σ H D I h;exact wpAny_Expr_any (bM (he pins s σ H _ I h) λv s1 ⟨x,H1,I1,r1,q1⟩=>⟨σ,H1,I1,q1⟩) I.quiet hs
def DH(te:TE):TS:=λD σ H=>te σ H D.rt
theorem Zi(he:PE X e te):PS X (.Return (aA e) pos) (DH te):=by intro pins s σ H D I h;exact wpAny_Return_some (bM (he pins s σ H _ I h) λv s1 ⟨x,H1,I1,r1,q1⟩=>⟨x,σ,H1,I1,r1,q1⟩)
def aDd:TS:=λD _ H=>D.rt .aK H
theorem D1:PS X (.Return aD pos) aDd:=λ_ _ σ H _ I h=>wpAny_Return_none ⟨.aK,σ,H,I,rfl,h⟩
def aCu(c:TT)(t u:TS):TS:=λD σ H=>c σ H λb H1=>if b=aB then t D σ H1 else u D σ H1
theorem C7{c:aJ}{a b:List Stmt}{tc:TT}(hc:PT X c tc)(ha:oH X a t)(hb:oH X b u):PS X (.If c a b pos) (aCu tc t u):=by
 intro pins s σ H D I h;refine wpAny_If (bM (hc pins s σ H _ I h) λd s1 ⟨H1,I1,q1⟩=>?_);cases d with
 |true=>exact ha pins s1 σ H1 D I1 q1|false=>exact hb pins s1 σ H1 D I1 q1
def aCw:TS:=λ_ _ _=>False
theorem C8:PS X st aCw:=λ_ _ _ _ _ _ h=>h.elim
end
abbrev TG:=V->St->Hp->(St->Hp->Prop)->Prop
abbrev xT:=List V->St->Hp->(St->Hp->Prop)->Prop
def PG(X:Cx)(target:aJ)(t:TG):Prop:=
 ∀(pins:List (Addr×Obj)) (s:aG) (σ:St) (H:Hp) (v:V) (u:Value) (Q:St->Hp->Prop),Inv X pins σ H s->RelV v u->t v σ H Q ->
  aO (aS X.prog X.w) X.A (uS target X.env u) (λ_ s'=>∃σ' H',Inv X pins σ' H' s'/\Q σ' H') X.xe s
def jb(X:Cx)(ts:List aJ)(t:xT):Prop:=
 ∀(pins:List (Addr×Obj)) (s:aG) (σ:St) (H:Hp) (vs:List V) (us:List Value) (Q:St->Hp->Prop),Inv X pins σ H s->Vals vs us->t vs σ H Q ->
  aO (aS X.prog X.w) X.A (LH ((qU ts X.env).map (·.2)) us) (λ_ s'=>∃σ' H',Inv X pins σ' H' s'/\Q σ' H') X.xe s
abbrev Fm:=V->V->V->Hp->(Hp->Prop)->Prop
def Fi(X:Cx)(t:Fm):Prop:=
 ∀(pins:List (Addr×Obj)) (s:aG) (σ:St) (H:Hp) (o i v:V) (ov iv u:Value) (Q:Hp->Prop),Inv X pins σ H s->RelV o ov->RelV i iv->RelV v u->t o i v H Q ->
  aO (aS X.prog X.w) X.A (setItem ov iv u) (λ_ s'=>∃H',Inv X pins σ H' s'/\Q H') X.xe s
abbrev vm:=V->V->Hp->VK->Prop
def vh(X:Cx)(op:uO)(t:vm):Prop:=
 ∀(pins:List (Addr×Obj)) (s:aG) (σ:St) (H:Hp) (x y:V) (v u:Value) (Q:VK),Inv X pins σ H s->RelV x v->RelV y u->t x y H Q ->
  aO (aS X.prog X.w) X.A (inplaceOp op v u) (EP X pins σ Q) X.xe s
section
variable {X:Cx}{pos:Pos}
def xk(i:Nat):TG:=λv σ H Q=>Q (σ.set i (aA v)) H
theorem A3{i:Nat}{x:Str}(hN:X.N.Nodup)(hi:X.N[i]?=aA x)(hx:oG X.env.scope x)(hf:X.fn x=aB\/X.env.scope.names.lookup x=aA .local:=by first|exact .inl rfl|exact .inr rfl|assumption):PG X (.Name x pos) (xk i):=by intro pins s σ H v u Q I r h;exact LR (qj I hN hi hx r (λs' I'=>⟨_,H,I',h⟩) hf)
def UI:xT:=λvs σ H Q=>vs=[]/\Q σ H
def UC(t:TG)(u:xT):xT:=λvs σ H Q=>∃v r,vs=v::r/\t v σ H λσ' H'=>u r σ' H' Q
theorem A7:jb X [] UI:=by intro pins s σ H vs us Q I r h;obtain⟨e,h⟩:=h;subst e;cases r;exact assignInOrder_nil ⟨σ,H,I,h⟩
theorem A6{e:aJ}{es:List aJ}{t:TG}{u:xT}(h1:PG X e t)(h2:jb X es u)
  (hs:(qU (e::es) X.env).map (·.2)=uS e X.env::(qU es X.env).map (·.2):=by rfl):jb X (e::es) (UC t u):=by
 intro pins s σ H vs us Q I r h;obtain⟨v,vr,e1,h⟩:=h;subst e1;cases r with
 |cons r rr=>rw[hs];refine assignInOrder_cons (bM (h1 pins s σ H _ _ _ I r h) λ_ s1 ⟨σ1,H1,I1,q1⟩=>?_);exact h2 pins s1 σ1 H1 _ _ Q I1 rr q1
def xm(to ti:TE)(t:Fm):TG:=λv σ H Q=>to σ H λo H1=>ti σ H1 λi H2=>t o i v H2 λH3=>Q σ H3
theorem A5{o i:aJ}{to ti:TE}{t:Fm}(ho:PE X o to)(hi:PE X i ti)(hs:Fi X t)
  (ha:∀v,uS (.Subscript o i pos) X.env v=(do
   let ov <- uk [v] (eval o X.env)
   let iv <- uk [v,ov] (eval i X.env)
   standAt pos
   uk [v,ov,iv] (setItem ov iv v)
   release [v,ov,iv] []):=by intro _;rfl):PG X (.Subscript o i pos) (xm to ti t):=by
 intro pins s σ H v u Q I r h;rw[ha];refine aL (kG (bM (ho pins s σ H _ I h) λov s1 ⟨x,H1,I1,r1,q1⟩=>?_));refine aL (kG (bM (hi pins s1 σ H1 _ I1 q1) λiv s2 ⟨y,H2,I2,r2,q2⟩=>?_));refine aL (iu (aL (kG (bM (hs pins s2 σ H2 x y v ov iv u _ I2 r1 r2 r q2) λ_ s3 ⟨H3,I3,q3⟩=>?_))));exact wpAny_release ⟨σ,H3,I3,q3⟩
def Be(te:TE)(g:TG):TS:=λD σ H=>te σ H λx H1=>g x σ H1 D.nx
theorem Zg{tg e:aJ}{te:TE}{g:TG}(he:PE X e te)(hg:PG X tg g)(hs:LQ [tg] e pos.line X.env=pure aF:=by rfl)(hw:Er [tg] e X.env=pure aD:=by rfl)
  (h1:(qU [tg] X.env).map (·.2)=[uS tg X.env]:=by rfl):PS X (.Assign [tg] e pos) (Be te g):=by
 intro pins s σ H D I h;refine wpAny_Assign_stores (bM (he pins s σ H _ I h) λv s1 ⟨x,H1,I1,r1,q1⟩=>?_) hs hw;rw[h1];exact bM (hg pins s1 σ H1 x v _ I1 r1 q1) λ_ s2 q=>q
theorem D3{i:Nat}{x:Str}{e:aJ}{te:TE}{pos':Pos}(hN:X.N.Nodup)(hi:X.N[i]?=aA x)(hx:oG X.env.scope x)(he:PE X e te)(hs:ax e (aA (.Name x pos')) pos.line X.env=pure aF:=by rfl)(hf:X.fn x=aB\/X.env.scope.names.lookup x=aA .local:=by first|exact .inl rfl|exact .inr rfl|assumption) :
  PS X (.Assign [.Name x pos'] e pos) (Be te (xk i)):=by
 intro pins s σ H D I h;refine wpAny_Assign_Name (bM (he pins s σ H _ I h) λv s1 ⟨y,H1,I1,r1,q1⟩=>?_) hs;exact qj I1 hN hi hx r1 (λs2 I2=>⟨_,H1,I2,q1⟩) hf
def aCn(i:Nat)(te:TE)(ti:vm):TS:=λD σ H=>∃x,σ[i]?=aA (aA x)/\te σ H λy H1=>ti x y H1 λz H2=>D.nx (σ.set i (aA z)) H2
theorem C3{i:Nat}{x:Str}{e:aJ}{te:TE}{op:uO}{ti:vm}{pos':Pos}(hN:X.N.Nodup)(hi:X.N[i]?=aA x)(hx:oG X.env.scope x)(he:PE X e te)(ho:vh X op ti)(hf:X.fn x=aB\/X.env.scope.names.lookup x=aA .local:=by first|exact .inl rfl|exact .inr rfl|assumption) :
  PS X (.AugAssign (.Name x pos') op e pos) (aCn i te ti):=by
 intro pins s σ H D I h;obtain⟨v,e1,h⟩:=h;obtain⟨m,hn,hl⟩:=I.loc;have vis:xV X.env.scope x:=by rcases hx with k|k;exact .inl k;exact .inr (.inl k)
 obtain⟨u,r,l⟩:=hl i x v hi e1 vis;refine wpAny_AugAssign_Name ?_;have go:aO (aS X.prog X.w) X.A (eval e X.env) (λw s₂=>aO (aS X.prog X.w) X.A (inplaceOp op u w) (λr s₃=>aO (aS X.prog X.w) X.A (Py X.env x r) (λ_=>SP X pins D .next) X.xe s₃) X.xe s₂) X.xe s:=by refine bM (he pins s σ H _ I h) λw s1 ⟨y,H1,I1,r1,q1⟩=>?_;refine bM (ho pins s1 σ H1 v y u w _ I1 r r1 q1) λz s2 ⟨zv,H2,I2,r2,q2⟩=>?_;exact qj I2 hN hi hx r2 (λs3 I3=>⟨_,H2,I3,q2⟩) hf
 rcases l with⟨hk,hm⟩|⟨hk,c,hc,xu⟩
 .exact LZ I.ok.kind hk hn hm go
 .rcases hk with hk|hk
  .exact LX I.ok.kind hk hc xu go
  .rcases hx with k|k
   .have:X.env.scope.names.lookup x=aA .free:=hk;rw[k]at this;cases this
   .have:X.env.scope.names.lookup x=aA .free:=hk;rw[k]at this;cases this
def Ih(f:Int->Int->Int):vm:=λx y H Q=>∃i j,x = .int i/\y = .int j/\Q (.int (f i j)) H
theorem WD:vh X .Add (Ih λi j=>i+j):=by intro pins s σ H x y v u Q I r1 r2 h;obtain⟨i,j,e1,e2,q⟩:=h;subst e1;subst e2;obtain⟨t,rfl⟩:=r1;obtain⟨t',rfl⟩:=r2;exact iadd_int ⟨.int _,H,I.tok _,⟨_,rfl⟩,q⟩
theorem WE:vh X .Sub (Ih λi j=>i-j):=by intro pins s σ H x y v u Q I r1 r2 h;obtain⟨i,j,e1,e2,q⟩:=h;subst e1;subst e2;obtain⟨t,rfl⟩:=r1;obtain⟨t',rfl⟩:=r2;exact isub_int ⟨.int _,H,I.tok _,⟨_,rfl⟩,q⟩
end
structure It where
 go:Nat->Hp->Prop
 rg:Nat->Hp->V->Hp->Prop
 stop:Nat->Hp->Prop
def jK(X:Cx)(pins:List (Addr×Obj))(H:Hp)(b:Addr):Prop:=
 H b=aD/\b≠X.env.locals/\b∉X.fs/\(b∈X.ex\/X.s₀.heap.objs.size<=b)/\(∀x c,X.env.cells.lookup x=aA c->c≠b)/\∀p∈X.pn++pins,p.1≠b
theorem Inv.tG{X:Cx}{pins:List (Addr×Obj)}{σ:St}{H H':Hp}{s:aG}{b:Addr}(I:Inv X pins σ H s)(hb:s.heap.objs.size<=b)(hn:H' b=aD):jK X pins H' b:=by
 refine⟨hn,pJ (cP I.lt hb),I.Yf hb,.inr (eN I.sz hb),λx c e z=>?_,λp hp z=>?_⟩
 .obtain⟨v,q⟩:=I.cell x c e;exact absurd (cP q.lt (by rw[z];exact hb)) (pI _)
 .exact absurd (cP (cU (I.pin p hp).1) (by rw[z];exact hb)) (pI _)
structure Turn(P:bG)(w:bD)(K:aX)(tg:aJ)(J:It)(fp:List Addr)(it:Addr)(tn:Nat->aQ->Prop):Prop where
 mem:it∈fp
 obj:∀i h,tn i h->∀b∈fp,∃o,h.get? b=aA o/\∀v,o.data ≠ .cell v
 keep:∀i h h',tn i h->(∀b∈fp,∀o,h.get? b=aA o->h'.get? b=aA o)->tn i h'
 item:∀(X:Cx),X.prog=P->X.w=w->X.K=K->X.calm=aB->∀(i:Nat) (pins:List (Addr×Obj)) (s:aG) (σ:St) (H:Hp) (E:Value->aG->Prop),Inv X pins σ H s->(∀b∈fp,jK X pins H b)->tn i s.heap->J.go i H ->
  aO (aS P w) X.A (xK (.ref it)) (λr s1=>∃u,r=aA u /\
   aO (aS P w) X.A (Em tg (.ref it) u) (λ_ s2=>∃x H',Inv X pins σ H' s2/\RelV x u/\J.rg i H x H'/\tn (i+1) s2.heap/\∀b∈fp,H' b=aD) E s1) E s
 done:∀(X:Cx),X.prog=P->X.w=w->X.K=K->X.calm=aB->∀(i:Nat) (pins:List (Addr×Obj)) (s:aG) (σ:St) (H:Hp) (E:Value->aG->Prop),Inv X pins σ H s->(∀b∈fp,jK X pins H b)->tn i s.heap->J.stop i H ->
  aO (aS P w) X.A (xK (.ref it)) (λr s1=>r=aD/\Inv X pins σ H s1) E s
 self:∀(A:bS) (i:Nat) (s:aG) (Q:Value->aG->Prop) (E:Value->aG->Prop),tn i s.heap->Q (.ref it) s->aO (aS P w) A (um (.ref it)) Q E s
abbrev TI:=St->Hp->(It->Hp->Prop)->Prop
def Fh(X:Cx)(pins:List (Addr×Obj))(σ:St)(tg:aJ)(R:It->Hp->Prop)(itv:Value)(s2:aG):Prop:=
 ∃(it:Addr) (fp:List Addr) (tn:Nat->aQ->Prop) (J:It) (H':Hp),itv = .ref it/\Inv X pins σ H' s2/\Turn X.prog X.w X.K tg J fp it tn/\tn 0 s2.heap/\(∀b∈fp,jK X pins H' b)/\R J H'
def PI(X:Cx)(tg cO:aJ)(wi:TI):Prop:=
 ∀(pins:List (Addr×Obj)) (s:aG) (σ:St) (H:Hp) (R:It->Hp->Prop),Inv X pins σ H s->wi σ H R ->
  aO (aS X.prog X.w) X.A (eval cO X.env) (λv s1=>aO (aS X.prog X.w) X.A (um v) (Fh X pins σ tg R) X.xe s1) X.xe s
theorem xr{M:jH}{A:bS}{E:Value->aG->Prop}{s:aG}{tg:aJ}{it:Addr}{u:Value}{o:Obj}{n:String}{vs:Array Value}{Q:Unit->aG->Prop}(ho:s.heap.get? it=aA o)(hc:o.cls = .type n)(hd:o.data = .fields vs)
    (hn:["enumerate","zip","dict_itemiterator","dict_reverseitemiterator","odict_iterator","itertools.zip_longest","itertools.pairwise"].contains n=aF) (hQ:Q () s):aO M A (Em tg (.ref it) u) Q E s:=by
  unfold Em;cases tg<;>first
    |exact bH hQ
    | (cases u<;>first
        |exact bH hQ
        | (refine aL (wpAny_load ho ?_)
           rw[hc,hd];show aO M A (if(["enumerate","zip","dict_itemiterator","dict_reverseitemiterator","odict_iterator","itertools.zip_longest","itertools.pairwise"].contains n&&vs[0]?==aA (qW _))=aB then _ else _) Q E s;rw[if_neg (by intro h;rw[hn,Bool.false_and]at h;cases h)];exact bH hQ))
def Fe(K:aX)(a:Addr):It:=
 ⟨λi H=>∃xs x,cW K H a xs/\xs[i]?=aA x,λi H x H'=>H'=H/\∀xs,cW K H a xs->xs[i]?=aA x,λi H=>∃xs,cW K H a xs/\xs.length<=i⟩
def Ff(K:aX)(a:Addr):It:=
 ⟨λi H=>∃xs x,dE K H a xs/\xs[i]?=aA x,λi H x H'=>H'=H/\∀xs,dE K H a xs->xs[i]?=aA x,λi H=>∃xs,dE K H a xs/\xs.length<=i⟩
def va(lo:Int)(n:Nat):It:=⟨λi _=>i<n,λi H x H'=>H'=H/\x = .int (lo+i),λi _=>n<=i⟩
theorem aEn{P:bG}{w:bD}{K:aX}{tg:aJ}(a it:Addr):Turn P w K tg (Fe K a) [it] it (λi h=>h.IsListIter it a i) where
 mem:=by simp
 obj:=λi h st b hb=>by
  have e:b=it:=by simpa using hb
  subst e;obtain⟨o,e,c,d⟩:=st;exact⟨o,e,λv z=>by rw[d]at z;cases z⟩
 keep:=λi h h' st k=>st.at λo e=>k it (by simp) o e
 item:=by intro X hP hw hK hc i pins s σ H E I hf st hg;subst hP hw hK;obtain⟨xs,x,hq,hx⟩:=hg;obtain⟨its,rv,p,hz⟩:=I.list hq;obtain⟨u,hu,ru⟩:=rv.get hx;obtain⟨f0,f1,f2,f3,f4,f5⟩:=hf it (by simp);refine MH st p.isList (x:=u) (by simpa using hu) λh' st' sb=>?_;have I1:Inv X pins σ H { s with heap:=h' }:=I.turned (t':=s.toks) (λb o hb e=>(sb.2 b hb).trans e) f0 f1 f3 f4 f5;obtain⟨o,e,c,d⟩:=id st';exact⟨u,rfl,xr (s:={ s with heap:=h' }) e c d (by decide) ⟨x,H,I1,ru,⟨rfl,λys hy=>by rw[I.Iy hy hq];exact hx⟩,st',λb hb=>(hf b hb).1⟩⟩
 done:=by intro X hP hw hK hc i pins s σ H E I hf st hg;subst hP hw hK;obtain⟨xs,hq,hx⟩:=hg;obtain⟨its,rv,p,hz⟩:=I.list hq;obtain⟨f0,f1,f2,f3,f4,f5⟩:=hf it (by simp);have hl:=rv.length;exact MG (I.ok.hd hc) st p.isList (by simp;omega) λh' eb=>⟨rfl,I.turned (t':=s.toks) (λb o hb e=>eb b o hb e) f0 f1 f3 f4 f5⟩
 self:=λ_ _ _ _ _ st h=>wpAny_pyIter_listiter st h
theorem aEq{P:bG}{w:bD}{K:aX}{tg:aJ}(a it:Addr):Turn P w K tg (Ff K a) [it] it (λi h=>h.IsTupleIter it a i) where
 mem:=by simp
 obj:=λi h st b hb=>by
  have e:b=it:=by simpa using hb
  subst e;obtain⟨o,e,c,d⟩:=st;exact⟨o,e,λv z=>by rw[d]at z;cases z⟩
 keep:=λi h h' st k=>st.at λo e=>k it (by simp) o e
 item:=by intro X hP hw hK hc i pins s σ H E I hf st hg;subst hP hw hK;obtain⟨xs,x,hq,hx⟩:=hg;obtain⟨its,rv,p,hz⟩:=I.tuple hq;obtain⟨u,hu,ru⟩:=rv.get hx;obtain⟨f0,f1,f2,f3,f4,f5⟩:=hf it (by simp);refine wpAny_pyNext_tuple_item st (show s.heap.IsTuple a its.toArray from p) (x:=u) (by simpa using hu) λh' st' sb=>?_;have I1:Inv X pins σ H { s with heap:=h' }:=I.turned (t':=s.toks) (λb o hb e=>(sb.2 b hb).trans e) f0 f1 f3 f4 f5;obtain⟨o,e,c,d⟩:=id st';exact⟨u,rfl,xr (s:={ s with heap:=h' }) e c d (by decide) ⟨x,H,I1,ru,⟨rfl,λys hy=>by rw[I.EK hy hq];exact hx⟩,st',λb hb=>(hf b hb).1⟩⟩
 done:=by intro X hP hw hK hc i pins s σ H E I hf st hg;subst hP hw hK;obtain⟨xs,hq,hx⟩:=hg;obtain⟨its,rv,p,hz⟩:=I.tuple hq;obtain⟨f0,f1,f2,f3,f4,f5⟩:=hf it (by simp);have hl:=rv.length;exact wpAny_pyNext_tuple_end (I.ok.hd hc) st (show s.heap.IsTuple a its.toArray from p) (by simp;omega) λh' eb=>⟨rfl,I.turned (t':=s.toks) (λb o hb e=>eb b o hb e) f0 f1 f3 f4 f5⟩
 self:=λ_ _ _ _ _ st h=>wpAny_pyIter_tupleiter st h
theorem aEo{P:bG}{w:bD}{K:aX}{tg:aJ}(it:Addr)(lo:Int)(n:Nat):Turn P w K tg (va lo n) [it] it (λi h=>IsRangeIter h it (lo+(i:Nat)*1) ((n:Int)-(i:Nat)) 1) where
 mem:=by simp
 obj:=λi h st b hb=>by
  have e:b=it:=by simpa using hb
  subst e;exact⟨_,st,λv z=>by have z':Data.fields _=Data.cell v:=z;cases z'⟩
 keep:=λi h h' st k=>k it (by simp) _ st
 item:=by intro X hP hw hK hc i pins s σ H E I hf st hg;subst hP hw hK;obtain⟨f0,f1,f2,f3,f4,f5⟩:=hf it (by simp);have W:=Walks.range (prog:=X.prog) (w:=X.w) (I.ok.hd hc) it lo 1 n;refine W.item i s _ _ hg st λv h' tk hv st' kk=>?_;obtain⟨t,rfl⟩:=hv;have I1:Inv X pins σ H { s with heap:=h',toks:=tk }:=I.turned (λb o hb e=>kk b o (by simpa using hb) e) f0 f1 f3 f4 f5;refine⟨_,rfl,xr (s:={ s with heap:=h',toks:=tk }) (n:="range_iterator") st' rfl rfl (by decide) ⟨.int (lo+i),H,I1,⟨t,?_⟩,⟨rfl,rfl⟩,st',λb hb=>(hf b hb).1⟩⟩;rw[Int.mul_one]
 done:=by intro X hP hw hK hc i pins s σ H E I hf st hg;subst hP hw hK;obtain⟨f0,f1,f2,f3,f4,f5⟩:=hf it (by simp);exact wpAny_pyNext_range_end (I.ok.hd hc) st (by have:n<=i:=hg;omega) λh' eb=>⟨rfl,I.turned (t':=s.toks) (λb o hb e=>eb b o hb e) f0 f1 f3 f4 f5⟩
 self:=λ_ _ _ _ _ st h=>wpAny_pyIter_rangeiter st h
section
variable {X:Cx}{tg:aJ}
theorem Y2{pins:List (Addr×Obj)}{σ:St}{H:Hp}{s:aG}{R:It->Hp->Prop}{E:Value->aG->Prop}{lo hi:Int}{t u v:Tok}{tk:Nat}(I:Inv X pins σ H s)(h1:-(2 ^ 62)<=lo)(h2:lo<2 ^ 62)(h3:-(2 ^ 62)<=hi)(h4:hi<2 ^ 62)
  (q:R (va lo (hi-lo).toNat) H):aO (aS X.prog X.w) X.A (um (.ref s.heap.objs.size)) (Fh X pins σ tg R) E { s with heap:=s.heap.push { cls:=.type "range",data:=.fields #[.int lo t,.int hi u,.int 1 v] },toks:=tk }:=by
 refine wpAny_pyIter_range (IsRange.new ..) (small_one h1 h2 h3 h4) ?_;have I1:Inv X pins σ H { s with heap:=s.heap.push { cls:=.type "range",data:=.fields #[.int lo t,.int hi u,.int 1 v] },toks:=tk }:=I.kept λb o e=>dH _ e;refine⟨(s.heap.push { cls:=.type "range",data:=.fields #[.int lo t,.int hi u,.int 1 v] }).objs.size,[(s.heap.push { cls:=.type "range",data:=.fields #[.int lo t,.int hi u,.int 1 v] }).objs.size],_,_,H,rfl,
  I1.kept (t':=tk) λb o e=>dH _ e,aEo _ lo (hi-lo).toNat,?_,λb hb=>?_,q⟩
 .have e1:lo+((0:Nat):Int)*1=lo:=by simp
  have e2:(((hi-lo).toNat:Nat):Int)-((0:Nat):Int)=Builtin.Range.rangeSize lo hi 1:=by rw[rangeSize_one];split<;>omega
  show IsRangeIter _ _ (lo+((0:Nat):Int)*1) ((((hi-lo).toNat:Nat):Int)-((0:Nat):Int)) 1;rw[e1,e2];exact iM _ rfl
 .have e:b=(s.heap.push { cls:=.type "range",data:=.fields #[.int lo t,.int hi u,.int 1 v] }).objs.size:=by simpa using hb
  subst e;exact I1.tG (cB _) (I1.aR.fresh (cB _))
def VT(ta:TA):TI:=λσ H R=>ta σ H λvs H1=>∃j:Int,vs=[.int j]/\-(2 ^ 62)<=j/\j<2 ^ 62/\R (va 0 j.toNat) H1
theorem A9{a:aJ}{ta:TA}{p pos:Pos} (hg:Gl X "range") (hm:X.mg "range"=aD) (ha:PA X [a] ta) (hs:eY [a] X.env=[(aF,eval a X.env)]:=by rfl):PI X tg (.Call (.Name "range" p) [a] [] pos) (VT ta):=by
 intro pins s σ H R I h;refine Call_ (cz I hg hm boot_range (Dw (bM (ha pos pins s σ H _ I h) λus s1 ⟨vs,H1,I1,r1,q1⟩=>?_) hs rfl));obtain⟨j,e,q1,q2,q⟩:=q1;subst e;cases r1 with
 |cons r rr=>cases rr;obtain⟨t,rfl⟩:=r;exact call_range_1 (Y2 I1 (by omega) (by omega) q1 q2 (by simpa using q))
def aCt(wi:TI)(g:TG)(tb:TS):TS:=λD σ H=>wi σ H λJ H1=>∃W:Nat->Nat->St->Hp->Prop,(∃m,W 0 m σ H1)/\∀i m σ H,W i m σ H ->
 (J.stop i H/\D.nx σ H)\/(J.go i H/\∃N:St->Hp->Prop,(∀σ' H',N σ' H'->∃m',m'<m/\W (i+1) m' σ' H')/\∀x H',J.rg i H x H'->g x σ H' λσ2 H2=>tb { D with nx:=N,ct:=N,bk:=D.nx } σ2 H2)
def yx(fp:List Addr)(h:aQ):List (Addr×Obj):=fp.filterMap λb=>(h.get? b).map λo=>(b,o)
theorem yi{fp:List Addr}{h:aQ}{b:Addr}{o:Obj}(hb:b∈fp)(e:h.get? b=aA o):(b,o)∈yx fp h:=List.mem_filterMap.mpr ⟨b,hb,by rw[e];rfl⟩
theorem Yj{fp:List Addr}{h:aQ}{p:Addr×Obj}(hp:p∈yx fp h):p.1∈fp/\h.get? p.1=aA p.2:=by
 obtain⟨b,hb,e⟩:=List.mem_filterMap.mp hp;cases q:h.get? b with
 |none=>rw[q]at e;cases e|some o=>rw[q]at e;have e':(b,o)=p:=dB e;subst e';exact⟨hb,q⟩
theorem Inv.pinned{pins:List (Addr×Obj)}{σ:St}{H:Hp}{s:aG}{fp:List Addr}(I:Inv X pins σ H s)(hf:∀b∈fp,jK X pins H b)(ho:∀b∈fp,∃o,s.heap.get? b=aA o/\∀v,o.data ≠ .cell v):Inv X (pins++yx fp s.heap) σ H s:=
 I.ef λp hp=>(List.mem_append.mp hp).elim (λz=>I.pin p (hU _ z)) λz=>by obtain⟨hb,e⟩:=Yj z;obtain⟨f0,f1,f2,_⟩:=hf p.1 hb;obtain⟨o,e',d⟩:=ho p.1 hb;rw[e]at e';cases e';exact⟨e,f0,f1,f2,d⟩
theorem Inv.Bt{pins pl:List (Addr×Obj)}{σ:St}{H:Hp}{s:aG}(I:Inv X (pins++pl) σ H s):Inv X pins σ H s:=I.ef λp hp=>I.pin p (hU _ (gx _ hp))
theorem C6{cO:aJ}{body:List Stmt}{wi:TI}{g:TG}{tb:TS}{pos:Pos}(hp:Ot (aS X.prog X.w) X.A X.env X.xe)(hc:X.calm=aB)(hi:PI X tg cO wi)(hg:PG X tg g)(hb:oH X body tb)
  (hs:∀x,Ei cO X.env x=pure x:=by intro _;rfl):PS X (.For tg cO body [] pos) (aCt wi g tb):=by
 intro pins s σ H D I h;refine wpAny_For (bM (hi pins s σ H _ I h) λv s1 h1=>bM h1 λitv s2 h2=>?_) hs;obtain⟨it,fp,tn,J,H2,e,I2,T,st2,f2,W,⟨m0,w0⟩,turn⟩:=h2;subst e;have stat:∀{H':Hp},(∀b∈fp,H' b=aD)->∀b∈fp,jK X pins H' b:=λhn b hb=>⟨hn b hb,(f2 b hb).2⟩;refine codeAny_forLoop_any (λn s'=>∃i σ' H',Inv X pins σ' H' s'/\tn i s'.heap/\(∀b∈fp,H' b=aD)/\W i n σ' H') ?_ m0 ⟨0,σ,H2,I2,st2,λb hb=>(f2 b hb).1,w0⟩;rintro n s3 ⟨i,σ3,H3,I3,st3,fr3,w3⟩
 rcases turn i n σ3 H3 w3 with⟨stop,qn⟩|⟨go,N,hN,step⟩
 .refine uv hp (bM (T.done X rfl rfl rfl hc i pins s3 σ3 H3 X.xe I3 (stat fr3) st3 stop) λr s4 ⟨hr,I4⟩=>?_);subst hr;exact Qd ⟨σ3,H3,I4,qn⟩
 .refine uv hp (bM (T.item X rfl rfl rfl hc i pins s3 σ3 H3 X.xe I3 (stat fr3) st3 go) λr s4 ⟨u,hr,h4⟩=>?_);subst hr;refine uv hp (bM h4 λ_ s5 ⟨x,H5,I5,r5,y5,st5,fr5⟩=>?_);have I5':=I5.pinned (stat fr5) (T.obj _ _ st5);refine uv hp (bM (hg _ s5 σ3 H5 x u _ I5' r5 (step x H5 y5)) λ_ s6 ⟨σ6,H6,I6,q6⟩=>?_);refine uv hp (bM (hb _ s6 σ6 H6 _ I6 q6) λf s7 q7=>?_);have again:∀{σ7:St}{H7:Hp},Inv X (pins++yx fp s5.heap) σ7 H7 s7->N σ7 H7->∃m,m<n/\∃i σ' H',Inv X pins σ' H' s7/\tn i s7.heap/\(∀b∈fp,H' b=aD)/\W i m σ' H':=λ{σ7 H7} I7 n7=>by obtain⟨m',hm,w7⟩:=hN σ7 H7 n7;refine⟨m',hm,i+1,σ7,H7,I7.Bt,T.keep _ _ _ st5 λb hb o e=>(I7.pin (b,o) (hU _ (hU _ (yi hb e)))).1,λb hb=>?_,w7⟩;obtain⟨o,e,d⟩:=T.obj _ _ st5 b hb;exact(I7.pin (b,o) (hU _ (hU _ (yi hb e)))).2.1
  cases f with
  |next=>obtain⟨σ7,H7,I7,n7⟩:=q7;exact again I7 n7|cont=>obtain⟨σ7,H7,I7,n7⟩:=q7;exact again I7 n7|brk=>obtain⟨σ7,H7,I7,q7⟩:=q7;exact⟨σ7,H7,I7.Bt,q7⟩|ret v=>obtain⟨x7,σ7,H7,I7,r7,q7⟩:=q7;exact⟨x7,σ7,H7,I7.Bt,r7,q7⟩
end
abbrev R2:=V->V->Hp->VK->Prop
def cK(X:Cx)(f:Value->Value->Sem Value)(r:R2):Prop:=
 ∀(pins:List (Addr×Obj)) (s:aG) (σ:St) (H:Hp) (x y:V) (v u:Value) (Q:VK),Inv X pins σ H s->RelV x v->RelV y u->r x y H Q ->
  aO (aS X.prog X.w) X.A (f v u) (EP X pins σ Q) X.xe s
def vo(X:Cx)(f:Value->Sem Value)(r:V->Hp->VK->Prop):Prop:=
 ∀(pins:List (Addr×Obj)) (s:aG) (σ:St) (H:Hp) (x:V) (v:Value) (Q:VK),Inv X pins σ H s->RelV x v->r x H Q ->
  aO (aS X.prog X.w) X.A (f v) (EP X pins σ Q) X.xe s
def jJ(X:Cx)(f:Value)(r:List V->Hp->VK->Prop):Prop:=
 ∀(pins:List (Addr×Obj)) (s:aG) (σ:St) (H:Hp) (xs:List V) (us:List Value) (Q:VK),Inv X pins σ H s->Vals xs us->r xs H Q ->
  aO (aS X.prog X.w) X.A (call f us) (EP X pins σ Q) X.xe s
def MN(X:Cx)(r:V->Hp->(Bool->Hp->Prop)->Prop):Prop:=
 ∀(pins:List (Addr×Obj)) (s:aG) (σ:St) (H:Hp) (x:V) (v:Value) (Q:Bool->Hp->Prop),Inv X pins σ H s->RelV x v->r x H Q ->
  aO (aS X.prog X.w) X.A (truthy v) (TP X pins σ Q) X.xe s
def Bf(r:R2)(ta tb:TE):TE:=λσ H Q=>ta σ H λx H1=>tb σ H1 λy H2=>r x y H2 Q
def tUn(r:V->Hp->VK->Prop)(ta:TE):TE:=λσ H Q=>ta σ H λx H1=>r x H1 Q
def rI(C:Int->Int->Prop)(g:Int->Int->V):R2:=λx y H Q=>∃i j,x = .int i/\y = .int j/\C i j/\Q (g i j) H
def nU(g:Int->Int->V):R2:=λx y H Q=>∃i j,x = .int i/\y = .int j/\Q (g i j) H
def rU(g:Int->V):V->Hp->VK->Prop:=λx H Q=>∃i,x = .int i/\Q (g i) H
section
variable {X:Cx}{a b c:aJ}{ta tb tc:TE}{pos:Pos}
theorem Ft(ha:PE X a ta)(hb:PE X b tb){pins:List (Addr×Obj)}{s:aG}{σ:St}{H:Hp}{R:V->V->Hp->Prop}(I:Inv X pins σ H s)
  (h:ta σ H λx H1=>tb σ H1 λy H2=>R x y H2) {Q:Value->aG->Prop}{f:Value->Value->Sem Value}
  (hf:∀v u s2 x y H2,Inv X pins σ H2 s2->RelV x v->RelV y u->R x y H2->aO (aS X.prog X.w) X.A (f v u) Q X.xe s2) :
  aO (aS X.prog X.w) X.A (eval a X.env) (λv s₁=>aO (aS X.prog X.w) X.A (eval b X.env) (λu s₂=>aO (aS X.prog X.w) X.A (f v u) Q X.xe s₂) X.xe s₁) X.xe s:=by
 refine bM (ha pins s σ H _ I h) λv s1 ⟨x,H1,I1,r1,q1⟩=>?_;refine bM (hb pins s1 σ H1 _ I1 q1) λu s2 ⟨y,H2,I2,r2,q2⟩=>?_;exact hf v u s2 x y H2 I2 r1 r2 q2
theorem y9{op:uO}{r:R2}(ho:cK X (eI op) r)(ha:PE X a ta)(hb:PE X b tb):PE X (.BinOp a op b pos) (Bf r ta tb):=by intro pins s σ H Q I h;exact wpAny_BinOp (Ft ha hb I h λv u s2 x y H2 I2 rx ry q=>ho pins s2 σ H2 x y v u Q I2 rx ry q)
theorem A1{op:UnaryOp}{r:V->Hp->VK->Prop}(ho:vo X (Et op) r)(ha:PE X a ta):PE X (.UnaryOp op a pos) (tUn r ta):=by intro pins s σ H Q I h;exact UnaryOp_ (bM (ha pins s σ H _ I h) λv s1 ⟨x,H1,I1,r1,q1⟩=>ho pins s1 σ H1 x v Q I1 r1 q1)
theorem dy{f:Value->Value->Sem Value}{C:Int->Int->Prop}{g:Int->Int->Int}
  (rule:∀(i j:Int) (t u:Tok) (s:aG) (Q:Value->aG->Prop) (E:Value->aG->Prop),C i j->Q (.int (g i j) s.toks) { s with toks:=s.toks+1 }->aO (aS X.prog X.w) X.A (f (.int i t) (.int j u)) Q E s) :
  cK X f (rI C λi j=>.int (g i j)):=by
 intro pins s σ H x y v u Q I rx ry h;obtain⟨i,j,rfl,rfl,hc,q⟩:=h;obtain⟨t,rfl⟩:=rx;obtain⟨t',rfl⟩:=ry;exact rule i j t t' s _ _ hc ⟨.int (g i j),H,I.tok _,⟨_,rfl⟩,q⟩
theorem ky{f:Value->Value->Sem Value}{g:Int->Int->Int}
  (rule:∀(i j:Int) (t u:Tok) (s:aG) (Q:Value->aG->Prop) (E:Value->aG->Prop),Q (.int (g i j) s.toks) { s with toks:=s.toks+1 }->aO (aS X.prog X.w) X.A (f (.int i t) (.int j u)) Q E s) :
  cK X f (nU λi j=>.int (g i j)):=by
 intro pins s σ H x y v u Q I rx ry h;obtain⟨i,j,rfl,rfl,q⟩:=h;obtain⟨t,rfl⟩:=rx;obtain⟨t',rfl⟩:=ry;exact rule i j t t' s _ _ ⟨.int (g i j),H,I.tok _,⟨_,rfl⟩,q⟩
theorem yu{f:Value->Value->Sem Value}{g:Int->Int->Bool}
  (rule:∀(i j:Int) (t u:Tok) (s:aG) (Q:Value->aG->Prop) (E:Value->aG->Prop),Q (.bool (g i j)) s->aO (aS X.prog X.w) X.A (f (.int i t) (.int j u)) Q E s) :
  cK X f (nU λi j=>.bl (g i j)):=by
 intro pins s σ H x y v u Q I rx ry h;obtain⟨i,j,rfl,rfl,q⟩:=h;obtain⟨t,rfl⟩:=rx;obtain⟨t',rfl⟩:=ry;exact rule i j t t' s _ _ ⟨.bl (g i j),H,I,rfl,q⟩
def Fb(i j:Int):Prop:=0<=j/\j<=1000000/\i.natAbs<2 ^ 64
theorem aEt(k:Nat):(0:Int)<=2 ^ k:=by rw[two_pow_cast];exact HY _
theorem b7:cK X (eI .Add) (nU λi j=>.int (i+j)):=ky λ_ _ _ _ _ _ _ q=>add_int q
theorem k8:cK X (eI .Sub) (nU λi j=>.int (i-j)):=ky λ_ _ _ _ _ _ _ q=>sub_int q
theorem g6:cK X (eI .Mod) (rI (λ_ j=>0<j) λi j=>.int (i%j)):=dy λi j _ _ _ _ _ hc q=>by have h1:(0:Int)<j:=hc;exact mod_int' (by omega) (by rw[aJj i (by omega)];exact q)
theorem j7:cK X (eI .Pow) (rI Fb λi j=>.int (i ^ j.toNat)):=dy λ_ _ _ _ _ _ _ hc q=>pow_int_small hc.1 hc.2.1 hc.2.2 q
theorem j9:cK X (eI .LShift) (rI Fb λi j=>.int (i*2 ^ j.toNat)):=dy λ_ _ _ _ _ _ _ hc q=>lshift_int_small hc.1 hc.2.1 hc.2.2 q
theorem k7:cK X (eI .RShift) (rI (λ_ j=>0<=j) λi j=>.int (i / 2 ^ j.toNat)):=dy λi j _ _ _ _ _ hc q=>rshift_int hc (by rw[HX i (aEt _)];exact q)
theorem b9:cK X (eI .BitAnd) (nU λi j=>.int (HE i j)):=ky λ_ _ _ _ _ _ _ q=>and_int q
theorem j6:cK X (eI .BitOr) (nU λi j=>.int (HF i j)):=ky λ_ _ _ _ _ _ _ q=>or_int q
theorem k9:cK X (eI .BitXor) (nU λi j=>.int (HG i j)):=ky λ_ _ _ _ _ _ _ q=>xor_int q
theorem unI{f:Value->Sem Value}{g:Int->Int}
  (rule:∀(i:Int) (t:Tok) (s:aG) (Q:Value->aG->Prop) (E:Value->aG->Prop),Q (.int (g i) s.toks) { s with toks:=s.toks+1 }->aO (aS X.prog X.w) X.A (f (.int i t)) Q E s) :
  vo X f (rU λi=>.int (g i)):=by
 intro pins s σ H x v Q I rx h;obtain⟨i,rfl,q⟩:=h;obtain⟨t,rfl⟩:=rx;exact rule i t s _ _ ⟨.int (g i),H,I.tok _,⟨_,rfl⟩,q⟩
theorem aEv:vo X (Et .USub) (rU λi=>.int (-i)):=unI λ_ _ _ _ _ q=>neg_int q
end
def As:V->V->Bool
 |.aK,.aK=>aB | .aK,.int _=>aB | .int _,.aK=>aB | .aK,.bl _=>aB | .bl _,.aK=>aB | .aK,.str _=>aB | .str _,.aK=>aB
 |.int _,.int _=>aB | .bl _,.bl _=>aB | .str _,.str _=>aB | .mC _,.mC _=>aB
 |.int _,.str _=>aB | .str _,.int _=>aB | .bl _,.str _=>aB | .str _,.bl _=>aB
 |_,_=>aF
def AZ:R2:=λx y H Q=>As x y=aB/\Q (.bl (decide (x=y))) H
def BG:R2:=λx y H Q=>As x y=aB/\Q (.bl (!decide (x=y))) H
theorem Sq{i j:Int}:decide (V.int i=V.int j)=(i==j):=by rw[uJ];simp
theorem Sn{i j:Bool}:decide (V.bl i=V.bl j)=(i==j):=by rw[uJ];simp
theorem Sr{i j:Str}:decide (V.str i=V.str j)=(i==j):=by rw[uJ];simp
theorem So{i j:Array UInt8}:decide (V.mC i=V.mC j)=(i.toList==j.toList):=by rw[uJ];cases i;cases j;simp
section
variable {X:Cx}{a b c:aJ}{ta tb tc:TE}{pos:Pos}
theorem eK{pins:List (Addr×Obj)}{σ:St}{H:Hp}{s:aG}{Q:VK}{k k':Bool}(I:Inv X pins σ H s)(q:Q (.bl k) H)(e:k=k'):EP X pins σ Q (.bool k') s:=by subst e;exact⟨.bl k,H,I,rfl,q⟩
theorem c7:cK X (dM .Eq) AZ:=by
 intro pins s σ H x y v u Q I rx ry h;obtain⟨hs,q⟩:=h;cases x with
 |aK=>
  cases rx;cases y with
  |aK=>cases ry;exact aKq (eK I q (by simp))|bl j=>cases ry;exact aKo (eK I q (by simp))|int j=>obtain⟨t',rfl⟩:=ry;exact aKp (eK I q (by simp))|str j=>obtain⟨t',rfl⟩:=ry;exact aKr (eK I q (by simp))|_=>exact absurd (show aF=aB from hs) dG
 |bl i=>
  cases rx;cases y with
  |aK=>cases ry;exact aKm (eK I q (by simp))|bl j=>cases ry;exact eq_bool (eK I q Sn)|str j=>obtain⟨t',rfl⟩:=ry;exact aKe (eK I q (by simp))|_=>exact absurd (show aF=aB from hs) dG
 |int i=>
  obtain⟨t,rfl⟩:=rx;cases y with
  |aK=>cases ry;exact aKn (eK I q (by simp))|int j=>obtain⟨t',rfl⟩:=ry;exact eq_int (eK I q Sq)|str j=>obtain⟨t',rfl⟩:=ry;exact aKf (eK I q (by simp))|_=>exact absurd (show aF=aB from hs) dG
 |str i=>
  obtain⟨t,rfl⟩:=rx;cases y with
  |aK=>cases ry;exact aKs (eK I q (by simp))|bl j=>cases ry;exact aKg (eK I q (by simp))|int j=>obtain⟨t',rfl⟩:=ry;exact aKh (eK I q (by simp))|str j=>obtain⟨t',rfl⟩:=ry;exact eq_str (eK I q Sr)|_=>exact absurd (show aF=aB from hs) dG
 |mC i=>
  obtain⟨t,rfl⟩:=rx;cases y with
  |mC j=>obtain⟨t',rfl⟩:=ry;exact W.eq_bytes (eK I q So)|_=>exact absurd (show aF=aB from hs) dG
 |_=>cases y<;>exact absurd (show aF=aB from hs) dG
theorem i4:cK X (dM .NotEq) BG:=by
 intro pins s σ H x y v u Q I rx ry h;obtain⟨hs,q⟩:=h;cases x with
 |aK=>
  cases rx;cases y with
  |aK=>cases ry;exact aKx (eK I q (by simp))|bl j=>cases ry;exact aKv (eK I q (by simp))|int j=>obtain⟨t',rfl⟩:=ry;exact aKw (eK I q (by simp))|str j=>obtain⟨t',rfl⟩:=ry;exact aKy (eK I q (by simp))|_=>exact absurd (show aF=aB from hs) dG
 |bl i=>
  cases rx;cases y with
  |aK=>cases ry;exact aKt (eK I q (by simp))|bl j=>cases ry;exact ne_bool (eK I q (congrArg not Sn))|str j=>obtain⟨t',rfl⟩:=ry;exact aKi (eK I q (by simp))|_=>exact absurd (show aF=aB from hs) dG
 |int i=>
  obtain⟨t,rfl⟩:=rx;cases y with
  |aK=>cases ry;exact aKu (eK I q (by simp))|int j=>obtain⟨t',rfl⟩:=ry;exact ne_int (eK I q (congrArg not Sq))|str j=>obtain⟨t',rfl⟩:=ry;exact aKj (eK I q (by simp))|_=>exact absurd (show aF=aB from hs) dG
 |str i=>
  obtain⟨t,rfl⟩:=rx;cases y with
  |aK=>cases ry;exact aKz (eK I q (by simp))|bl j=>cases ry;exact aKk (eK I q (by simp))|int j=>obtain⟨t',rfl⟩:=ry;exact aKl (eK I q (by simp))|str j=>obtain⟨t',rfl⟩:=ry;exact ne_str (eK I q (congrArg not Sr))|_=>exact absurd (show aF=aB from hs) dG
 |mC i=>
  obtain⟨t,rfl⟩:=rx;cases y with
  |mC j=>obtain⟨t',rfl⟩:=ry;exact W.ne_bytes (eK I q (congrArg not So))|_=>exact absurd (show aF=aB from hs) dG
 |_=>cases y<;>exact absurd (show aF=aB from hs) dG
theorem f9:cK X (dM .Lt) (nU λi j=>.bl (decide (i<j))):=yu λ_ _ _ _ _ _ _ q=>lt_int q
theorem f7:cK X (dM .LtE) (nU λi j=>.bl (decide (i<=j))):=yu λ_ _ _ _ _ _ _ q=>le_int q
theorem d3:cK X (dM .Gt) (nU λi j=>.bl (decide (j<i))):=yu λ_ _ _ _ _ _ _ q=>gt_int q
theorem d0:cK X (dM .GtE) (nU λi j=>.bl (decide (j<=i))):=yu λ_ _ _ _ _ _ _ q=>ge_int q
theorem e9:cK X (dM .Is) (λx y H Q=>y = .aK/\Q (.bl (decide (x = .aK))) H):=by
 intro pins s σ H x y v u Q I rx ry h;obtain⟨rfl,q⟩:=h;cases ry;refine is_none_gen (eK I q ?_);cases x<;>first
  | (cases rx;rfl)
  | (obtain⟨t,rfl⟩:=rx;rfl)
theorem j4:cK X (dM .IsNot) (λx y H Q=>y = .aK/\Q (.bl (!decide (x = .aK))) H):=by
 intro pins s σ H x y v u Q I rx ry h;obtain⟨rfl,q⟩:=h;cases ry;refine isnot_none_gen (eK I q ?_);cases x<;>first
  | (cases rx;rfl)
  | (obtain⟨t,rfl⟩:=rx;rfl)
theorem cK.or{f:Value->Value->Sem Value}{r r':R2}(h:cK X f r)(h':cK X f r'):cK X f (λx y H Q=>r x y H Q\/r' x y H Q):=by
 intro pins s σ H x y v u Q I rx ry q;rcases q with q|q
 .exact h pins s σ H x y v u Q I rx ry q
 .exact h' pins s σ H x y v u Q I rx ry q
theorem Za{op:sH}{r:R2}(ho:cK X (dM op) r)(ha:PE X a ta)(hb:PE X b tb)(hm:uh op b=aF):PE X (.Compare a [op] [b] pos) (Bf r ta tb):=by intro pins s σ H Q I h;exact wpAny_Compare1 (Ft ha hb I h λv u s2 x y H2 I2 rx ry q=>ho pins s2 σ H2 x y v u Q I2 rx ry q) hm
def aDe(t:TE):TT:=λσ H Q=>t σ H λx H'=>∃k,x = .bl k/\Q k H'
theorem Zj{op:sH}{r:R2}(ho:cK X (dM op) r)(ha:PE X a ta)(hb:PE X b tb)(hm:uh op b=aF):PT X (.Compare a [op] [b] pos) (aDe (Bf r ta tb)):=by
 intro pins s σ H Q I h;refine wpAny_isTrue_Compare1 (bM (ha pins s σ H _ I h) λv s1 ⟨x,H1,I1,r1,q1⟩=>bM (hb pins s1 σ H1 _ I1 q1) λu s2 ⟨y,H2,I2,r2,q2⟩=>bM (ho pins s2 σ H2 x y v u _ I2 r1 r2 q2) λc s3 ⟨z,H3,I3,r3,k,e,q3⟩=>?_) hm
 subst e;cases r3;exact Ez ⟨H3,I3,q3⟩
def xU(K:aX)(x:V)(H:Hp)(k:Bool):Prop:=
 match x with
 |.aK=>k=aF
 |.bl b=>k=b
 |.int i=>k=(i != 0)
 |.str y=>y.length<=sizeLine/\k=((y.length:Int) != 0)
 |.mC y=>y.size<=sizeLine/\k=((y.size:Int) != 0)
 |.ref p=>(∃xs,cW K H p xs/\k = !xs.isEmpty)\/(∃xs,dE K H p xs/\k = !xs.isEmpty)\/∃aE,H p=aA (.dK aE)/\k = !aE.isEmpty
 |_=>False
theorem WI{κ:Type}{aE:List (κ×V)}{vs:List (κ×Value)}(r:KV aE vs):(!vs.isEmpty) = !aE.isEmpty:=by cases r<;>rfl
theorem Vi{xs:List V}{its:List Value}(r:Vals xs its):(!its.toArray.isEmpty) = !xs.isEmpty:=by cases r<;>simp
theorem yQ:(sizeLine:Nat)<2 ^ 63:=by rw[iB];decide
theorem Br:MN X (λx H Q=>∃k,xU X.K x H k/\Q k H):=by
 intro pins s σ H x v Q I rx h;obtain⟨k,e,q⟩:=h;have hl:=yQ;have hs:sizeLine=16777216:=iB;cases x with
 |aK=>cases rx;have e':k=aF:=e;subst e';exact truthy_none ⟨H,I,q⟩
 |bl b=>cases rx;have e':k=b:=e;subst e';exact Ez ⟨H,I,q⟩
 |int i=>obtain⟨t,rfl⟩:=rx;have e':k=(i != 0):=e;subst e';exact PySem.P.truthy_int ⟨H,I,q⟩
 |str y=>obtain⟨t,rfl⟩:=rx;obtain⟨hy,e'⟩:y.length<=sizeLine/\k=((y.length:Int) != 0):=e;subst e';exact PySem.P.truthy_str (by omega) ⟨H,I.tok _,q⟩
 |mC y=>obtain⟨t,rfl⟩:=rx;obtain⟨hy,e'⟩:y.size<=sizeLine/\k=((y.size:Int) != 0):=e;subst e';exact W.truthy_bytes (by omega) ⟨H,I.tok _,q⟩
 |ref p=>
  cases rx;have e':(∃xs,cW X.K H p xs/\k = !xs.isEmpty)\/(∃xs,dE X.K H p xs/\k = !xs.isEmpty)\/∃aE,H p=aA (.dK aE)/\k = !aE.isEmpty:=e;rcases e' with⟨xs,hx,e'⟩|⟨xs,hx,e'⟩|⟨aE,hx,e'⟩
  .subst e';obtain⟨its,r,pl,hz⟩:=I.list hx;have hlen:=r.length;exact wpAny_truthy_list pl.isList (by simp only[eM];omega) ⟨H,I.tok _,by rw[Vi r];exact q⟩
  .subst e';obtain⟨its,r,pl,hz⟩:=I.tuple hx;have hlen:=r.length;exact truthy_tuple pl (by simp only[eM];omega) ⟨H,I.tok _,by rw[Vi r];exact q⟩
  .subst e';obtain⟨hz,hS,vs,r,m⟩:aE.length<=sizeLine/\(p==kF)=aF/\∃vs,KV aE vs/\s.heap.DictOf (gG X.prog X.w) p vs:=I.aR p _ hx;have hlen:aE.length=vs.length:=Dv r;exact wpAny_truthy_dict hS m (by omega) ⟨H,I.tok _,by rw[WI r];exact q⟩
 |_=>exact(show False from e).elim
theorem D8(ha:PE X a ta)(he:∀whole,isTrue a X.env whole=(do let v <- whole;standAt a.pos;uk [v] (truthy v))) :
  PT X a (λσ H Q=>ta σ H λx H'=>∃k,xU X.K x H' k/\Q k H'):=by
 intro pins s σ H Q I h;exact isTrue_plain (bM (ha pins s σ H _ I h) λv s1 ⟨x,H1,I1,r1,q1⟩=>Br pins s1 σ H1 x v Q I1 r1 q1) (he _)
theorem b8:cK X (eI .Add) (λx y H Q=>∃i j,x = .str i/\y = .str j/\i.length+j.length<=sizeLine/\Q (.str (i++j)) H):=by intro pins s σ H x y v u Q I rx ry h;obtain⟨i,j,rfl,rfl,hz,q⟩:=h;obtain⟨t,rfl⟩:=rx;obtain⟨t',rfl⟩:=ry;exact add_str (λt' tk=>⟨.str (i++j),H,I.tok _,⟨_,rfl⟩,q⟩) hz
theorem kX{x:V}{us:List Value}(r:Vals [x] us):∃u,us=[u]/\RelV x u:=by
 cases r with
 |cons r1 r2=>cases r2;exact⟨_,rfl,r1⟩
theorem Ly{x y:V}{us:List Value}(r:Vals [x,y] us):∃u w',us=[u,w']/\RelV x u/\RelV y w':=by
 cases r with
 |cons r1 r2=>
  cases r2 with
  |cons r3 r4=>cases r4;exact⟨_,_,rfl,r1,r3⟩
theorem OW:jJ X (.type "int") (λxs H Q=>(∃i,xs=[.int i]/\Q (.int i) H)\/∃k,xs=[.bl k]/\Q (.int (if k then 1 else 0)) H):=by
 intro pins s σ H xs us Q I r h;rcases h with⟨i,rfl,q⟩|⟨k,rfl,q⟩
 .obtain⟨u,rfl,t,rfl⟩:=kX r;exact call_int_int ⟨.int i,H,I,⟨_,rfl⟩,q⟩
 .obtain⟨u,rfl,r1⟩:=kX r;cases r1;exact call_int_bool ⟨.int (if k then 1 else 0),H,I.tok _,⟨_,rfl⟩,q⟩
theorem PD:jJ X (.type "str") (λxs H Q=>∃i,xs=[.int i]/\i.natAbs.log2<1920/\Q (.str (toString i)) H):=by intro pins s σ H xs us Q I r h;obtain⟨i,rfl,hz,q⟩:=h;obtain⟨u,rfl,t,rfl⟩:=kX r;exact PySem.P.str_of_int hz ⟨.str _,H,I.tok _,⟨_,rfl⟩,q⟩
end
theorem YB{h:aQ}{dx:Addr}{mA:Str->Option Value}(n:h.Ns1 dx mA):∃od,h.get? dx=aA od/\∀name,KO name od=aA (mA name):=by
 obtain⟨o,es,ep,ho,hd,hk,_,hm⟩:=n;refine⟨o,ho,λname=>?_⟩;have e:=hm name;unfold nsFind findBy at e;rw[<- GU]at e;unfold KO;rw[hd];dsimp only;split
 .rename_i y q;rw[q]at e;exact congrArg aA e
 .rename_i q;rw[q]at e;have a:es.toList.any (·.refKey)=aF:=by rw[IA];intro y hy;obtain⟨z,t,Hu⟩:=hk y (Array.mem_toList_iff.mp hy);simp[DictEntry.refKey,Hu]
  have a':¬es.toList.any (·.refKey)=aB:=by rw[a];exact dG
  rw[if_neg a'];exact congrArg aA e
theorem lZ.some_of{v:V}{o:Option Value}(r:lZ (aA v) o):∃u,o=aA u/\RelV v u:=by
 cases o with
 |none=>exact(show False from r).elim|some u=>exact⟨u,rfl,r⟩
theorem UR{v:V}{u:Value}(r:RelV v u):W.handedIn u=aB:=by
 cases v with
 |aK=>cases(show u=lW from r);rfl|bl b=>cases(show u=qT b from r);rfl|int i=>obtain⟨t,e⟩:=(show∃t,u=ug i t from r);cases e;rfl|str x=>obtain⟨t,e⟩:=(show∃t,u=nY x t from r);cases e;rfl|mC b=>obtain⟨t,e⟩:=(show∃t,u=Value.bytes b t from r);cases e;rfl|xh b=>obtain⟨t,e⟩:=(show∃t,u=Value.float b t from r);cases e;rfl|ref a=>cases(show u=eX a from r);rfl|ty n=>cases(show u=Ef n from r);rfl
section
variable {X:Cx}{pins:List (Addr×Obj)}{σ:St}{H:Hp}{s:aG}{a C dx:Addr}{fs:List (Str×V)}{f:Str}{v:V}{A:bS}{E:Value->aG->Prop}
theorem MY{prog:bG}{w:bD}{env:Env}{e:aJ}{f:Str}{pos:Pos}{s:aG}{Q:Value->aG->Prop}(hb:Eg e f env (eval e env)=eval e env)
  (h:aO (aS prog w) A (eval e env) (λo s₁=>aO (aS prog w) A (getAttr o f aB) Q E s₁) E s):aO (aS prog w) A (eval (.Attribute e f pos) env) Q E s:=
 Attribute_any_ h (by rw[arm_eval_Attribute,hb])
end
structure fL(k:Nat)(A:bS):Prop where
 hd:A.handled=aD
 dp:A.depth+3*k+5<recursionLimit
 un:A.units+16*k+200<cLine
theorem fL.mono{j k:Nat}{A:bS}(r:fL k A)(h:j<=k):fL j A:=⟨r.hd,by have:=r.dp;omega,by have:=r.un;omega⟩
theorem fL.deeper{k:Nat}{A:bS}(r:fL (k+1) A)(env:Env):fL k (A.deeper env):=
 ⟨r.hd,by have:=r.dp;show A.depth+1+3*k+5<_;omega,by have:=r.un;show A.units+3+16*k+200<_;omega⟩
theorem YH{A:bS}{C:Addr}{us:List Value}{kw:List (Str×Value)}:(A.under (.builtin "type.__call__" ⟨.ref C::us,kw⟩)).depth=A.depth+1:=by first|rfl|simp[My,Code.weight,Code.isCreation,Code.isGuard,Code.isCaller,Code.frames,Nf,guardIds]
theorem YI{A:bS}{C:Addr}{us:List Value}{kw:List (Str×Value)}:(A.under (.builtin "type.__call__" ⟨.ref C::us,kw⟩)).units=A.units+1:=by first|rfl|simp[My,Code.cUnits,Code.frames,Nf]
theorem fL.make{k:Nat}{A:bS}(r:fL (k+1) A)(C:Addr)(us:List Value)(kw:List (Str×Value)):fL k (A.under (.builtin "type.__call__" ⟨.ref C::us,kw⟩)):=
 ⟨r.hd,by have:=r.dp;rw[YH];omega,by have:=r.un;rw[YI];omega⟩
theorem fL.depth{k:Nat}{A:bS}(r:fL k A):A.depth<recursionLimit:=by have:=r.dp;omega
theorem fL.units{k:Nat}{A:bS}(r:fL k A):A.units+64<cLine:=by have:=r.un;omega
def DD:TA:=λ_ H Q=>Q [] H
def aCq(ta:TE)(tr:TA):TA:=λσ H Q=>ta σ H λx H1=>tr σ H1 λxs H2=>Q (x::xs) H2
section
variable {X:Cx}{e:aJ}{es:List aJ}{te:TE}{t:TA}{pos:Pos}
theorem oW:PA X [] DD:=λ_ _ _ _ H Q I h=>Calls.spliced_nil ⟨[],H,I,.nil,h⟩
theorem mM(ha:PE X e te)(hr:PA X es t)(hs:eY (e::es) X.env=(aF,eval e X.env)::eY es X.env:=by rfl):PA X (e::es) (aCq te t):=by intro pos pins s σ H Q I h;rw[hs];show aO _ _ (spliced ((aF,eval e X.env)::nZ pos (eY es X.env))) _ _ s;refine Calls.spliced_cons (bM (ha pins s σ H _ I h) λu s1 ⟨x,H1,I1,r1,q1⟩=>?_);exact bM (hr pos pins s1 σ H1 _ I1 q1) λus s2 ⟨xs,H2,I2,r2,q2⟩=>⟨x::xs,H2,I2,.cons r1 r2,q2⟩
def aDg(t:TA):TE:=λσ H Q=>t σ H λxs H1=>xs.length<=sizeLine/\∀p,H1 p=aD->Q (.ref p) (aZ H1 p (.tup xs))
def aCv(t:TA):TE:=λσ H Q=>t σ H λxs H1=>xs.length<=sizeLine/\∀p,H1 p=aD->Q (.ref p) (aZ H1 p (.lst xs))
theorem A0{x1}(h:PA X es t):PE X (.Tuple es x1 pos) (aDg t):=by intro pins s σ H Q I hq;refine wpAny_Tuple_spliced (bM (h pos pins s σ H _ I hq) λus s1 ⟨xs,H1,I1,r,z,q⟩=>⟨by rw[<- r.length];exact z,?_⟩);have hf:H1 s1.heap.objs.size=aD:=I1.aR.fresh (cB _);refine⟨.ref s1.heap.objs.size,aZ H1 s1.heap.objs.size (.tup xs),I1.laid (t':=s1.toks) (λb u e=>dH _ e) (cB _) ?_,rfl,q _ hf⟩;exact⟨z,us,r,⟨_,iM _ rfl,rfl,_,rfl⟩⟩
theorem y6(h:PA X es t):PE X (.List es pos) (aCv t):=by intro pins s σ H Q I hq;refine wpAny_List_spliced (bM (h pos pins s σ H _ I hq) λus s1 ⟨xs,H1,I1,r,z,q⟩=>⟨by rw[<- r.length];exact z,?_⟩);have hf:H1 s1.heap.objs.size=aD:=I1.aR.fresh (cB _);refine⟨.ref s1.heap.objs.size,aZ H1 s1.heap.objs.size (.lst xs),I1.laid (t':=s1.toks) (λb u e=>dH _ e) (cB _) ?_,rfl,q _ hf⟩;exact⟨z,us,0,r,iM _ rfl⟩
end
abbrev Sp:=List V->Hp->VK->XK->Prop
abbrev mY:=List Env->Hp->aG->XK->Value->aG->Prop
structure xP(P:bG)(w:bD)(K:aX)(mg:Str->Option Value)(base:aQ)(A:bS)(outer:List Env)(s:aG)(H:Hp):Prop where
 frames:A.frames=aA outer
 mod:Mod K mg base
 bs:∀b o,base.get? b=aA o->s.heap.get? b=aA o/\H b=aD
 lJ:base.objs.size<=s.heap.objs.size
 jL:s.heap.FunFrames base outer
 nE:∀b∈cN outer,H b=aD
 aR:dW P w H s.heap
 bare:pA s.gens
def CE(outer:List Env)(P:bG)(w:bD)(H:Hp)(s:aG)(Q:VK)(u:Value)(s':aG):Prop:=
 ∃v H',s'.os=s.os/\pA s'.gens/\Un (cN outer) [] H H' s.heap s'.heap/\dW P w H' s'.heap/\RelV v u/\Q v H'
def CR(CX:mY)(outer:List Env)(P:bG)(w:bD)(H:Hp)(s:aG)(Q:VK)(E:XK)(r:Result)(s':aG):Prop:=
 match r with
 |.ok (.ret u)=>CE outer P w H s Q u s'
 |.ok _=>False
 |.error e=>CX outer H s E e s'
structure iN(P:bG)(w:bD)(K:aX)(mg:Str->Option Value)(base:aQ)(CX:mY)(k:Nat)(f:Addr)(fd:eW)(ps:List Str)(sp:Sp):Prop where
 len:∀vs H Q E,sp vs H Q E->vs.length=ps.length
 run:∀(A:bS) (outer:List Env) (s:aG) (H:Hp) (args:Args) (us:List Value) (vs:List V) (Q:VK) (E:XK),fL k A->xP P w K mg base A outer s H->gg s fd args (ps.zip us)->Vals vs us->sp vs H Q E ->
  sN (aS P w) A (.call (.ref f) args) (CR CX outer P w H s Q E) s
theorem iN.imp{P:bG}{w:bD}{K:aX}{mg:Str->Option Value}{base:aQ}{CX:mY}{k:Nat}{f:Addr}{fd:eW}{ps:List Str}{sp sp':Sp}(F:iN P w K mg base CX k f fd ps sp)
  (h:∀vs H Q E,sp' vs H Q E->sp vs H Q E):iN P w K mg base CX k f fd ps sp':=
 ⟨λvs H Q E q=>F.len vs H Q E (h _ _ _ _ q),λA outer s H args us vs Q E hr he hb hv hs=>F.run A outer s H args us vs Q E hr he hb hv (h _ _ _ _ hs)⟩
theorem xP.make{P:bG}{w:bD}{K:aX}{mg:Str->Option Value}{base:aQ}{A:bS}{outer:List Env}{s:aG}{H:Hp}(e:xP P w K mg base A outer s H)(C:Addr)(us:List Value)(kw:List (Str×Value)) :
 xP P w K mg base (A.under (.builtin "type.__call__" ⟨.ref C::us,kw⟩)) outer s H:=⟨by first|exact e.frames|(simpa[My,Code.envs,Nf,pushEnvs]using e.frames),e.mod,e.bs,e.lJ,e.jL,e.nE,e.aR,e.bare⟩
section
variable {X:Cx}{pins:List (Addr×Obj)}{σ:St}{H:Hp}{s s':aG}
theorem Inv.Gy(I:Inv X pins σ H s):xP X.prog X.w X.K X.mg X.base X.A X.stack s H:=
 ⟨I.ok.frames,I.ok.mod,I.bs,eN I.ok.lJ I.sz,I.stack,I.zM,I.aR,I.bare⟩
theorem Inv.after{Q:VK}{u:Value}(I:Inv X pins σ H s)(h:CE X.stack X.prog X.w H s Q u s'):EP X pins σ Q u s':=by obtain⟨v,H',os,bare,un,aR,r,q⟩:=h;obtain⟨hh,g,d,t,os'⟩:=s';obtain rfl:os'=s.os:=os;exact⟨v,H',I.call (h':=hh) (g':=g) (d':=d) (t':=t) (ch:=[]) un aR bare (λb z=>absurd z (by simp)),r,q⟩
end
def DB(sp:Sp)(dvs:List V)(E:XK)(t:TA):TE:=λσ H Q=>t σ H λvs H1=>sp (vs++dvs) H1 Q E
def Binds(K:aX)(fd:eW)(ps:List Str)(ds:List Value):Prop:=
 ∀(s:aG) (us:List Value),K.In s.heap->(us++ds).length=ps.length->gg s fd ⟨us,[]⟩ (ps.zip (us++ds))
theorem Binds.all{K:aX}{fd:eW}{ps:List Str}(h:∀us:List Value,us.length=ps.length->bindArgs fd ⟨us,[]⟩=pure (ps.zip us)):Binds K fd ps []:=λs us _ hl=>by rw[iS]at hl ⊢;exact .of_eq (h us hl)
def jc(CX:mY)(X:Cx)(E:XK):Prop:=∀(pins:List (Addr×Obj)) (σ:St) (H:Hp) (s:aG) (e:Value) (s':aG),Inv X pins σ H s->CX X.stack H s E e s'->X.xe e s'
section
variable {X:Cx}{CX:mY}{k:Nat}{f C:Addr}{fd:eW}{ps:List Str}{sp:Sp}{dvs:List V}{ds:List Value}{E:XK}{x m:Str}{p pos apos:Pos}{e o:aJ}{es:List aJ}{ta:TE}{t:TA}
theorem BP{pins:List (Addr×Obj)}{σ:St}{H:Hp}{s:aG}{Q:VK}{us:List Value}{vs:List V}(F:iN X.prog X.w X.K X.mg X.base CX k f fd ps sp)(hr:fL k X.A)(hb:Binds X.K fd ps ds)(hd:Vals dvs ds)(hx:jc CX X E)
  (I:Inv X pins σ H s) (r:Vals vs us) (h:sp (vs++dvs) H Q E):aO (aS X.prog X.w) X.A (call (.ref f) us) (EP X pins σ Q) X.xe s:=by
 have r2:Vals (vs++dvs) (us++ds):=r.append hd;have hl:(us++ds).length=ps.length:=by rw[<- r2.length];exact F.len _ _ _ _ h
 refine ba (ak (F.run X.A X.stack s H ⟨us,[]⟩ (us++ds) (vs++dvs) Q E hr I.Gy (hb s us I.fW hl) r2 h) λr s' hq=>?_);cases r with
 |error e=>exact hx pins σ H s e s' I hq|ok fl=>
  cases fl with
  |ret u=>exact I.after hq|next=>exact jT hq|brk=>exact jT hq|cont=>exact jT hq
theorem v8(F:iN X.prog X.w X.K X.mg X.base CX k f fd ps sp)(hr:fL k X.A)(hg:Gl X x)(hm:X.mg x=aA (.ref f))(hk:ic X.K (.ref f)=aB)(hb:Binds X.K fd ps ds)(hd:Vals dvs ds)(hx:jc CX X E)
  (ha:PA X (e::es) t) (hdb:(x==("__debug__":Str))=aF:=by decide) (he:eY (e::es) X.env=(aF,eval e X.env)::eY es X.env:=by rfl) (hpl:(nZ pos (eY es X.env)).any (·.1)=aF:=by rfl) :
  PE X (.Call (.Name x p) (e::es) [] pos) (DB sp dvs E t):=by
 intro pins s σ H Q I h;refine uq (da I hg hm ?_ hdb);refine KJ (h₀:=X.base) I.ok.mod.kl hk (bM (ha pos pins s σ H _ I h) λus s1 ⟨vs,H1,I1,r,q⟩=>⟨I1.fW,?_⟩) he hpl;exact BP F hr hb hd hx I1 r q
theorem v9(F:iN X.prog X.w X.K X.mg X.base CX k f fd ps sp)(hr:fL k X.A)(hg:Gl X x)(hm:X.mg x=aA (.ref f))(hk:ic X.K (.ref f)=aB)(hb:Binds X.K fd ps ds)(hd:Vals dvs ds)(hx:jc CX X E)
  (hdb:(x==("__debug__":Str))=aF:=by decide):PE X (.Call (.Name x p) [] [] pos) (DB sp dvs E DD):=by
 intro pins s σ H Q I h;refine uq (da I hg hm ?_ hdb);exact W.callWith_K0 I.fW hk (BP (us:=[]) F hr hb hd hx I .nil h)
end
structure iy(N P:List Str)(sc:eU):Prop where
 kind:sc.kind = .function
 co:sc.isCoroutine=aF
 gen:sc.isGenerator=aF
 nd:N.Nodup
 pre:N.take P.length=P
 par:∀x∈P,sc.names.lookup x=aA .local\/sc.names.lookup x=aA .cell
 ZT:∀y∈sc.names,y.2 ≠ .free
theorem Ra{kindOf:Str->Option sL}{x:Str}:∀{binds:List (Str×Value)}{m:Str->Option Value},(∀v,(x,v)∉binds)->xG kindOf binds m x=m x
 |[],_,_=>rfl
 | (n,v)::r,m,h=>by
  unfold xG;rw[Ra λw hw=>h w (hV _ hw)];split
  .have:x≠n:=by rintro rfl;exact h v fU
   simp[this]
  .rfl
theorem Qy{kindOf:Str->Option sL}{x:Str}:∀{binds:List (Str×Value)}{m:Str->Option Value},(∀v,(x,v)∉binds)->xF kindOf binds m x=m x
 |[],_,_=>rfl
 | (n,v)::r,m,h=>by
  unfold xF;rw[Qy λw hw=>h w (hV _ hw)];split
  .rfl
  .have:x≠n:=by rintro rfl;exact h v fU
   simp[this]
theorem Qz{kindOf:Str->Option sL}{x:Str}{v:Value}:∀{P:List Str}{vs:List Value}{i:Nat}{m:Str->Option Value},P.Nodup->P[i]?=aA x->vs[i]?=aA v->kindOf x=aA .local ->
  xG kindOf (P.zip vs) m x=aA v
 |[],_,_,_,_,h,_,_=>by simp at h
 |_::_,[],_,_,_,_,h,_=>by simp at h
 |p::P,w::vs,0,m,nd,h1,h2,hk=>by simp at h1 h2;subst h1;subst h2;show xG kindOf ((p,w)::P.zip vs) m p=_;unfold xG;rw[Ra λv hv=>(List.nodup_cons.mp nd).1 (Od hv).1,if_pos hk];simp
 |p::P,w::vs,i+1,m,nd,h1,h2,hk=>by show xG kindOf ((p,w)::P.zip vs) m x=_;unfold xG;exact Qz (i:=i) (List.nodup_cons.mp nd).2 (by simpa using h1) (by simpa using h2) hk
theorem Qx{kindOf:Str->Option sL}{x:Str}{v:Value}:∀{P:List Str}{vs:List Value}{i:Nat}{m:Str->Option Value},P.Nodup->P[i]?=aA x->vs[i]?=aA v->kindOf x≠aA .local ->
  xF kindOf (P.zip vs) m x=aA v
 |[],_,_,_,_,h,_,_=>by simp at h
 |_::_,[],_,_,_,_,h,_=>by simp at h
 |p::P,w::vs,0,m,nd,h1,h2,hk=>by simp at h1 h2;subst h1;subst h2;show xF kindOf ((p,w)::P.zip vs) m p=_;unfold xF;rw[Qy λv hv=>(List.nodup_cons.mp nd).1 (Od hv).1,if_neg hk];simp
 |p::P,w::vs,i+1,m,nd,h1,h2,hk=>by show xF kindOf ((p,w)::P.zip vs) m x=_;unfold xF;exact Qx (i:=i) (List.nodup_cons.mp nd).2 (by simpa using h1) (by simpa using h2) hk
def start(N:List Str)(vs:List V):St:=vs.map aA++cJ (N.length-vs.length) aD
def pS(CX:mY)(P:bG)(w:bD)(K:aX)(mg:Str->Option Value)(base:aQ)(N:List Str)(qual:Str)(scope:eU)(f:Addr)(cd:Value)(A:bS)(outer:List Env)(s:aG)(H:Hp)(E:XK):Cx where
 prog:=P
 w:=w
 K:=K
 mg:=mg
 base:=base
 A:=A.deeper (uU qual scope s.heap.objs.size f cd)
 N:=N
 s₀:=s
 H₀:=H
 env:=uU qual scope s.heap.objs.size f cd
 outer:=outer
 stack:=uU qual scope s.heap.objs.size f cd::outer
 ex:=[]
 calm:=aB
 fn:=λ_=>aB
 pn:=[]
 xe:=λe s'=>aO (aS P w) (A.deeper (uU qual scope s.heap.objs.size f cd)) (uV (uU qual scope s.heap.objs.size f cd) e) (λ_ s''=>CX outer H s E e s'') (λe' s''=>CX outer H s E e' s'') s'
theorem Rn{sc:eU}{n:Nat}{x:Str}(h:sc.names.lookup x=aA .cell):∃c,(Pn n sc.names []).lookup x=aA c:=by have q:=KL sc.names n [] (.inl h);exact Option.isSome_iff_exists.mp q
theorem WA{CX:mY}{P:bG}{w:bD}{K:aX}{mg:Str->Option Value}{base:aQ}{N ps:List Str}{qual:Str}{scope:eU}{f:Addr}{cd:Value}{A:bS}{outer:List Env}{s s1:aG}{H:Hp}{E:XK}{us:List Value}{vs:List V}
  (S:iy N ps scope) (hd:A.handled=aD) (e0:xP P w K mg base A outer s H) (hl:vs.length=ps.length) (r:Vals vs us)
  (x:InCallC s s.heap.objs.size (xG (uU qual scope s.heap.objs.size f cd).kindOf (ps.zip us) λ_=>aD) (Pn (s.heap.objs.size+1) scope.names []) (xF (uU qual scope s.heap.objs.size f cd).kindOf (ps.zip us) λ_=>aD) s1) :
  Inv (pS CX P w K mg base N qual scope f cd A outer s H E) [] (start N vs) H s1:=by
 have hpl:ps.length<=N.length:=by have:=congrArg qN S.pre;rw[eT]at this;omega
 obtain⟨h1,tk,rfl,hk⟩:=x.done;have noA:∀b:Addr,b∉(pS CX P w K mg base N qual scope f cd A outer s H E).ex:=λb z=>absurd (show b∈([]:List Addr) from z) (by simp);refine⟨⟨e0.mod,S.kind,rfl,rfl,cB _,λy z c h1 h2=>?_,λy hy=>?_,λy c _ h=>?_,λ_=>hd,Around.frames_deeper e0.frames,.inr ⟨rfl,rfl⟩,λb z=>absurd z (noA b),e0.bs,e0.lJ,λb _ _=>noA b,λb z=>absurd z (noA b),e0.jL,e0.nE⟩,
  rfl,e0.bare,Un.kept hk,⟨_,x.toInCall.ns,λi y v h1 h2 h3=>?_⟩,λy c h=>⟨_,x.cell y c h⟩,e0.aR.fresh (cB _),λy c h=>?_,λp hp=>absurd (show p∈([]:List (Addr×Obj)) from hp) (by simp),e0.aR.kept hk,?_⟩
 .exact name_of_addr x.apart (ue h1) (ue h2)
 .have hy:scope.names.lookup y=aA .cell\/scope.names.lookup y=aA .free:=hy;rcases hy with hy|hy
  .exact Rn hy
  .exact absurd rfl (S.ZT _ (ue hy))
 .exact Ds (x.above y c (ue h))
 .have hi:i<vs.length:=by
   unfold start at h2;by_cases hi:i<vs.length
   .exact hi
   .rw[IM (by simpa using hi)]at h2;rw[IS]at h2;split at h2<;>cases h2
  have ha:vs[i]?=aA v:=by
   unfold start at h2;rw[uL (by simpa using hi),gK]at h2;cases e:vs[i]? with
   |none=>rw[e]at h2;cases h2|some a=>rw[e]at h2;cases h2;rfl
  obtain⟨u,hu,rv⟩:=r.get ha;have hp:ps[i]?=aA y:=by rw[<- S.pre,aJq (by omega)];exact h1
  have ndP:ps.Nodup:=by rw[<- S.pre];exact S.nd.sublist (List.take_sublist _ _)
  refine⟨u,rv,?_⟩;rcases S.par y (fQ hp)with k|k
  .exact .inl ⟨k,Qz ndP hp hu k⟩
  .obtain⟨c,e⟩:=Rn (n:=s.heap.objs.size+1) k;refine .inr ⟨.inl k,c,e,?_⟩;have q:=x.cell y c e;rw[Qx ndP hp hu (by show scope.names.lookup y≠_;rw[k];decide)]at q;exact q
 .exact e0.aR.fresh (Ds (x.above y c (ue h)))
 .unfold start;show _=N.length;rw[fP,aV,sy];omega
theorem TR{CX:mY}{P:bG}{w:bD}{K:aX}{mg:Str->Option Value}{base:aQ}{k:Nat}{f:Addr}{name qual:Str}{params:Mx}{body:List Stmt}{scope:eU}{dV kV doc pm cdv ct oc:Value}{an od:Option Addr}
  {osl:Array (Option Value)}{N ps:List Str}{sp:Sp} (lk:K.lookup f=aA ⟨oc,od,.func (ib name qual params body scope dV kV doc pm an cdv ct),osl⟩) (hcd:Pb K cdv qual=aB) (S:iy N ps scope)
  (len:∀vs H Q E,sp vs H Q E->vs.length=ps.length)
  (Hr:∀(A:bS) (outer:List Env) (s:aG) (H:Hp) (vs:List V) (Q:VK) (E:XK),fL k (A.deeper (uU qual scope s.heap.objs.size f cdv))->sp vs H Q E ->
   ∃t,oH (pS CX P w K mg base N qual scope f cdv A outer s H E) body t/\t { nx:=λ_ H'=>Q .aK H',rt:=Q } (start N vs) H) :
  iN P w K mg base CX (k+1) f (ib name qual params body scope dV kV doc pm an cdv ct) ps sp:=by
 refine⟨len,λA outer s H args us vs Q E hr e0 hb r hsp=>?_⟩;have hl:=len _ _ _ _ hsp;have KX:K.In s.heap:=e0.mod.kl.keeps λb o e=>(e0.bs b o e).1;have lim:s.heap.NoLimit:=e0.mod.nolimit.keeps λb o e=>(e0.bs b o e).1;have VF:∀y∈ps.zip us,scope.names.lookup y.1=aA .local\/(scope.names.lookup y.1=aA .cell/\((Pn (s.heap.objs.size+1) scope.names []).lookup y.1).isSome=aB):=λ⟨n,v⟩ hy=>by
  rcases S.par n (Od hy).1 with q|q
  .exact .inl q
  .exact .inr ⟨q,KL _ _ _ (.inl q)⟩
 refine codeAny_call_function hr.depth (KX _ _ lk) rfl S.co S.gen rfl (W.codeRec_of KX hcd) (hb _ _ _ _ ?_);refine wpAny_newFunctionEnv_cells S.kind VF λenv he s1 x=>?_;subst he;refine⟨lim.keeps x.toInCall.keep,codeAny_func ?_⟩;obtain⟨t,ht,hq⟩:=Hr A outer s H vs Q E (hr.deeper _) hsp;have I:Inv (pS CX P w K mg base N qual scope f cdv A outer s H E) [] (start N vs) H s1:=WA S hr.hd e0 hl r x;refine kH (ht [] s1 (start N vs) H _ I hq) (λfl s' hs=>?_) λe s' hs=>hs;have fin:∀{σ':St} {H':Hp}{v:V}{u:Value},Inv (pS CX P w K mg base N qual scope f cdv A outer s H E) [] σ' H' s'->RelV v u->Q v H'->CE outer P w H s Q u s':=
  λ{σ' H' v u} J rv q=>⟨v,H',J.os,J.bare,J.base,J.aR,rv,q⟩
 cases fl with
 |ret u=>obtain⟨v,σ',H',J,rv,q⟩:=hs;exact fin J rv q
 |next=>obtain⟨σ',H',J,q⟩:=hs;exact fin (v:=V.aK) (u:=lW) J rfl q
 |brk=>obtain⟨_,_,_,q⟩:=hs;exact jT q
 |cont=>obtain⟨_,_,_,q⟩:=hs;exact jT q
section
variable {X:Cx}{x:Str}{p pos:Pos}{e:aJ}{es:List aJ}{t:TA}{id T:String}{r:List V->Hp->VK->Prop}
def DA(r:List V->Hp->VK->Prop)(t:TA):TE:=λσ H Q=>t σ H λvs H1=>r vs H1 Q
theorem lh(hc:jJ X (.builtin id) r) (hg:Gl X x) (hm:X.mg x=aD) (hv:pK x=aA (.builtin id)) (ha:PA X (e::es) t) (hn:x≠"__name__":=by decide) (hdb:(x==("__debug__":Str))=aF:=by decide)
  (he:eY (e::es) X.env=(aF,eval e X.env)::eY es X.env:=by rfl) (hpl:(nZ pos (eY es X.env)).any (·.1)=aF:=by rfl):PE X (.Call (.Name x p) (e::es) [] pos) (DA r t):=by
 intro pins s σ H Q I h;refine uq (cz I hg hm hv ?_ hn hdb);exact aKa (bM (ha pos pins s σ H _ I h) λus s1 ⟨vs,H1,I1,r1,q1⟩=>hc pins s1 σ H1 vs us Q I1 r1 q1) he hpl
theorem x5(hc:jJ X (.type T) r) (hg:Gl X x) (hm:X.mg x=aD) (hv:pK x=aA (.type T)) (ha:PA X (e::es) t) (hn:x≠"__name__":=by decide) (hdb:(x==("__debug__":Str))=aF:=by decide)
  (he:eY (e::es) X.env=(aF,eval e X.env)::eY es X.env:=by rfl) (hpl:(nZ pos (eY es X.env)).any (·.1)=aF:=by rfl):PE X (.Call (.Name x p) (e::es) [] pos) (DA r t):=by
 intro pins s σ H Q I h;refine uq (cz I hg hm hv ?_ hn hdb);exact Dw (bM (ha pos pins s σ H _ I h) λus s1 ⟨vs,H1,I1,r1,q1⟩=>hc pins s1 σ H1 vs us Q I1 r1 q1) he hpl
end
end L2
namespace HT
open PySem PyProof.Rows
section
open PySem.SeqAt
open PySem.AutoSeq1 (wpAny_loadPart')
open PySem.MeetsSeq PySem.MeetsSeq2 PySem.MeetsSeq3
end
section
variable {prog:bG}{w:bD}{A:bS}{E:Value->aG->Prop}{s:aG}
theorem PK{t b:Addr}{vs ws:List Value}{Q:Value->aG->Prop}(ht:IsTup s.heap t vs.toArray)(hb:IsTup s.heap b ws.toArray)(hv:vs≠[])
  (h1:ws=[]->Q (.ref t) s) (h2:ws≠[]->Q (.ref s.heap.objs.size) { s with heap:=s.heap.push { cls:=.type "tuple",data:=.seq (vs++ws).toArray } })
  (hsz:vs.length+ws.length<=sizeLine):aO (aS prog w) A (eI .Add (.ref t) (.ref b)) Q E s:=by
 obtain⟨⟨cls,dd,data,sl⟩,ho,hc,n,hd⟩:=id ht;obtain⟨⟨cls2,dd2,data2,sl2⟩,ho2,hc2,n2,hd2⟩:=id hb;simp only at hc hd hc2 hd2;subst hc hd hc2 hd2;have e:vs.toArray++ws.toArray=(vs++ws).toArray:=by simp
 by_cases hw:ws=[]
 .exact Pp ⟨_,ho,rfl⟩ ⟨_,ho2,rfl⟩ Pt Pw Oy Ow (Ov _ _)
   (tuple_addW1 t b vs.toArray ws.toArray n n2 dd dd2 sl sl2 (by simpa using hv) (by simp[hw])) ⟨ho,ho2,h1 hw⟩
 .refine Pp ⟨_,ho,rfl⟩ ⟨_,ho2,rfl⟩ Pt Pw Oy Ow (Ov _ _)
   (tuple_addW2 t b vs.toArray ws.toArray n n2 dd dd2 sl sl2 (by simpa using hv) (by simpa using hw) (by rw[eM,eM];exact hsz)) ⟨ho,ho2,?_⟩
  rw[e];exact h2 hw
def bF(n d:Nat):Option Int->Nat
 |none=>d
 |some v=>if v<0 then(v+(n:Int)).toNat else min v.toNat n
theorem aAg(n d:Nat):bF n d aD=d:=rfl
theorem Ar(n d k:Nat):bF n d (aA (k:Int))=min k n:=by show(if(k:Int)<0 then((k:Int)+(n:Int)).toNat else min (k:Int).toNat n)=min k n;rw[if_neg (by omega),gm]
theorem aAf(n d:Nat)(hd:d<=n)(o:Option Int):bF n d o<=n:=by
 cases o with
 |none=>exact hd|some v=>
  show(if v<0 then(v+(n:Int)).toNat else min v.toNat n)<=n;by_cases hv:v<0
  .rw[if_pos hv];omega
  .rw[if_neg hv];exact Nat.min_le_right _ _
theorem Sa(v:Int)(n d:Nat):(if v<0 then max (v+(n:Int)) 0 else min v (n:Int))=((bF n d (aA v):Nat):Int):=by
 show(if v<0 then max (v+(n:Int)) 0 else min v (n:Int))=(((if v<0 then(v+(n:Int)).toNat else min v.toNat n):Nat):Int);by_cases hv:v<0
 .simp only[if_pos hv];omega
 .simp only[if_neg hv];omega
theorem MP(lo hi:Option Int)(n:Nat):Nd lo hi 1 (n:Int)=(((bF n 0 lo:Nat):Int),((bF n n hi:Nat):Int)):=by
 have h1:¬((1:Int)<0):=by omega
 unfold Nd;simp only[h1,if_false];refine Prod.ext ?_ ?_
 .cases lo with
  |none=>rfl|some v=>exact Sa v n 0
 .cases hi with
  |none=>rfl|some v=>exact Sa v n n
theorem B6(i j:Nat):Cm (i:Int) (j:Int) 1=j-i:=by
 unfold Cm;have h1:(1:Int) > 0:=by omega
 simp only[h1,if_true,Int.ediv_one];split<;>omega
theorem BX{v:Value}{o:Option Int}{Q:Option Int->aG->Prop}(p:wY v o)(h:Q o s):aO (aS prog w) A (Builtin.Slice.slicePartIndex v) Q E s:=by
 cases p with
 |none=>exact LO h|int i t=>exact slicePart_int h
theorem aAt{sl:Addr}{vl vu:Value}{lo hi:Option Int}{n:Nat}{Q:Int×Int×Nat->aG->Prop}(hs:s.heap.IsSliceOf sl vl vu .none)(pl:wY vl lo)(pu:wY vu hi)
  (h:Q (((bF n 0 lo:Nat):Int),1,bF n n hi-bF n 0 lo) s):aO (aS prog w) A (GZ (.ref sl) (pure (n:Int))) Q E s:=by
 obtain⟨os,hos,hcs,hds⟩:=id hs;unfold GZ Builtin.Slice.sliceFields;refine aL (aL (jI hos hds (x:=vl) rfl (aL (jI hos hds (x:=vu) rfl (aL (jI hos hds (x:=.none) rfl (bH ?_)))))));refine aL (LO ?_);show aO _ _ (if((1:Int)==0)=aB then _ else _) _ _ s;rw[if_neg (by decide)];refine aL (BX pl (aL (BX pu (aL (bH ?_)))));show aO _ _ (match Nd lo hi 1 (n:Int)with|(lo,hi)=>pure (lo,(1:Int),Cm lo hi 1)) _ _ s;rw[MP lo hi n];show aO _ _ (pure (((bF n 0 lo:Nat):Int),(1:Int),Cm ((bF n 0 lo:Nat):Int) ((bF n n hi:Nat):Int) 1)) _ _ s;rw[B6];exact bH h
theorem B4(xs:Array Value)(i k:Nat):((gL k).filterMap λ(m:Nat)=>xs[((i:Int)+(m:Int)*1).toNat]?).toArray=((xs.toList.drop i).take k).toArray:=by
 have e:(λ(m:Nat)=>xs[((i:Int)+(m:Int)*1).toNat]?)=λm=>xs[i+m]?:=by
  funext m
  have:((i:Int)+(m:Int)*1).toNat=i+m:=by omega
  rw[this]
 rw[e];have:=pick_run xs i k;rw[Nt]at this;have e2:((λx=>xs[x]?) ∘ λx=>i+x)=λm=>xs[i+m]?:=rfl;rw[e2]at this;rw[this]
theorem UK{t sl:Addr}{items:Array Value}{vl vu:Value}{lo hi:Option Int}{Q:Value->aG->Prop}(ht:IsTup s.heap t items)(hs:s.heap.IsSliceOf sl vl vu .none)(pl:wY vl lo)(pu:wY vu hi)
  (hw:¬(bF items.size 0 lo=0/\bF items.size items.size hi=items.size))
  (h:Q (.ref s.heap.objs.size) { s with heap:=s.heap.push { cls:=.type "tuple",data:=.seq ((items.toList.drop (bF items.size 0 lo)).take (bF items.size items.size hi-bF items.size 0 lo)).toArray } })
  (hsz:items.size<=sizeLine):aO (aS prog w) A (ao (.ref t) (.ref sl)) Q E s:=by
 have xw:sizeOk (.seq ((items.toList.drop (bF items.size 0 lo)).take (bF items.size items.size hi-bF items.size 0 lo)).toArray):=by show((items.toList.drop (bF items.size 0 lo)).take (bF items.size items.size hi-bF items.size 0 lo)).toArray.size<=sizeLine;rw[eM,eT,uM,Cj];omega
 have hj:bF items.size items.size hi<=items.size:=aAf _ _ (cB _) hi;obtain⟨os,hos,hcs,hds⟩:=id hs;have hTs:s.TypeIs (.ref sl) "slice":=⟨os,hos,hcs⟩;unfold ao;try with_reducible refine kG ?_
 first|refine aL (bH ?_)|skip
 refine aL (wpAny_sequenceKey ht.typeIs (by decide) ?_);refine aL (uu (name:=uf "__getitem__") ht.typeIs JY
  (ik JY ht.typeIs entry_tuple_getitem ?_ (args_tuple_getitem _ _)))
 show aO _ _ (HD (.ref t)>>=_) _ _ s;refine aL (tupleItemsOf_ ht ?_);refine aL (MJ hTs ?_);rw[if_pos (by decide)];refine aL (aAt hs pl pu ?_);have hno:¬((((bF items.size 0 lo:Nat):Int)==0&&(1:Int)==1&&(bF items.size items.size hi-bF items.size 0 lo)==items.size)=aB):=by intro q;rw[aY,aY]at q;have q1:((bF items.size 0 lo:Nat):Int)=0:=eq_of_beq q.1.1;have q2:bF items.size items.size hi-bF items.size 0 lo=items.size:=eq_of_beq q.2;exact hw ⟨by omega,by omega⟩
 show aO _ _ (if(((bF items.size 0 lo:Nat):Int)==0&&(1:Int)==1&&(bF items.size items.size hi-bF items.size 0 lo)==items.size)=aB then _ else _) _ _ s;rw[if_neg hno,B4];first
  |exact aL (m:=Cq _) (bf (bH ⟨_,rfl,bH h⟩) xw)|exact aL (m:=Cq _) (bf (aL (bH (bH ⟨_,rfl,bH h⟩))) xw)|exact aL (aL (m:=Cq _) (bf (bH (bH ⟨_,rfl,bH h⟩)) xw))|exact aL (aL (m:=Cq _) (bf (bH ⟨_,rfl,bH h⟩) xw))
end
end HT
namespace L2
open PySem PySem.Spec PyProof.Rows
abbrev TO:=St->Hp->(Option Int->Hp->Prop)->Prop
def PO(X:Cx)(e:Option aJ)(t:TO):Prop:=
 ∀(pins:List (Addr×Obj)) (s:aG) (σ:St) (H:Hp) (Q:Option Int->Hp->Prop),Inv X pins σ H s->t σ H Q ->
  aO (aS X.prog X.w) X.A (evalPart e X.env) (λu s'=>∃o H',Inv X pins σ H' s'/\wY u o/\Q o H') X.xe s
def aCx:TO:=λ_ H Q=>Q aD H
def aDb(t:TE):TO:=λσ H Q=>t σ H λx H1=>∃i,x = .int i/\Q (aA i) H1
section
variable {X:Cx}{e:aJ}{te:TE}{lo hi:Option aJ}{tl th:TO}{pos p2:Pos}
theorem B9:PO X aD aCx:=by intro pins s σ H Q I h;rw[LL];exact bH ⟨aD,H,I,.none,h⟩
theorem C0(h:PE X e te):PO X (aA e) (aDb te):=by intro pins s σ H Q I hw;rw[evalPart_some];refine bM (h pins s σ H _ I hw) λu s1 ⟨x,H1,I1,r1,q1⟩=>?_;obtain⟨i,rfl,q⟩:=q1;obtain⟨t,rfl⟩:=r1;exact⟨aA i,H1,I1,.int i t,q⟩
def vA(X:Cx)(r:V->Option Int->Option Int->Hp->VK->Prop):Prop:=
 ∀(pins:List (Addr×Obj)) (s:aG) (σ:St) (H:Hp) (x:V) (v vl vu:Value) (lo hi:Option Int) (sl:Addr) (Q:VK),Inv X pins σ H s->RelV x v->s.heap.IsSliceOf sl vl vu .none->wY vl lo->wY vu hi->r x lo hi H Q ->
  ∃T id,Es (.type T) "__getitem__"=pure (aA (.builtin id))/\s.TypeIs v T/\aO (aS X.prog X.w) X.A (ao v (.ref sl)) (EP X pins σ Q) X.xe s
theorem vA.or{r r':V->Option Int->Option Int->Hp->VK->Prop}(h:vA X r)(h':vA X r'):vA X (λx lo hi H Q=>r x lo hi H Q\/r' x lo hi H Q):=by
 intro pins s σ H x v vl vu lo hi sl Q I rx hs pl pu q;rcases q with q|q
 .exact h pins s σ H x v vl vu lo hi sl Q I rx hs pl pu q
 .exact h' pins s σ H x v vl vu lo hi sl Q I rx hs pl pu q
def tSl(r:V->Option Int->Option Int->Hp->VK->Prop)(te:TE)(tl th:TO):TE:=λσ H Q=>te σ H λx H1=>tl σ H1 λl H2=>th σ H2 λu H3=>r x l u H3 Q
theorem z9{r:V->Option Int->Option Int->Hp->VK->Prop}(hr:vA X r)(he:PE X e te)(hl:PO X lo tl)(hu:PO X hi th):PE X (.Subscript e (.Slice lo hi aD p2) pos) (tSl r te tl th):=by intro pins s σ H Q I h;refine Subscript_ (bM (he pins s σ H _ I h) λv s1 ⟨x,H1,I1,r1,q1⟩=>?_);refine wpAny_Slice (bM (hl pins s1 σ H1 _ I1 q1) λvl s2 ⟨l,H2,I2,pl,q2⟩=>bM (hu pins s2 σ H2 _ I2 q2) λvu s3 ⟨u,H3,I3,pu,q3⟩=>?_);rw[LL];refine bH ?_;have I4:Inv X pins σ H3 { s3 with heap:=s3.heap.push { cls:=.type "slice",data:=.fields #[vl,vu,.none] } }:=I3.kept (t':=s3.toks) λb ob q=>dH _ q;obtain⟨T,id,hT,ht,hg⟩:=hr pins { s3 with heap:=s3.heap.push { cls:=.type "slice",data:=.fields #[vl,vu,.none] } } σ H3 x v vl vu l u s3.heap.objs.size Q I4 r1 (Heap.IsSliceOf.new ..) pl pu q3;show aO (aS X.prog X.w) X.A (Pz e (.Slice lo hi aD p2) v (.ref s3.heap.objs.size)) (EP X pins σ Q) X.xe { s3 with heap:=s3.heap.push { cls:=.type "slice",data:=.fields #[vl,vu,.none] } };exact tail_any (ops:=[.ref s3.heap.objs.size,v]) ht hT hg (by with_unfolding_all rfl)
def vI(xs:List V)(lo hi:Option Int):List V:=(xs.drop (HT.bF xs.length 0 lo)).take (HT.bF xs.length xs.length hi-HT.bF xs.length 0 lo)
theorem Sj(xs:List V)(lo hi:Option Int):(vI xs lo hi).length<=xs.length:=by unfold vI;rw[eT,uM];omega
def X5(K:aX):V->Option Int->Option Int->Hp->VK->Prop:=λx lo hi H Q=>∃a xs,x = .ref a/\dE K H a xs /\
 ¬(HT.bF xs.length 0 lo=0/\HT.bF xs.length xs.length hi=xs.length)/\∀p,H p=aD->Q (.ref p) (aZ H p (.tup (vI xs lo hi)))
theorem aAs:vA X (X5 X.K):=by
 intro pins s σ H x v vl vu lo hi sl Q I rx hs pl pu h;obtain⟨a,xs,rfl,hx,hw,q⟩:=h;cases rx;obtain⟨its,r,ht,hz⟩:=I.tuple hx;have hlen:its.toArray.size=xs.length:=by rw[eM];exact r.length.symm
 refine⟨"tuple",_,PyProof.Rows.slot_tuple_getitem.lookup,ht.typeIs,?_⟩;refine HT.UK ht hs pl pu (by rw[hlen];exact hw) ?_ (by rw[hlen];exact hz);rw[hlen];refine⟨.ref s.heap.objs.size,_,I.laid (t':=s.toks) (o:=.tup (vI xs lo hi)) (λb ob q=>dH _ q) (cB _) ?_,rfl,q _ (I.aR.fresh (cB _))⟩;exact⟨eN (Sj xs lo hi) hz,_,(r.drop (HT.bF xs.length 0 lo)).take (HT.bF xs.length xs.length hi-HT.bF xs.length 0 lo),IsTup.new _ _⟩
def W4(K:aX):R2:=λx y H Q=>∃a b xs ys,x = .ref a/\y = .ref b/\dE K H a xs/\dE K H b ys/\xs≠[]/\xs.length+ys.length<=sizeLine /\
 (ys=[]->Q (.ref a) H)/\(ys≠[]->∀p,H p=aD->Q (.ref p) (aZ H p (.tup (xs++ys))))
theorem Vals.Ji{xs:List V}{us:List Value}(r:Vals xs us):us=[]↔xs=[]:=by
 cases r with
 |nil=>simp|cons _ _=>simp
theorem c5:cK X (eI .Add) (W4 X.K):=by intro pins s σ H x y v u Q I rx ry h;obtain⟨a,b,xs,ys,rfl,rfl,ha,hb,hx,hz,q1,q2⟩:=h;cases rx;cases ry;obtain⟨its,r1,p1,_⟩:=I.tuple ha;obtain⟨tR,r2,p2,_⟩:=I.tuple hb;refine HT.PK p1 p2 (λz=>hx (r1.Ji.mp z)) (λz=>⟨.ref a,H,I,rfl,q1 (r2.Ji.mp z)⟩) (λz=>?_) (by rw[<- r1.length,<- r2.length];exact hz);refine⟨.ref s.heap.objs.size,_,I.laid (t':=s.toks) (o:=.tup (xs++ys)) (λb ob q=>dH _ q) (cB _) ?_,rfl,q2 (λw=>z (r2.Ji.mpr w)) _ (I.aR.fresh (cB _))⟩;exact⟨by rw[fP];exact hz,_,r1.append r2,IsTup.new _ _⟩
end
def kR(n:Nat)(i:Int):Option Nat:=if 0<=i then(if i<n then aA i.toNat else aD) else if -(n:Int)<=i then aA (i+n).toNat else aD
def eP{α:Type}(xs:List α)(i:Int):Option α:=(kR xs.length i).bind λj=>xs[j]?
theorem Vp{n:Nat}{i:Int}{j:Nat}(h:kR n i=aA j):seqIndex? i n=aA j/\j<n/\-(n:Int)<=i/\i<n:=by
 unfold kR at h;by_cases h0:0<=i
 .rw[if_pos h0]at h;by_cases h1:i<n
  .rw[if_pos h1]at h;have e:i.toNat=j:=dB h;exact⟨by rw[Pu h0 h1,e],by omega,by omega,h1⟩
  .rw[if_neg h1]at h;cases h
 .rw[if_neg h0]at h;by_cases h1:-(n:Int)<=i
  .rw[if_pos h1]at h;have e:(i+n).toNat=j:=dB h;exact⟨by rw[seqIndex_neg (by omega) h1,e],by omega,h1,by omega⟩
  .rw[if_neg h1]at h;cases h
theorem Fp{α:Type}{xs:List α}{i:Int}{v:α}(h:eP xs i=aA v):∃j,seqIndex? i xs.length=aA j/\xs[j]?=aA v/\j<xs.length/\-(xs.length:Int)<=i/\i<xs.length:=by
 unfold eP at h;cases e:kR xs.length i with
 |none=>rw[e]at h;cases h|some j=>rw[e]at h;obtain⟨h1,h2,h3,h4⟩:=Vp e;exact⟨j,h1,h,h2,h3,h4⟩
theorem vE{α:Type}{xs:List α}{j:Nat}{v:α}(h:xs[j]?=aA v):eP xs (j:Int)=aA v:=by
 have hj:j<xs.length:=(List.getElem?_eq_some_iff.mp h).1;have e:kR xs.length (j:Int)=aA j:=by unfold kR;rw[if_pos (by omega),if_pos (by omega)];simp
 unfold eP;rw[e];exact h
def vj(b:aJ):Prop:=∀o i,Qa b aF o i=operate [o,i] (ao o i)
def oF(X:Cx)(r:R2):Prop:=
 ∀(value slice:aJ) (pins:List (Addr×Obj)) (s:aG) (σ:St) (H:Hp) (x y:V) (v u:Value) (Q:VK),Inv X pins σ H s->RelV x v->RelV y u->r x y H Q ->
  Qa slice aF v u=operate [v,u] (ao v u)->aO (aS X.prog X.w) X.A (Pz value slice v u) (EP X pins σ Q) X.xe s
def sR(X:Cx)(id:String)(r:V->List V->Hp->VK->Prop):Prop:=
 ∀(pins:List (Addr×Obj)) (s:aG) (σ:St) (H:Hp) (x:V) (xs:List V) (v:Value) (us:List Value) (Q:VK),Inv X pins σ H s->RelV x v->Vals xs us->r x xs H Q ->
  aO (aS X.prog X.w) X.A (call (.builtin id) (v::us)) (EP X pins σ Q) X.xe s
section
variable {X:Cx}{a b:aJ}{ta tb:TE}{pos:Pos}
theorem oF.or{r r':R2}(h:oF X r)(h':oF X r'):oF X (λx y H Q=>r x y H Q\/r' x y H Q):=by
 intro value slice pins s σ H x y v u Q I rx ry q hs;rcases q with q|q
 .exact h value slice pins s σ H x y v u Q I rx ry q hs
 .exact h' value slice pins s σ H x y v u Q I rx ry q hs
theorem Zb{r:R2}(hr:oF X r)(ha:PE X a ta)(hb:PE X b tb)(hs:vj b):PE X (.Subscript a b pos) (Bf r ta tb):=by intro pins s σ H Q I h;exact Subscript_ (Ft ha hb I h λv u s2 x y H2 I2 rx ry q=>hr a b pins s2 σ H2 x y v u Q I2 rx ry q (hs _ _))
def BC(K:aX):R2:=λx y H Q=>∃p xs i v,x = .ref p/\y = .int i/\cW K H p xs/\eP xs i=aA v/\Q v H
def BE(K:aX):R2:=λx y H Q=>∃p xs i v,x = .ref p/\y = .int i/\dE K H p xs/\eP xs i=aA v/\Q v H
def BD:R2:=λx y H Q=>∃z i c,x = .str z/\y = .int i/\z.length<=sizeLine/\eP z.cps.toList i=aA c/\Q (.str ⟨#[c]⟩) H
theorem WR:oF X (BC X.K):=by
 intro value slice pins s σ H x y v u Q I rx ry h hs;obtain⟨p,xs,i,z,rfl,rfl,hq,he,q⟩:=h;cases rx;obtain⟨t,rfl⟩:=ry;obtain⟨its,r,pl,hz⟩:=I.list hq;obtain⟨j,h1,h2,h3,h4,h5⟩:=Fp he;obtain⟨w,ew,rw'⟩:=r.get h2;have hl:=r.length;have hn:=yQ;have fin:EP X pins σ Q w s:=⟨z,H,I,rw',q⟩;by_cases h0:0<=i
 .have hj:i.toNat=j:=by rw[Pu h0 h5]at h1;exact dB h1
  exact item_listR pl.isList h0 (by omega) (by rw[hj];simpa using ew) fin hs
 .have hj:(i+(its.toArray.size:Int)).toNat=j:=by rw[seqIndex_neg (by omega) h4]at h1;rw[eM,<- hl];exact dB h1
  exact LP (x:=w) pl.isList.typeIs slot_list_getitem.lookup
   (wpAny_getItem_list_neg (Q:=λr s'=>r=w/\EP X pins σ Q r s') pl.isList (by omega) (by rw[eM]<;>omega) (by omega) (by rw[hj];simpa using ew) ⟨rfl,fin⟩) hs
theorem WV:oF X (BE X.K):=by
 intro value slice pins s σ H x y v u Q I rx ry h hs;obtain⟨p,xs,i,z,rfl,rfl,hq,he,q⟩:=h;cases rx;obtain⟨t,rfl⟩:=ry;obtain⟨its,r,pl,hz⟩:=I.tuple hq;obtain⟨j,h1,h2,h3,h4,h5⟩:=Fp he;obtain⟨w,ew,rw'⟩:=r.get h2;have hl:=r.length;have hn:=yQ;have fin:EP X pins σ Q w s:=⟨z,H,I,rw',q⟩;exact LP (x:=w) pl.typeIs slot_tuple_getitem.lookup
  (getItem_tuple (j:=j) (Q:=λr s'=>r=w/\EP X pins σ Q r s') pl (by omega) (by omega) (by rw[eM,<- hl];exact h1) (by simpa using ew) ⟨rfl,fin⟩) hs
theorem WT:oF X BD:=by
 intro value slice pins s σ H x y v u Q I rx ry h hs;obtain⟨z,i,c,rfl,rfl,hz,he,q⟩:=h;obtain⟨t,rfl⟩:=rx;obtain⟨t',rfl⟩:=ry;obtain⟨j,h1,h2,h3,h4,h5⟩:=Fp he;have hl:z.cps.toList.length=z.length:=by simp[Str.length]
 rw[hl]at h1 h4 h5;have hn:=yQ;exact tail_any (az s z t) slot_str_getitem.lookup (getItem_str (c:=c) (by
  have e1:decide (i < -(2 ^ 63:Int))=aF:=decide_eq_false (by omega);have e2:decide (i ≥ 2 ^ 63)=aF:=decide_eq_false (by omega);rw[e1,e2,Na]) (by rw[h1];simpa using h2) ⟨.str ⟨#[c]⟩,H,I.tok _,⟨_,rfl⟩,q⟩) hs
def Km(K:aX):R2:=λx y H Q=>BC K x y H Q\/BE K x y H Q\/BD x y H Q
theorem WS:oF X (Km X.K):=WR.or (WV.or WT)
theorem YK(its:List Value)(n j:Nat)(u:Value):ub (·.setIfInBounds j u) { cls:=.type "list",data:=.seq its.toArray n }={ cls:=.type "list",data:=.seq (its.set j u).toArray n }:=by simp[ub]
theorem Inv.lst{pins:List (Addr×Obj)}{σ:St}{H:Hp}{s:aG}{p:Addr}{xs:List V}(I:Inv X pins σ H s)(h:H p=aA (.lst xs)) :
  ∃(its:List Value) (n:Nat),Vals xs its/\s.heap.get? p=aA { cls:=.type "list",data:=.seq its.toArray n }/\xs.length<=sizeLine:=by
 obtain⟨z,its,n,r,e⟩:=I.aR p _ h;exact⟨its,n,r,e,z⟩
theorem Inv.YF{pins:List (Addr×Obj)}{σ:St}{H:Hp}{s:aG}{p:Addr}{xs ys:List V}{its its':List Value}{n n':Nat}{f:Obj->Obj}(I:Inv X pins σ H s)(h:H p=aA (.lst xs))
  (ho:s.heap.get? p=aA { cls:=.type "list",data:=.seq its.toArray n }) (hf:f { cls:=.type "list",data:=.seq its.toArray n }={ cls:=.type "list",data:=.seq its'.toArray n' }) (r:Vals ys its') (hz:ys.length<=sizeLine) (t:Nat) :
  Inv X pins σ (aZ H p (.lst ys)) { s with heap:=s.heap.update p f,toks:=t }:=by
 have e:(s.heap.update p f).get? p=aA { cls:=.type "list",data:=.seq its'.toArray n' }:=by rw[rm f ho (by rw[hf]<;>rfl),hf]
 refine I.write (x:=p) (e:=p) (by rw[h];trivial) (.inl rfl) (λb u hb q=>(Cy _ _ (kE hb)).trans q) ⟨_,e⟩ ?_;exact⟨hz,its',n',r,e⟩
def BH:V->V->V->Hp->(Hp->Prop)->Prop:=λo i v H Q=>∃p xs k j,o = .ref p/\i = .int k/\H p=aA (.lst xs)/\kR xs.length k=aA j/\Q (aZ H p (.lst (xs.set j v)))
theorem aAk:Fi X BH:=by
 intro pins s σ H o i v ov iv u Q I ro ri rv h;obtain⟨p,xs,k,j,rfl,rfl,hp,hj,q⟩:=h;cases ro;obtain⟨t,rfl⟩:=ri;obtain⟨its,n,r,ho,hz⟩:=I.lst hp;obtain⟨h1,h2,h3,h4⟩:=Vp hj;have hl:=r.length;have hn:=yQ;have I':Inv X pins σ (aZ H p (.lst (xs.set j v))) { s with heap:=s.heap.update p (ub (·.setIfInBounds j u)) }:=
  I.YF hp ho (YK its n j u) (r.set rv j) (by rw[List.length_set];exact hz) s.toks
 by_cases h0:0<=k
 .have hk:k.toNat=j:=by rw[Pu h0 h4]at h1;exact dB h1
  exact W.ki_setAt ho h0 (by omega) (by rw[eM,<- hl];exact h4) (by rw[hk];exact⟨_,I',q⟩)
 .have hk:(k+(its.toArray.size:Int)).toNat=j:=by rw[seqIndex_neg (by omega) h3]at h1;rw[eM,<- hl];exact dB h1
  exact W.ki_setBack ho (by omega) (by rw[eM,<- hl];exact h3) (by omega) (by rw[hk];exact⟨_,I',q⟩)
theorem aAw(lo hi:Option Int)(n:Nat):(aw lo hi aD n).1=((HT.bF n 0 lo:Nat):Int)/\(aw lo hi aD n).2.1=((HT.bF n n hi:Nat):Int)/\(aw lo hi aD n).2.2=1:=by
 refine⟨?_,?_,rfl⟩
 .cases lo with
  |none=>simp[aw,HT.bF]|some i=>
   simp only[aw,HT.bF,Oo,show(1:Int) > 0 by decide,if_true];by_cases h:i<0
   .simp only[h,if_true]<;>omega
   .simp only[h,if_false]<;>omega
 .cases hi with
  |none=>simp[aw,HT.bF]|some i=>
   simp only[aw,HT.bF,Oo,show(1:Int) > 0 by decide,if_true];by_cases h:i<0
   .simp only[h,if_true]<;>omega
   .simp only[h,if_false]<;>omega
theorem aAu(its:List Value)(lo hi:Option Int):slicePick its.toArray lo hi aD=((its.drop (HT.bF its.length 0 lo)).take (HT.bF its.length its.length hi-HT.bF its.length 0 lo)).toArray:=by obtain⟨h1,h2,h3⟩:=aAw lo hi its.toArray.size;unfold slicePick;rw[h1,h2,h3];simp only[sliceRange_one,pick_run,eM]<;>rfl
def X3(K:aX):V->Option Int->Option Int->Hp->VK->Prop:=λx lo hi H Q=>∃a xs,x = .ref a/\cW K H a xs/\∀p,H p=aD->Q (.ref p) (aZ H p (.lst (vI xs lo hi)))
theorem aAq:vA X (X3 X.K):=by intro pins s σ H x v vl vu lo hi sl Q I rx hs pl pu h;obtain⟨a,xs,rfl,hx,q⟩:=h;cases rx;obtain⟨its,r,ht,hz⟩:=I.list hx;have hlen:=r.length;refine⟨"list",_,slot_list_getitem.lookup,ht.isList.typeIs,?_⟩;refine wpAny_getItem_list_slice ht.isList hs pl pu .none (by simp) ?_ (by rw[eM]<;>omega);rw[aAu,<- hlen];refine⟨.ref s.heap.objs.size,_,I.laid (t':=s.toks) (o:=.lst (vI xs lo hi)) (λb ob q=>dH _ q) (cB _) ?_,rfl,q _ (I.aR.fresh (cB _))⟩;exact⟨eN (Sj xs lo hi) hz,_,0,(r.drop (HT.bF xs.length 0 lo)).take (HT.bF xs.length xs.length hi-HT.bF xs.length 0 lo),iM _ rfl⟩
def kM:V->Bool
 |.aK=>aB
 |.bl _=>aB
 |.int _=>aB
 |.str _=>aB
 |_=>aF
def jV:V->V->Bool
 |.aK,.aK=>aB
 |.bl a,.bl b=>a==b
 |.bl a,.int b=>(if a then 1 else 0)==b
 |.int a,.bl b=>a==(if b then 1 else 0)
 |.int a,.int b=>a==b
 |.str a,.str b=>a==b
 |_,_=>aF
theorem Ha{A:bS}{s:aG}{y x:V}{u v:Value}(ry:RelV y u)(rx:RelV x v)(fy:kM y=aB)(fx:kM x=aB):ie A s u v (jV y x):=by
 cases y with
 |aK=>
  cases ry;cases x with
  |aK=>cases rx;exact Pj _|bl b=>cases rx;exact SeqAt.EqAt.none_bool b|int b=>obtain⟨t,rfl⟩:=rx;exact KS b t|str b=>obtain⟨t,rfl⟩:=rx;exact KU b t|_=>exact absurd (show aF=aB from fx) dG
 |bl a=>
  cases ry;cases x with
  |aK=>cases rx;exact SeqAt.EqAt.bool_none a|bl b=>cases rx;exact SeqAt.EqAt.bool_bool a b|int b=>obtain⟨t,rfl⟩:=rx;exact SeqAt.EqAt.bool_int a b t|str b=>obtain⟨t,rfl⟩:=rx;exact SeqAt.EqAt.bool_str a b t|_=>exact absurd (show aF=aB from fx) dG
 |int a=>
  obtain⟨t',rfl⟩:=ry;cases x with
  |aK=>cases rx;exact KQ a t'|bl b=>cases rx;exact SeqAt.EqAt.int_bool a t' b|int b=>obtain⟨t,rfl⟩:=rx;exact SeqAt.EqAt.int_int a t' b t|str b=>obtain⟨t,rfl⟩:=rx;exact KR a t' b t|_=>exact absurd (show aF=aB from fx) dG
 |str a=>
  obtain⟨t',rfl⟩:=ry;cases x with
  |aK=>cases rx;exact KY a t'|bl b=>cases rx;exact SeqAt.EqAt.str_bool a t' b|int b=>obtain⟨t,rfl⟩:=rx;exact KW a t' b t|str b=>obtain⟨t,rfl⟩:=rx;exact SeqAt.EqAt.str_str a t' b t|_=>exact absurd (show aF=aB from fx) dG
 |_=>exact absurd (show aF=aB from fy) dG
def fB(x:V)(u:Value):Bool:=match u with
 |.none=>jV .aK x
 |.bool b=>jV (.bl b) x
 |.int i _=>jV (.int i) x
 |.str z _=>jV (.str z) x
 |_=>aF
theorem xb{x y:V}{u:Value}(r:RelV y u)(f:kM y=aB):fB x u=jV y x:=by
 cases y with
 |aK=>cases r;rfl|bl b=>cases r;rfl|int i=>obtain⟨t,rfl⟩:=r;rfl|str z=>obtain⟨t,rfl⟩:=r;rfl|_=>exact absurd (show aF=aB from f) dG
theorem jg{x:V}:∀{xs:List V}{us:List Value},Vals xs us->xs.all kM=aB->us.any (fB x)=xs.any λy=>jV y x
 |_,_,.nil,_=>rfl|y::xs,u::us,.cons r t,f=>by rw[hG,aY]at f;rw[kC,kC,xb r f.1,jg t f.2]
theorem ko{A:bS}{s:aG}{x:V}{v:Value}(rx:RelV x v)(fx:kM x=aB):∀{xs:List V}{us:List Value},Vals xs us->xs.all kM=aB->∀u∈us,ie A s u v (fB x u)
 |_,_,.nil,_=>λu hu=>by cases hu
 |y::xs,u::us,.cons r t,f=>λu' hu=>by
  rw[hG,aY]at f;rcases List.mem_cons.mp hu with rfl|hu
  .rw[xb r f.1];exact Ha r rx f.1 fx
  .exact ko rx fx t f.2 u' hu
def tP(x:V)(xs:List V):Bool:=xs.any λy=>jV y x
def BA(K:aX)(neg:Bool):R2:=λx y H Q=>∃p xs,y = .ref p/\(cW K H p xs\/dE K H p xs)/\kM x=aB/\xs.all kM=aB/\Q (.bl (if neg then !tP x xs else tP x xs)) H
theorem e8:cK X (dM .In) (BA X.K aF):=by
 intro pins s σ H x y v u Q I rx ry h;obtain⟨p,xs,rfl,hq,fx,fs,q⟩:=h;cases ry;rcases hq with hq|hq
 .obtain⟨its,r,pl,hz⟩:=I.list hq;refine KZ (fB x) pl.isList (λw hw=>ko rx fx r fs w (by simpa using hw)) ⟨.bl _,H,I,rfl,?_⟩;rw[show its.toArray.any (fB x)=its.any (fB x) by simp,jg r fs];exact q
 .obtain⟨its,r,pl,hz⟩:=I.tuple hq;refine LA (fB x) pl (λw hw=>ko rx fx r fs w (by simpa using hw)) ⟨.bl _,H,I,rfl,?_⟩;rw[show its.toArray.any (fB x)=its.any (fB x) by simp,jg r fs];exact q
theorem i9:cK X (dM .NotIn) (BA X.K aB):=by
 intro pins s σ H x y v u Q I rx ry h;obtain⟨p,xs,rfl,hq,fx,fs,q⟩:=h;cases ry;rcases hq with hq|hq
 .obtain⟨its,r,pl,hz⟩:=I.list hq;refine SeqAt.notIn_listAt (fB x) pl.isList (λw hw=>ko rx fx r fs w (by simpa using hw)) ⟨.bl _,H,I,rfl,?_⟩;rw[show its.toArray.any (fB x)=its.any (fB x) by simp,jg r fs];exact q
 .obtain⟨its,r,pl,hz⟩:=I.tuple hq;refine SeqAt.notIn_tupleAt (fB x) pl (λw hw=>ko rx fx r fs w (by simpa using hw)) ⟨.bl _,H,I,rfl,?_⟩;rw[show its.toArray.any (fB x)=its.any (fB x) by simp,jg r fs];exact q
theorem PB:jJ X (.builtin "len") (λxs H Q=>∃p ys,xs=[.ref p]/\(cW X.K H p ys\/dE X.K H p ys)/\Q (.int ys.length) H):=by
 intro pins s σ H xs us Q I r h;obtain⟨p,ys,rfl,hq,q⟩:=h;obtain⟨u,rfl,rx⟩:=kX r;cases rx;have hn:=yQ;rcases hq with hq|hq
 .obtain⟨its,r',pl,hz⟩:=I.list hq;have hlen:=r'.length;exact Calls.call_len_list pl.isList (by simp only[eM]<;>omega) ⟨.int ys.length,H,I.tok _,⟨s.toks+1,by rw[eM,hlen]⟩,q⟩
 .obtain⟨its,r',pl,hz⟩:=I.tuple hq;have hlen:=r'.length;exact len_tuple pl (by simp only[eM]<;>omega) ⟨.int ys.length,H,I.tok _,⟨s.toks+1,by rw[eM,hlen]⟩,q⟩
theorem PC:jJ X (.builtin "len") (λxs H Q=>∃z,xs=[.str z]/\z.length<=sizeLine/\Q (.int z.length) H):=by intro pins s σ H xs us Q I r h;obtain⟨z,rfl,hz,q⟩:=h;obtain⟨u,rfl,t,rfl⟩:=kX r;have hn:=yQ;exact len_str (by omega) ⟨.int z.length,H,I.tok _,⟨_,rfl⟩,q⟩
theorem jJ.or{f:Value}{r r':List V->Hp->VK->Prop}(h:jJ X f r)(h':jJ X f r'):jJ X f (λxs H Q=>r xs H Q\/r' xs H Q):=by
 intro pins s σ H xs us Q I rs q;rcases q with q|q
 .exact h pins s σ H xs us Q I rs q
 .exact h' pins s σ H xs us Q I rs q
theorem PH:jJ X (.type "tuple") (λxs H Q=>∃p ys,xs=[.ref p]/\((cW X.K H p ys/\∀l,H l=aD->Q (.ref l) (aZ H l (.tup ys)))\/(dE X.K H p ys/\Q (.ref p) H))):=by
 intro pins s σ H xs us Q I r h;obtain⟨p,ys,rfl,h⟩:=h;obtain⟨u,rfl,rx⟩:=kX r;cases rx;rcases h with⟨hq,q⟩|⟨hq,q⟩
 .obtain⟨its,r',pl,hz⟩:=I.list hq;have hlen:=r'.length;refine call_tuple_list pl.isList (λh' kp=>?_) (by simp only[eM]<;>omega);have I1:Inv X pins σ H { s with heap:=h' }:=I.kept (t':=s.toks) kp;have I2:Inv X pins σ (aZ H h'.objs.size (.tup ys)) { s with heap:=h'.push { cls:=.type "tuple",data:=.seq its.toArray } }:=
   I1.laid (t':=s.toks) (λb o e=>dH _ e) (cB _) (show eZ X.prog X.w _ _ _ (.tup ys) from⟨hz,its,r',IsTup.new _ _⟩)
  exact⟨.ref h'.objs.size,_,I2,rfl,q _ (I1.aR.fresh (cB _))⟩
 .obtain⟨its,r',pl,hz⟩:=I.tuple hq;exact call_tuple_same pl ⟨.ref p,H,I,rfl,q⟩
def ES(K:aX)(T:String)(x:V)(H:Hp):Prop:=match x with
 |.str _=>T="str"
 |.int _=>T="int"
 |.ref p=>(T="list"/\∃xs,cW K H p xs)\/(T="tuple"/\∃o,K.lookup p=aA o/\o.cls = .type "tuple"/\o.dict=aD) \/
  (T="dict"/\((∃aE,H p=aA (.dK aE))\/∃aE,H p=aA (.dT aE)))\/(T="set"/\∃S n,H p=aA (.set S n))
 |_=>False
theorem aEu{pins:List (Addr×Obj)}{σ:St}{H:Hp}{s:aG}{T:String}{x:V}{v:Value}(I:Inv X pins σ H s)(r:RelV x v)(ty:ES X.K T x H) :
  s.TypeIs v T/\∀a,v = .ref a->∃ob,s.heap.get? a=aA ob/\ob.dict=aD:=by
 cases x with
 |str z=>obtain⟨t,rfl⟩:=r;cases(show T="str" from ty);exact⟨az s z t,λ_ e=>nomatch e⟩
 |int i=>obtain⟨t,rfl⟩:=r;cases(show T="int" from ty);exact⟨Qb s i t,λ_ e=>nomatch e⟩
 |ref p=>
  cases r;rcases ty with⟨rfl,xs,hq⟩|⟨rfl,o,hk,hc,hd⟩|⟨rfl,hk⟩|⟨rfl,S,n,hk⟩
  .obtain⟨its,_,pl,_⟩:=I.list hq;refine⟨pl.isList.typeIs,λa e=>?_⟩;cases e;obtain⟨o,n,e,c,hd,_⟩:=pl;exact⟨o,e,hd⟩
  .refine⟨⟨o,I.fW p o hk,hc⟩,λa e=>?_⟩;cases e;exact⟨o,I.fW _ o hk,hd⟩
  .have z:∃o,s.heap.get? p=aA o/\o.ExactDict:=by
    rcases hk with⟨aE,hk⟩|⟨aE,hk⟩
    .obtain⟨_,_,_,_,o,_,_,e,ex,_⟩:=I.aR p _ hk;exact⟨o,e,ex⟩
    .obtain⟨_,_,_,_,o,_,_,e,ex,_⟩:=I.aR p _ hk;exact⟨o,e,ex⟩
   obtain⟨o,e,ex⟩:=z;refine⟨⟨o,e,ex.1⟩,λa e2=>?_⟩;cases e2;exact⟨o,e,ex.2.1⟩
  .obtain⟨o,_,_,_,e,ex,_⟩:=I.aR p _ hk;refine⟨⟨o,e,ex.1⟩,λa e2=>?_⟩;cases e2;exact⟨o,e,ex.2.1⟩
 |_=>exact jT ty
def tBM(K:aX)(T:String)(r:V->List V->Hp->VK->Prop)(to:TE)(t:TA):TE:=λσ H Q=>to σ H λx H1=>ES K T x H1/\t σ H1 λxs H2=>r x xs H2 Q
variable {o e:aJ}{es:List aJ}{to:TE}{t:TA}{name:Str}{apos kL:Pos}{T id:String}{r:V->List V->Hp->VK->Prop}
theorem dz(pa:PlainAttrs T) (slot:Slot T name id) (hty:uW (.builtin id)=pure (.type "method_descriptor")) (hm:sR X id r) (ho:PE X o to) (ha:PA X (e::es) t)
  (vO:Eg o name X.env (eval o X.env)=eval o X.env:=by rfl)
  (VA:((nZ kL (eY (e::es) X.env)).all (λx=>!x.1)&&(backToKw kL (keywordEach [] X.env)).all (λx=>x.1.isSome)
  &&decide ((e::es).length+([]:List wZ).length+(if([]:List wZ).isEmpty then 0 else 1)<30))=aB:=by rfl)
  (VH:(apos.endLine==kL.line)=aB:=by rfl) (hs:eY (e::es) X.env=(aF,eval e X.env)::eY es X.env:=by rfl) (Hw:(nZ kL (eY es X.env)).any (·.1)=aF:=by rfl) :
  PE X (.Call (.Attribute o name apos) (e::es) [] kL) (tBM X.K T r to t):=by
 intro pins s σ H Q I h;refine wpAny_Call_method_late vO VA VH rfl (bM (ho pins s σ H _ I h) λv s1 ⟨x,H1,I1,r1,ty,q1⟩=>?_);obtain⟨h1,h2⟩:=aEu I1 r1 ty;refine⟨T,id,pa,slot,hty,h1,h2,?_⟩;have hA:=ha kL pins s1 σ H1 _ I1 q1;rw[hs]at hA ⊢;refine Calls.callWith_builtin (by show(aF||(nZ kL (eY es X.env)).any (·.1))=aF;rw[Hw]<;>rfl) (HI ?_);exact bM hA λus s2 ⟨vs,H2,I2,r2,q2⟩=>hm pins s2 σ H2 x vs v us Q I2 r1 r2 q2
end
def vd(X:Cx)(id:String)(r:V->List V->Hp->VK->Prop):Prop:=
 ∀(pins:List (Addr×Obj)) (s:aG) (σ:St) (H:Hp) (x:V) (xs:List V) (v:Value) (us:List Value) (Q:VK),Inv X pins σ H s->RelV x v->Vals xs us->r x xs H Q ->
  aO (aS X.prog X.w) X.A (call (.builtin id) (v::us)) (EP X pins σ Q) X.xe s
theorem Vals.one:∀{x:V}{us:List Value},Vals [x] us->∃u,us=[u]/\RelV x u
 |_,_,.cons r .nil=>⟨_,rfl,r⟩
theorem Vals.rep{xs:List V}{us:List Value}(h:Vals xs us):∀k:Nat,Vals (cJ k xs).flatten (cJ k us).flatten
 |0=>.nil
 |k+1=>by rw[pG,pG,gq,gq];exact Vals.append h (Vals.rep h k)
theorem Ue(its:List Value):∀(k:Nat) (acc:List Value),
  Nx (λx1 x2=>x1++x2) acc.toArray (cJ k its.toArray)=(acc++(cJ k its).flatten).toArray
 |0,acc=>by simp
 |k+1,acc=>by
  have e:acc.toArray++its.toArray=(acc++its).toArray:=by simp
  have e2:(acc++its)++(cJ k its).flatten=acc++(cJ (k+1) its).flatten:=by rw[pG,gq,qL]
  rw[<- e2,<- Ue its k (acc++its),<- e,pG,Ny]
section
variable {X:Cx}{pins:List (Addr×Obj)}{σ:St}{H:Hp}{s:aG}{l b:Addr}{xs ys zs:List V}
theorem Inv.YE{its its':List Value}{n:Nat}{f:Array Value->Array Value}{t':Nat}(I:Inv X pins σ H s)(hH:H l=aA (.lst xs))
  (e:s.heap.get? l=aA { cls:=.type "list",data:=.seq its.toArray n }) (hf:f its.toArray=its'.toArray) (hv:Vals ys its') (hz:ys.length<=sizeLine) :
  Inv X pins σ (aZ H l (.lst ys)) { s with heap:=s.heap.update l (ub f),toks:=t' }:=by
 have q:=PySem.IsL.update e f;rw[hf]at q;refine I.write (x:=l) (e:=l) (by rw[hH];exact trivial) (.inl rfl) (λb' u hb hu=>(Cy s.heap (ub f) (kE hb)).trans hu) ⟨_,q⟩ ?_;exact⟨hz,its',_,hv,q⟩
theorem Inv.Xm{its:List Value}{t':Nat}(I:Inv X pins σ H s)(hv:Vals ys its)(hz:ys.length<=sizeLine) :
  Inv X pins σ (aZ H s.heap.objs.size (.lst ys)) { s with heap:=s.heap.push { cls:=.type "list",data:=.seq its.toArray },toks:=t' }:=
 I.laid (λ_ _ q=>dH _ q) (cB _) ⟨hz,its,0,hv,iM _ rfl⟩
theorem Inv.fresh(I:Inv X pins σ H s):H s.heap.objs.size=aD:=I.aR.fresh (cB _)
theorem Inv.vQ(I:Inv X pins σ H s)(hH:H l=aA (.lst xs)):xs.length<=sizeLine/\∃(its:List Value) (n:Nat),Vals xs its/\xs.length=its.length/\s.heap.get? l=aA { cls:=.type "list",data:=.seq its.toArray n }:=by obtain⟨z,its,n,r,e⟩:=I.aR l _ hH;exact⟨z,its,n,r,r.length,e⟩
theorem ZU{n:Nat}(h:n<=sizeLine):Nc n=aF:=by unfold Nc;exact decide_eq_false (by omega)
end
section
variable {X:Cx}
def AW:V->List V->Hp->VK->Prop:=λx vs H Q=>∃l xs y,x = .ref l/\vs=[y]/\H l=aA (.lst xs)/\xs.length<sizeLine/\Q .aK (aZ H l (.lst (xs++[y])))
theorem YS:vd X "list.append" AW:=by intro pins s σ H x vs v us Q I rx rv h;obtain⟨l,xs,y,rfl,rfl,hH,hz,q⟩:=h;cases rx;obtain⟨u,rfl,ru⟩:=rv.one;obtain⟨z,its,n,r,hl,e⟩:=I.vQ hH;refine xH F.slot_list_append ⟨_,e,rfl⟩ F.entry_list_append (F.args_list_append_2 _ _) (PySem.list_append l its.toArray n u (by rw[eM];omega)) ⟨e,?_⟩;refine⟨.aK,_,I.YE (its':=its++[u]) hH e (by simp) (r.append (.cons ru .nil)) ?_,rfl,q⟩;rw[fP,uN];omega
def AX:R2:=λx y H Q=>∃l b xs zs,x = .ref l/\y = .ref b/\H l=aA (.lst xs)/\H b=aA (.lst zs)/\xs.length+zs.length<=sizeLine/\∀p,H p=aD->Q (.ref p) (aZ H p (.lst (xs++zs)))
theorem c4:cK X (eI .Add) AX:=by
 intro pins s σ H x y v u Q I rx ry h;obtain⟨l,b,xs,zs,rfl,rfl,hH,hB,hz,q⟩:=h;cases rx;cases ry;obtain⟨z,its,n,r,hl,e⟩:=I.vQ hH;obtain⟨z2,tR,n2,r2,hl2,e2⟩:=I.vQ hB;refine PySem.P.add_list e e2 ?_ (by rw[eM,eM];omega);have ea:its.toArray++tR.toArray=(its++tR).toArray:=by simp
 rw[ea];exact⟨.ref _,_,I.Xm (t':=s.toks) (r.append r2) (by rw[fP];omega),rfl,q _ I.fresh⟩
def X1:R2:=λx y H Q=>∃l k xs,x = .ref l/\y = .int k/\H l=aA (.lst xs)/\-(2 ^ 63)<=k/\k<2 ^ 63/\xs.length*k.toNat<=sizeLine /\
 ∀p,H p=aD->Q (.ref p) (aZ H p (.lst (cJ k.toNat xs).flatten))
theorem XY{α:Type}(xs:List α)(k:Nat):(cJ k xs).flatten.length=k*xs.length:=by
 induction k with
 |zero=>simp|succ k ih=>rw[pG,gq,fP,ih,JQ,JM]
theorem j8:cK X (eI .Mult) X1:=by
 intro pins s σ H x y v u Q I rx ry h;obtain⟨l,k,xs,rfl,rfl,hH,h1,h2,hz,q⟩:=h;cases rx;obtain⟨t,rfl⟩:=ry;obtain⟨z,its,n,r,hl,e⟩:=I.vQ hH;have hlen:its.toArray.size*k.toNat<=sizeLine:=by rw[eM,<- hl];exact hz
 have UW:¬its.toArray.size*k.toNat > (2 ^ 63-1) / 8:=by
  have:(sizeLine:Nat)<=(2 ^ 63-1) / 8:=by decide
  omega
 have VB:¬(!Builtin.List.listFitsIndex k)=aB:=by rw[fitsIndex_both h1 h2];exact dG
 have VI:¬Nc (its.toArray.size*k.toNat)=aB:=by rw[ZU hlen];exact dG
 have VJ:Nx (λx1 x2=>x1++x2) #[] (cJ (if its.toArray.isEmpty=aB then 0 else k.toNat) its.toArray)=(cJ k.toNat its).flatten.toArray:=by
  have f0:∀m:Nat,Nx (λx1 x2=>x1++x2) #[] (cJ m its.toArray)=(cJ m its).flatten.toArray:=λm=>by have:=Ue its m [];rw[hW]at this;exact this
  rw[f0];cases its with
  |nil=>simp|cons a r'=>rw[if_neg (by simp)]
 refine wpAny_binaryOp_repeat_ref (T:="list") (U:="int") (by decide) ⟨_,e,rfl⟩ (λs'=>Qb s' k t) noFill_list_mul F.fills_int_mul HR repeat_list F.slot_int_index.lookup
  (xH HR (Qb s k t) F.entry_int_rmul (F.args_int_rmul_2 _ _) (int___rmul___int_list k t l its.toArray n)
   ⟨e,rfl,⟨_,e,rfl⟩,xH F.slot_list_mul ⟨_,e,rfl⟩ F.entry_list_mul (F.args_list_mul_2 _ _) (aJi l its.toArray n k t VB UW VI) ⟨e,?_⟩⟩)
 rw[VJ];exact⟨.ref _,_,I.Xm (t':=s.toks) (r.rep k.toNat) (by rw[XY,Nat.mul_comm];exact hz),rfl,q _ I.fresh⟩
end
end L2
namespace Att
open PySem PySem.W PySem.Calls PyProof.Rows
theorem VZ{P:dD}{h:aQ}:∀(ns:List Int) (vs:List Value),WellAll P h vs (ns.map WData.int)->rq vs ns:=by
 intro ns;induction ns with
 |nil=>intro vs w;rw[Dl]at w;cases w;exact .nil
 |cons n ns ih=>
  intro vs w;rw[dS]at w;cases w with
  |cons a b=>cases a;exact .cons _ _ (ih _ b)
theorem aAi{l:OpenLaw}{n:Nat}(hn:l.most=aA n){P:dD}{h:aQ}{args:List WData}{vals:List Value}
  (xv:l.row.toRowW.claim.pre args=aB) (hwl:WellAll P h vals args) :
  ∃a vs ns,vals=[eX a]/\args=[WData.list (ns.map WData.int)]/\h.get? a=aA { cls:=.type "list",data:=.seq vs.toArray }/\rq vs ns/\ns.length<=n:=by
 have hsh:WShape.hasAll [] args [.list .int]=aB:=(pre_splitW xv).1;have hc:l.pre.holds [] { args:=args }=aB:=(pre_splitW xv).2;obtain⟨d,r,rfl,h1,h2⟩:=hasAllW_cons hsh;obtain rfl:=hasAllW_nil h2;obtain⟨xs,rfl,h3⟩:=hasW_list h1;obtain⟨ns,rfl⟩:=items_int h3;have hlen:ns.length<=n:=by
  unfold OpenLaw.pre at hc;have h4:(WTm.not (.lt (.lit (.int (n:Int))) (.len (.arg 0)))).holds [] { args:=[.list (ns.map .int)] }=aB:=by have h4:=(holds_andW hc).1;rw[hn]at h4;exact h4
  have h5:=condW_of h4 (w_not (w_lt w_lit (w_len_list (w_arg rfl))));rw[aV]at h5;refine Nat.le_of_not_lt λq=>?_;have q':(n:Int)<((ns.length:Nat):Int):=by omega
  first
   | (rw[decide_eq_true q']at h5;exact absurd h5 (by decide))
   | (simp at h5;omega)
 cases hwl with
 |cons w1 w2=>
  cases w2;cases w1 with
  |list ho oS=>exact⟨_,_,ns,rfl,rfl,ho,VZ ns _ oS,hlen⟩
theorem C1(l:OpenLaw)(args:List WData):l.row.toRowW.claim.post args (.bool aB) args=aB:=
 postW_of (r:=l.row.toRowW) (X:=(aB==aB))
  (show WShape.has [] (.bool aB) .bool=aB by first|rfl|decide|simp[WShape.has,WShape.arms,WShape.armsAll])
  (show(WTm.eq .res (.lit (.bool aB))).value [] { args:=args,res:=aA (.bool aB),after:=args }=aA (.bool (aB==aB)) from w_eq_bool (w_res rfl) w_lit) rfl
theorem MX{l:OpenLaw}{n:Nat}{q:bG}{loose:List Str}{XP:(Str->Option Value)->aQ->Prop}{YP:bD->aQ->Prop}{d:DefRec}
  (hn:l.most=aA n) (hdf:d.params.defaults=[])
  (call:∀(w:bD) (s₀ s₁:aG) (mg mb:Str->Option Value) (fa:Addr) (o:Obj) (pm cd doc:Value) (a:Addr) (vs:List Value) (ns:List Int),
   Ground q loose [] XP w s₀ mg mb s₁.heap->YP w s₁.heap ->
   s₁.heap.get? fa=aA o->o.data = .func (docDef d.name d.params d.body d.scope pm cd doc)->s₁.heap.CodeRec cd d.name->mg d.name=aA (.ref fa) ->
   s₁.heap.get? a=aA { cls:=.type "list",data:=.seq vs.toArray }->rq vs ns->ns.length<=n->s₁.gens=#[] ->
   sN (aS l.prog w) xI (.call (.ref fa) ⟨[.ref a],[]⟩) (λr s'=>r = .ok (.ret (.bool aB))/\OldK s₁.heap s'.heap/\s'.os=s₁.os/\pA s'.gens) s₁) :
  WalkO q loose XP YP l.row.toRowW d [] (λf vs=>Pf f vs):=by
 intro w s₀ s₁ mg mb G Y fa o pm cd doc dV kV ho hd hcd hD hmg hg args vals as xv aMq hrd hwl hlo;obtain rfl:dV = .none:=Dflts.none hD hdf;obtain rfl:kV = .none:=Dflts.noKw hD;obtain⟨a,vs,ns,rfl,rfl,Hv,hints,hlen⟩:=aAi hn xv hwl;refine enter_call (ak (call w s₀ s₁ mg mb fa o pm cd doc a vs ns G Y ho (fd_plain hd) hcd hmg Hv hints hlen hg) λr s' hq=>?_);obtain⟨rfl,h2,h3,h4⟩:=hq;exact⟨.inl ⟨.bool aB,.bool aB,[],rfl,λ_=>rfl,.bool aB,C1 l _,λ_=>⟨List.Pairwise.nil,λ_ hm=>(nomatch hm)⟩⟩,h2,h3,h4⟩
end Att
namespace L2
open PySem PySem.Spec PyProof.Rows
theorem EW:∀{vs:List Value}{ns:List Int},rq vs ns->Vals (ns.map V.int) vs
 |_,_,.nil=>.nil
 |_,_,.cons n t h=>.cons ⟨t,rfl⟩ (EW h)
def vg(H:Hp):Prop:=∀b,H b=aD\/∃o xs,H b=aA (.dX o (.lst xs))
theorem XT{P:bG}{w:bD}{K:aX}{mg mb:Str->Option Value}{CX:mY}{k:Nat}{fa a:Addr}{fd:eW}{x:Str}{sp:Sp}{s₁:aG}{vs:List Value}{ns:List Int}
  (KX:K.In s₁.heap) (hns:s₁.heap.Ns eJ mg) (hb:s₁.heap.Ns Pm mb) (hbb:∀x:Str,x≠"__name__"->mb x=pK x) (VG:s₁.heap.NoLimit) (hg:s₁.gens=#[])
  (ha:s₁.heap.get? a=aA { cls:=.type "list",data:=.seq vs.toArray }) (hi:rq vs ns) (hl:ns.length<=sizeLine) (hr:fL k xI)
  (F:∀base:aQ,K.In base->base.Ns eJ mg->iN P w K mg base CX k fa fd [x] sp) (UU:∀(s:aG) (u:Value),gg s fd ⟨[u],[]⟩ [(x,u)])
  (hsp:∀H:Hp,vg H->cW K H a (ns.map V.int)->sp [.ref a] H (λv _=>v = .bl aB) λ_ _ _=>False)
  (hCX:∀H e s',CX [] H s₁ (λ_ _ _=>False) e s'->False) :
  sN (aS P w) xI (.call (.ref fa) ⟨[.ref a],[]⟩) (λr s'=>r = .ok (.ret (.bool aB))/\OldK s₁.heap s'.heap/\s'.os=s₁.os/\pA s'.gens) s₁:=by
 have rv:=EW hi;have lenV:=hi.length;have core:∀H:Hp,vg H->cW K H a (ns.map V.int)->dW P w H s₁.heap->(∀b,H b≠aD->b=a)->(H a≠aD->K.lookup a=aD) ->
   sN (aS P w) xI (.call (.ref fa) ⟨[.ref a],[]⟩) (λr s'=>r = .ok (.ret (.bool aB))/\OldK s₁.heap s'.heap/\s'.os=s₁.os/\pA s'.gens) s₁:=by
  intro H hO hS aR hA hK;have base_of:∀{b:Addr}{o:Obj},s₁.heap.get? b=aA o->H b=aD->(tM s₁.heap H).get? b=aA o:=λe n=>VC e n;have noA:∀{b:Addr}{o:Obj}{es:Array DictEntry}{ep:Nat},s₁.heap.get? b=aA o->o.data = .dict es ep->H b=aD:=λ{b o es ep} e d=>by
   cases q:H b with
   |none=>rfl|some u=>have e':b=a:=hA b (by rw[q];simp);subst e';rw[ha]at e;cases e;have d':Data.seq vs.toArray _=Data.dict es ep:=d;cases d'
  have nsK:∀{b:Addr}{m:Str->Option Value},s₁.heap.Ns b m->(tM s₁.heap H).Ns b m:=λ{b m} ⟨o,es,ep,e,d,r⟩=>⟨o,es,ep,base_of e (noA e d),d,r⟩;have hKb:K.In (tM s₁.heap H):=λb o e=>base_of (KX b o e) (by
   cases q:H b with
   |none=>rfl|some u=>have e':b=a:=hA b (by rw[q];simp);subst e';rw[hK (by rw[q];simp)]at e;cases e)
  have hM:Mod K mg (tM s₁.heap H):=⟨hKb,nsK hns,⟨mb,nsK hb,hbb⟩,let ⟨mc,h1,h2⟩:=VG;⟨mc,nsK h1,h2⟩⟩;have e0:xP P w K mg (tM s₁.heap H) xI [] s₁ H:=⟨rfl,hM,λb o e=>ZY e,Nat.le_of_eq (VD _ _),trivial,λb hb=>absurd (show b∈([]:List Addr) from hb) (by simp),aR,.of_eq hg⟩;refine ak ((F _ hKb (nsK hns)).run xI [] s₁ H ⟨[.ref a],[]⟩ [.ref a] [.ref a] _ _ hr e0 (UU s₁ (.ref a)) (.cons rfl .nil) (hsp H hO hS)) λr s' h=>?_;cases r with
  |error e=>exact(hCX H e s' h).elim|ok fl=>
   cases fl with
   |next=>exact jT h|brk=>exact jT h|cont=>exact jT h|ret u=>
    obtain⟨v,H',os,bare,un,hok',r',q⟩:=h;have q':v = .bl aB:=q;subst q';obtain rfl:u=qT aB:=r';refine⟨rfl,OldK.of_keep λb o e=>?_,os,bare⟩;cases q:H b with
    |none=>exact un.keep b o e q (by intro z;exact absurd (show b∈([]:List Addr) from z) (by simp)) (by simp)|some u=>
     rcases hO b with z|⟨ob,xs,z⟩
     .rw[q]at z;cases z
     .have z2:=un.kO b ob _ z;obtain⟨e1,_⟩:=aR b _ z;obtain⟨e2,_⟩:=hok' b _ z2;rw[e]at e1;cases e1;exact e2
 cases hk:K.lookup a with
 |some o=>have e:=KX a o hk;rw[ha]at e;cases e;refine core (λ_=>aD) (λ_=>.inl rfl) (.inr ⟨_,vs.toArray,_,hk,rfl,rfl,rfl,by rw[eM,lenV];exact hl,by simpa using rv⟩) (λb u z=>by have z':(aD:Option HO)=aA u:=z;cases z') (λb z=>absurd rfl z) λz=>absurd rfl z
 |none=>
  refine core (λb=>if b=a then aA (.dX { cls:=.type "list",data:=.seq vs.toArray } (.lst (ns.map V.int))) else aD) (λb=>?_) (.inl (.inr ⟨{ cls:=.type "list",data:=.seq vs.toArray },if_pos rfl⟩)) (λb u z=>?_) (λb z=>?_) λ_=>hk
  .by_cases hb:b=a
   .exact .inr ⟨_,_,if_pos hb⟩
   .exact .inl (if_neg hb)
  .by_cases hb:b=a
   .have z':=(if_pos hb).symm.trans z;cases z';subst hb;exact⟨ha,by rw[aV];exact hl,vs,_,rv,ha⟩
   .have z':=(if_neg hb).symm.trans z;cases z'
  .by_cases hb:b=a
   .exact hb
   .exact absurd (if_neg hb) z
theorem aFl{l:Pa}{n k:Nat}{q:bG}{loose:List Str}{XP:(Str->Option Value)->aQ->Prop}{YP:bD->aQ->Prop}{d:DefRec}{K:dD->aX}{CX:bD->mY}{sp:bD->Sp}{x:Str}
  (hn:l.most=aA n) (hn2:n<=sizeLine) (hdf:d.params.defaults=[]) (hr:fL k xI)
  (hY:∀(w:bD) (h:aQ),YP w h->(K w.params).In h)
  (F:∀(w:bD) (mg:Str->Option Value) (fa:Addr) (h:aQ),(K w.params).In h->h.Ns eJ mg->mg d.name=aA (.ref fa) ->
   ∃fd:eW,(∀(s:aG) (u:Value),gg s fd ⟨[u],[]⟩ [(x,u)]) /\
    ∀base:aQ,(K w.params).In base->base.Ns eJ mg->iN l.prog w (K w.params) mg base (CX w) k fa fd [x] (sp w))
  (hsp:∀(w:bD) (H:Hp) (a:Addr) (ns:List Int),ns.length<=n->vg H->cW (K w.params) H a (ns.map V.int)->sp w [.ref a] H (λv _=>v = .bl aB) λ_ _ _=>False)
  (hCX:∀(w:bD) (H:Hp) (s:aG) (e:Value) (s':aG),CX w [] H s (λ_ _ _=>False) e s'->False) :
  KI q loose XP YP l.row.toRowW d [] (λf vs=>Pf f vs):=by
 refine Att.MX hn hdf λw s₀ s₁ mg mb fa o pm cd doc a vs ns G Y ho hd hcd hmg Hv hints hlen hg=>?_;have KX:=hY w _ Y;obtain⟨fd,hb,hF⟩:=F w mg fa _ KX G.T.g hmg;exact XT KX G.T.g G.T.b G.T.builtins G.T.nolimit hg Hv hints (eN hlen hn2) hr hF hb (λH hO hS=>hsp w H a ns hlen hO hS) λH e s'=>hCX w H s₁ e s'
def wk(s:Stmt):Mx:=match s with
 |.FunctionDef _ a _ _ _ _ _ _ _ _=>a
 |_=>{ posonlyargs:=[],args:=[],vararg:=aD,kwonlyargs:=[],kw_defaults:=[],kwarg:=aD,defaults:=[] }
def vJ(s:Stmt):List Stmt:=match s with
 |.FunctionDef _ _ b _ _ _ _ _ _ _=>b
 |_=>[]
def oO(s:Stmt):eU:=match s with
 |.FunctionDef _ _ _ _ _ _ sc _ _ _=>sc
 |_=>{ kind:=.function,names:=[],isGenerator:=aF,isCoroutine:=aF }
abbrev E0:XK:=λ_ _ _=>False
section
variable {κ:Type} [DecidableEq κ]
def jD(aE:List (κ×V))(k:κ):Option V:=(aE.find? λkv=>decide (kv.1=k)).map (·.2)
def lP(aE:List (κ×V))(k:κ)(v:V):List (κ×V):=
 if(aE.any λkv=>decide (kv.1=k))=aB then aE.map (λkv=>if kv.1=k then(kv.1,v) else kv) else aE++[(k,v)]
theorem Lx{p:κ×V}{r:List (κ×V)}{k:κ}(e:p.1=k):jD (p::r) k=aA p.2:=by simp[jD,zZ,e]
theorem Lw{p:κ×V}{r:List (κ×V)}{k:κ}(e:¬p.1=k):jD (p::r) k=jD r k:=by simp[jD,zZ,e]
theorem ET(k:κ):∀aE:List (κ×V),(aE.any λkv=>decide (kv.1=k))=(jD aE k).isSome
 |[]=>rfl|p::r=>by
  rw[kC];by_cases e:p.1=k
  .simp only[Lx e,decide_eq_true e,Bool.true_or,Option.isSome_some]
  .rw[Lw e,decide_eq_false e,Mz];exact ET k r
theorem Xg(aE:List (κ×V))(k:κ)(v:V):(lP aE k v).length<=aE.length+1:=by
 unfold lP;split
 .rw[aV];omega
 .rw[fP,hJ,sx];omega
theorem lZ.ki{o:Option V}{u:Option Value}(r:lZ o u):o.isSome=u.isSome:=by
 cases o with
 |none=>cases u with
  |none=>rfl|some _=>exact(show False from r).elim
 |some _=>cases u with
  |none=>exact(show False from r).elim|some _=>rfl
theorem lZ.getD{o:Option V}{u:Option Value}{d:V}{d':Value}(r:lZ o u)(rd:RelV d d'):RelV (o.getD d) (u.getD d'):=by
 cases o with
 |none=>cases u with
  |none=>exact rd|some _=>exact(show False from r).elim
 |some _=>cases u with
  |none=>exact(show False from r).elim|some _=>exact r
theorem KV.val{aE:List (κ×V)}{vs:List (κ×Value)}(r:KV aE vs)(k:κ):lZ (jD aE k) (iC vs k):=by
 unfold KV at r;induction r with
 |nil=>exact dJ|@cons p q ps qs h t ih=>
  obtain⟨h1,h2⟩:=h;by_cases e:p.1=k
  .have e':q.1=k:=h1.symm.trans e;have b:iC (q::qs) k=aA q.2:=by simp[iC,zZ,e']
   rw[Lx e,b];exact h2
  .have e':¬q.1=k:=λz=>e (h1.trans z);have b:iC (q::qs) k=iC qs k:=by simp[iC,zZ,e']
   rw[Lw e,b];exact ih
theorem KV.any{aE:List (κ×V)}{vs:List (κ×Value)}(r:KV aE vs)(k:κ):(aE.any λkv=>decide (kv.1=k))=vs.any λkv=>decide (kv.1=k):=by
 unfold KV at r;induction r with
 |nil=>rfl|cons h t ih=>rw[kC,kC,ih,h.1]
theorem KV.Kt{aE:List (κ×V)}{vs:List (κ×Value)}(r:KV aE vs)(k:κ){y:V}{u:Value}(ry:RelV y u) :
  KV (aE.map λkv=>if kv.1=k then(kv.1,y) else kv) (vs.map λkv=>if kv.1=k then(kv.1,u) else kv):=by
 unfold KV at r ⊢;induction r with
 |nil=>exact .nil|@cons p q ps qs h t ih=>
  rw[dS,dS];refine .cons ?_ ih;obtain⟨h1,h2⟩:=h;by_cases e:p.1=k
  .rw[if_pos e,if_pos (h1.symm.trans e)];exact⟨h1,ry⟩
  .rw[if_neg e,if_neg (λz=>e (h1.trans z))];exact⟨h1,h2⟩
theorem KV.put{aE:List (κ×V)}{vs:List (κ×Value)}(r:KV aE vs)(k:κ){y:V}{u:Value}(ry:RelV y u):KV (lP aE k y) (stored vs k u):=by
 unfold lP stored;rw[r.any k];by_cases e:(vs.any λkv=>decide (kv.1=k))=aB
 .rw[if_pos e,if_pos e];exact r.Kt k ry
 .rw[if_neg e,if_neg e];exact Paired.snoc r ⟨rfl,ry⟩
theorem KV.length{aE:List (κ×V)}{vs:List (κ×Value)}(r:KV aE vs):aE.length=vs.length:=Dv r
end
theorem yL{P:bG}{w:bD}{k:aU}{u:Value}(r:RelV (kV k) u):(gG P w).is k u=aB:=by
 cases k with
 |inl i=>obtain⟨t,e⟩:=(show∃t,u=ug i t from r);subst e;exact YQ P w i t|inr x=>obtain⟨t,e⟩:=(show∃t,u=nY x t from r);subst e;exact YR P w x t
theorem Vm{P:bG}{w:bD}:∀{ks:List aU}{us:List Value},Vals (ks.map kV) us->ItemsAre (gG P w) ks us
 |[],_,r=>by rw[Dl]at r;cases r;exact .nil
 |k::ks,_,r=>by
  rw[dS]at r;cases r with
  |cons h t=>exact .cons (yL h) (Vm t)
abbrev KT(H:Hp):List (List aU×V)->List (List aU×Addr×Value)->Prop:=gz λp q=>p.1=q.1/\H q.2.1=aA (.tup (p.1.map kV))/\RelV p.2 q.2.2
theorem KT.val{H:Hp}{aE:List (List aU×V)}{xs:List (List aU×Addr×Value)}(r:KT H aE xs)(k:List aU):lZ (jD aE k) ((uT xs k).map (·.2)):=by
 induction r with
 |nil=>exact dJ|@cons p q ps qs h t ih=>
  obtain⟨h1,_,h2⟩:=h;by_cases e:p.1=k
  .have e':q.1=k:=h1.symm.trans e;have b:uT (q::qs) k=aA q.2:=by simp[uT,zZ,e']
   rw[Lx e,b];exact h2
  .have e':¬q.1=k:=λz=>e (h1.trans z);have b:uT (q::qs) k=uT qs k:=by simp[uT,zZ,e']
   rw[Lw e,b];exact ih
theorem KT.Kt{H:Hp}{aE:List (List aU×V)}{xs:List (List aU×Addr×Value)}(r:KT H aE xs)(k:List aU){y:V}{u:Value}(ry:RelV y u) :
  KT H (aE.map λkv=>if kv.1=k then(kv.1,y) else kv) (xs.map (putAt k u)):=by
 induction r with
 |nil=>exact .nil|@cons p q ps qs h t ih=>
  rw[dS,dS];refine .cons ?_ ih;obtain⟨h1,h2,h3⟩:=h;unfold putAt;by_cases e:p.1=k
  .rw[if_pos e,if_pos (h1.symm.trans e)];exact⟨h1,h2,ry⟩
  .rw[if_neg e,if_neg (λz=>e (h1.trans z))];exact⟨h1,h2,h3⟩
theorem KT.put{H:Hp}{aE:List (List aU×V)}{xs:List (List aU×Addr×Value)}(r:KT H aE xs)(k:List aU){b:Addr}{y:V}{u:Value}(hb:H b=aA (.tup (k.map kV)))(ry:RelV y u) :
  KT H (lP aE k y) (storedH xs k b u):=by
 have e:(aE.any λkv=>decide (kv.1=k))=(uT xs k).isSome:=by rw[ET,(r.val k).ki,Oq]
 unfold lP storedH;rw[e];by_cases q:(uT xs k).isSome=aB
 .rw[if_pos q,if_pos q];exact r.Kt k ry
 .rw[if_neg q,if_neg q];exact Paired.snoc r ⟨rfl,hb,ry⟩
theorem KT.keeps{H H':Hp}{aE:List (List aU×V)}{xs:List (List aU×Addr×Value)}(r:KT H aE xs)(ht:∀b ys,H b=aA (.tup ys)->H' b=aA (.tup ys)):KT H' aE xs:=
 Paired.Jb r λ_ _ z=>⟨z.1,ht _ _ z.2.1,z.2.2⟩
section
variable {P:bG}{w:bD}{H:Hp}{h:aQ}{a:Addr}
theorem BJ{u:HO}(ok:dW P w H h)(e:Rd H a u):eZ P w H h a u:=e.ok ok
theorem xY{aE:List (aU×V)}(ok:dW P w H h)(e:Rd H a (.dK aE)):aE.length<=sizeLine/\(a==kF)=aF/\∃vs,KV aE vs/\h.DictOf (gG P w) a vs:=
 show eZ P w H h a (.dK aE) from BJ ok e
theorem Sz{aE:List (aU×V)}(ok:dW P w H h)(e:H a=aA (.dK aE)):aE.length<=sizeLine/\(a==kF)=aF/\∃vs,KV aE vs/\h.DictOf (gG P w) a vs:=xY ok (.inl e)
theorem yN{ks:List aU}(ok:dW P w H h)(e:H a=aA (.tup (ks.map kV))):(ay (gG P w)).is h ks a:=by obtain⟨_,its,r,o,h1,h2,n,h3⟩:=(show eZ P w H h a (.tup (ks.map kV)) from ok a _ e);exact⟨o,its.toArray,n,h1,h2,h3,by simpa using Vm r⟩
theorem yB{aE:List (List aU×V)}(ok:dW P w H h)(e:Rd H a (.dT aE)):aE.length<=sizeLine/\(a==kF)=aF /\
  ∃xs,KT H aE xs/\h.DictOfH (ay (gG P w)) a xs:=by
 obtain⟨z,y,xs,r,o,es,ep,h1,h2,h3,h4,h5⟩:=(show eZ P w H h a (.dT aE) from BJ ok e);refine⟨z,y,xs,r,o,es,ep,h1,h2,h3,h4,λx hx=>?_,h5⟩;have all:∀{l:List (List aU×V)}{m:List (List aU×Addr×Value)},KT H l m->∀x∈m,(ay (gG P w)).is h x.1 x.2.1:=by
  intro l m q;induction q with
  |nil=>intro x hx;exact nomatch hx|@cons p q ps qs hq t ih=>
   intro x hx;rcases List.mem_cons.mp hx with e|hx
   .subst e;exact yN ok (by rw[<- hq.1];exact hq.2.1)
   .exact ih x hx
 exact all r x hx
theorem RE{aE:List (List aU×V)}(ok:dW P w H h)(e:H a=aA (.dT aE)):aE.length<=sizeLine/\(a==kF)=aF /\
 ∃xs,KT H aE xs/\h.DictOfH (ay (gG P w)) a xs:=yB ok (.inl e)
end
def kI(H:Hp)(a:Addr)(y:V)(r:Option V):Prop:=
 (∃aE k,Rd H a (.dK aE)/\y=kV k/\r=jD aE k)\/∃aE k b,Rd H a (.dT aE)/\y = .ref b/\H b=aA (.tup (k.map kV))/\r=jD aE k
def iw(H:Hp)(a:Addr)(y v:V)(H':Hp):Prop:=
 (∃aE k,H a=aA (.dK aE)/\y=kV k/\aE.length<sizeLine/\H'=aZ H a (.dK (lP aE k v))) \/
 ∃aE k b,H a=aA (.dT aE)/\y = .ref b/\H b=aA (.tup (k.map kV))/\aE.length<sizeLine/\H'=aZ H a (.dT (lP aE k v))
theorem kI.k{H:Hp}{a:Addr}{aE:List (aU×V)}{k:aU}(e:H a=aA (.dK aE)):kI H a (kV k) (jD aE k):=.inl ⟨aE,k,.inl e,rfl,rfl⟩
theorem iw.k{H:Hp}{a:Addr}{aE:List (aU×V)}{k:aU}{v:V}(e:H a=aA (.dK aE))(hl:aE.length<sizeLine):iw H a (kV k) v (aZ H a (.dK (lP aE k v))):=.inl ⟨aE,k,e,rfl,hl,rfl⟩
section
variable {X:Cx}{pins:List (Addr×Obj)}{σ:St}{H:Hp}{s:aG}{a:Addr}{y v:V}{u r:Value}{o:Option V}{A:bS}{E:Value->aG->Prop}
theorem Inv.big(I:Inv X pins σ H s):kF<s.heap.objs.size:=by have h:eJ<s.heap.objs.size:=(I.mod.glob.keeps I.bk).lt;exact tu (by decide) h
theorem QL{Q:Value->aG->Prop}(hu:A.units+1<cLine)(I:Inv X pins σ H s)(g:kI H a y (aA v))(ry:RelV y u)(h:∀w' s',Inv X pins σ H s'->RelV v w'->Q w' s') :
  aO (aS X.prog X.w) A (ao (.ref a) u) Q E s:=by
 rcases g with⟨aE,k,e,ey,l⟩|⟨aE,k,b,e,ey,eb,l⟩
 .subst ey;obtain⟨z,hd,vs,rel,dd⟩:=xY I.aR e;obtain⟨w',hw,rw'⟩:=lZ.some_of (v:=v) (o:=iC vs k) (by rw[l];exact rel.val k);exact LV (yL ry) dd.mapOf hw (h w' _ (I.tok _) rw')
 .subst ey;cases(show u=eX b from ry);obtain⟨z,hd,xs,rel,dd⟩:=yB I.aR e;obtain⟨w',hw,rw'⟩:=lZ.some_of (v:=v) (o:=(uT xs k).map (·.2)) (by rw[l];exact rel.val k);obtain⟨p,hp,hp2⟩:=Option.map_eq_some_iff.mp hw;refine wpAny_getItem_heap (ij hu) (yN I.aR eb) dd hp ?_;rw[hp2];exact h w' _ (I.tok _) rw'
theorem QM{Q:Value->aG->Prop}(hu:A.units+1<cLine)(I:Inv X pins σ H s)(g:kI H a y o)(ry:RelV y u)(h:∀s',Inv X pins σ H s'->Q (.bool o.isSome) s') :
  aO (aS X.prog X.w) A (dM .In u (.ref a)) Q E s:=by
 rcases g with⟨aE,k,e,ey,l⟩|⟨aE,k,b,e,ey,eb,l⟩
 .subst ey;obtain⟨z,hd,vs,rel,dd⟩:=xY I.aR e;refine wpAny_in_of (yL ry) hd dd.mapOf ?_;rw[<- (rel.val k).ki,<- l];exact h _ (I.tok _)
 .subst ey;cases(show u=eX b from ry);obtain⟨z,hd,xs,rel,dd⟩:=yB I.aR e;refine wpAny_in_heap (ij hu) (yN I.aR eb) hd dd ?_;have q:=(rel.val k).ki;rw[Oq]at q;rw[<- q,<- l];exact h _ (I.tok _)
theorem QN{Q:Value->aG->Prop}(hu:A.units+1<cLine)(I:Inv X pins σ H s)(g:kI H a y o)(ry:RelV y u)(h:∀s',Inv X pins σ H s'->Q (.bool (!o.isSome)) s') :
  aO (aS X.prog X.w) A (dM .NotIn u (.ref a)) Q E s:=by
 rcases g with⟨aE,k,e,ey,l⟩|⟨aE,k,b,e,ey,eb,l⟩
 .subst ey;obtain⟨z,hd,vs,rel,dd⟩:=xY I.aR e;refine MC (yL ry) hd dd.mapOf ?_;rw[<- (rel.val k).ki,<- l];exact h _ (I.tok _)
 .subst ey;cases(show u=eX b from ry);obtain⟨z,hd,xs,rel,dd⟩:=yB I.aR e;refine wpAny_notIn_heap (ij hu) (yN I.aR eb) hd dd ?_;have q:=(rel.val k).ki;rw[Oq]at q;rw[<- q,<- l];exact h _ (I.tok _)
theorem Sm{h':aQ}{t':Nat}{ob:HO}(I:Inv X pins σ H s)(mu:iz (H a))(hs:zX a s.heap h')(he:∃q,h'.get? a=aA q)(new:eZ X.prog X.w (aZ H a ob) h' a ob) :
  Inv X pins σ (aZ H a ob) { s with heap:=h',toks:=t' }:=
 I.write (x:=a) (e:=a) mu (.inl rfl) (λb q hb z=>(hs.2 b hb).trans z) he new
theorem RC{P:bG}{w:bD}{H':Hp}{h':aQ}{aE:List (aU×V)}{vs:List (aU×Value)}(z:aE.length<=sizeLine)(hd:(a==kF)=aF)(rel:KV aE vs)(dd:h'.DictOf (gG P w) a vs) :
 eZ P w H' h' a (.dK aE):=⟨z,hd,vs,rel,dd⟩
theorem QP{H':Hp}{Q:Unit->aG->Prop}(hu:A.units+1<cLine)(I:Inv X pins σ H s)(g:iw H a y v H')(ry:RelV y u)(rv:RelV v r)(h:∀s',Inv X pins σ H' s'->Q () s') :
  aO (aS X.prog X.w) A (setItem (.ref a) u r) Q E s:=by
 rcases g with⟨aE,k,e,ey,l,eH⟩|⟨aE,k,b,e,ey,eb,l,eH⟩
 .subst ey eH;obtain⟨z,hd,vs,rel,dd⟩:=Sz I.aR e;have hz:vs.length<=sizeLine:=by rw[<- rel.length];exact z
  have hl:(lP aE k v).length<=sizeLine:=by have:=Xg aE k v;omega
  refine wpAny_setItem_pairs (hsz:=hz) (yL ry) dd λh' dd' hs=>h _ ?_;have he:∃q,h'.get? a=aA q:=let ⟨q,_,_,hq,_⟩:=dd';⟨q,hq⟩;exact Sm I (by rw[e];exact dJ) hs he (RC hl hd (rel.put k rv) dd')
 .subst ey eH;cases(show u=eX b from ry);obtain⟨z,hd,xs,rel,dd⟩:=RE I.aR e;have hz:xs.length<=sizeLine:=by rw[<- Dv rel];exact z
  have hl:(lP aE k v).length<=sizeLine:=by have:=Xg aE k v;omega
  refine wpAny_setItem_heap (hsz:=hz) (ij hu) (yN I.aR eb) dd λh' dd' hs=>h _ ?_;obtain⟨q,es,ep,hq,h2,h3,h4,_,h5⟩:=dd';refine Sm I (by rw[e];exact dJ) hs ⟨q,hq⟩ ⟨hl,hd,_,(rel.put k eb rv).keeps λc ys ec=>?_,q,es,ep,hq,h2,h3,h4,h5⟩;rw[bW (tS ec e (λz=>nomatch z))];exact ec
end
theorem QY{X:Cx}{pins:List (Addr×Obj)}{σ:St}{H:Hp}{s:aG}{a:Addr}{y:V}{o:Option V}(I:Inv X pins σ H s)(g:kI H a y o):s.TypeIs (.ref a) "dict":=by
 rcases g with⟨aE,k,e,_,_⟩|⟨aE,k,b,e,_,_,_⟩
 .obtain⟨_,_,vs,_,dd⟩:=xY I.aR e;exact dd.typeIs
 .obtain⟨_,_,xs,_,dd⟩:=yB I.aR e;exact dd.typeIs
theorem RA{P:bG}{w:bD}{H:Hp}(h:aQ)(hb:kF<h.objs.size):eZ P w H (h.push { cls:=.type "dict",data:=.dict #[] }) h.objs.size (.dK []):=
 ⟨kD _,beq_eq_false_iff_ne.mpr (kE (bU hb)),[],.nil,Heap.DictOf.new h⟩
def aCs:TE:=λ_ H Q=>∀p,H p=aD->Q (.ref p) (aZ H p (.dK []))
section
variable {X:Cx}{pos:Pos}
theorem x8:PE X (.Dict [] [] pos) aCs:=λpins s σ H Q I h=>wpAny_Dict_empty ⟨.ref s.heap.objs.size,_,I.laid (a:=s.heap.objs.size) (o:=.dK []) (t':=s.toks) (λ_ _ q=>dH _ q) (cB _) (RA s.heap I.big),rfl,h _ (I.aR.fresh (cB _))⟩
end
section
variable {X:Cx}{pins:List (Addr×Obj)}{σ:St}{H:Hp}{s:aG}{a:Addr}{y d:V}{u r:Value}{o:Option V}{A:bS}{E:Value->aG->Prop}
theorem QJ{Q:Value->aG->Prop}(hu:A.units+1<cLine)(I:Inv X pins σ H s)(g:kI H a y o)(ry:RelV y u)(h:∀w' s',Inv X pins σ H s'->RelV (o.getD .aK) w'->Q w' s') :
  aO (aS X.prog X.w) A (call (.builtin "dict.get") [.ref a,u]) Q E s:=by
 rcases g with⟨aE,k,e,ey,l⟩|⟨aE,k,b,e,ey,eb,l⟩
 .subst ey;obtain⟨z,hd,vs,rel,dd⟩:=xY I.aR e;refine ui ia dd.typeIs ud (Ou _ _) (LN (gG X.prog X.w) a (yL ry) hd) ⟨_,dd.mapOf,h _ _ (I.tok _) ?_⟩;rw[l];exact(rel.val k).getD rfl
 .subst ey;cases(show u=eX b from ry);obtain⟨z,hd,xs,rel,dd⟩:=yB I.aR e;refine ui ia dd.typeIs ud (Ou _ _) (meetsH_dict_get (ay (gG X.prog X.w)) a b hd) ⟨ij hu,k,xs,yN I.aR eb,dd,h _ _ (I.tok _) ?_⟩;rw[l];exact(rel.val k).getD rfl
theorem QK{Q:Value->aG->Prop}(hu:A.units+1<cLine)(I:Inv X pins σ H s)(g:kI H a y o)(ry:RelV y u)(rd:RelV d r)(h:∀w' s',Inv X pins σ H s'->RelV (o.getD d) w'->Q w' s') :
  aO (aS X.prog X.w) A (call (.builtin "dict.get") [.ref a,u,r]) Q E s:=by
 rcases g with⟨aE,k,e,ey,l⟩|⟨aE,k,b,e,ey,eb,l⟩
 .subst ey;obtain⟨z,hd,vs,rel,dd⟩:=xY I.aR e;refine ui ia dd.typeIs ud (JZ _ _ _) (meets_dict_get_default (gG X.prog X.w) a (yL ry) hd r) ⟨_,dd.mapOf,h _ _ (I.tok _) ?_⟩;rw[l];exact(rel.val k).getD rd
 .subst ey;cases(show u=eX b from ry);obtain⟨z,hd,xs,rel,dd⟩:=yB I.aR e;refine ui ia dd.typeIs ud (JZ _ _ _) (meetsH_dict_get_default (ay (gG X.prog X.w)) a b hd r) ⟨ij hu,k,xs,yN I.aR eb,dd,h _ _ (I.tok _) ?_⟩;rw[l];exact(rel.val k).getD rd
end
def DK(h h':aQ):Prop:=∀(b:Nat) (o:Obj),h.objs[b]?=aA o->∃u,h'.objs[b]?=aA u/\u.dict=o.dict
theorem DK.refl(h:aQ):DK h h:=λ_ o e=>⟨o,e,rfl⟩
theorem DK.trans{h h1 h2:aQ}(x:DK h h1)(y:DK h1 h2):DK h h2:=λb o e=>let ⟨u,e1,d1⟩:=x b o e;let ⟨v,e2,d2⟩:=y b u e1;⟨v,e2,d2.trans d1⟩
theorem DK.push(h:aQ)(o:Obj):DK h (h.push o):=λb u e=>
 ⟨u,by show(h.objs.push o)[b]?=aA u;rw[Array.getElem?_push_lt (Array.getElem?_eq_some_iff.mp e).1];exact congrArg aA (Array.getElem?_eq_some_iff.mp e).2,rfl⟩
theorem DK.update(h:aQ)(a:Addr){f:Obj->Obj}(hf:∀o,(f o).dict=o.dict):DK h (h.update a f):=λb u e=>by
 show∃v,(h.objs.modify a f)[b]?=aA v/\_;rw[Array.getElem?_modify,e];by_cases q:a=b
 .rw[if_pos q];exact⟨_,rfl,hf u⟩
 .rw[if_neg q];exact⟨_,rfl,rfl⟩
theorem Uy{h:aQ}{a:Addr}{o:Obj}(e:h.get? a=aA o):h.objs[a]?=aA o:=by
 unfold Heap.get? at e;split at e
 .cases e
 .exact e
theorem DK.at{h h':aQ}(x:DK h h'){a:Addr}{o u:Obj}(e:h.get? a=aA o)(e':h'.get? a=aA u):u.dict=o.dict:=by obtain⟨v,e1,d⟩:=x a o (Uy e);rw[Uy e']at e1;cases e1;exact d
def Tm{α:Type}:Sem α->Prop
 |.rule _ k=>Tm (k ())
 |.at _ k=>Tm (k ())
 |.load _ _ k=>∀o,Tm (k o)
 |.update _ _ f k=>(∀o,(f o).dict=o.dict)/\Tm (k ())
 |.loadIfAlive _ k=>∀o,Tm (k o)
 |.point _ k=>Tm (k ())
 |.alloc _ k=>∀a,Tm (k a)
 |.fresh k=>∀t,Tm (k t)
 |.ask k=>∀x,Tm (k x)
 |.handled _ k=>∀x,Tm (k x)
 |.stack k=>∀l,Tm (k l)
 |.thread k=>Tm (k 0)
 |.choose .. | .os .. | .call .. | .genState .. | .newGen .. | .resume ..=>False
 |_=>True
theorem aEb{α:Type}{M:jH}{Γ:PySem.Ctx}{h0:aQ}(t:Sem α):∀{Q:α->Pos->aG->Prop}{E:Value->Pos->aG->Prop}{p:Pos}{s:aG},Tm t->DK h0 s.heap->Sem.wp M Γ t Q E p s ->
  Sem.wp M Γ t (λa p' s'=>Q a p' s'/\DK h0 s'.heap) (λe p' s'=>E e p' s'/\DK h0 s'.heap) p s:=by
 induction t with
 |pure a=>intro Q E p s _ d w;exact⟨w,d⟩|raise e=>intro Q E p s _ d w;exact⟨w,d⟩|rule t k ih=>intro Q E p s m d w;exact ih () m d w|«at» q k ih=>intro Q E p s m d w;exact ih () m d w|load a q k ih=>intro Q E p s m d w;obtain⟨o,e,w⟩:=w;exact⟨o,e,ih o (m o) d w⟩|update a q f k ih=>intro Q E p s m d w;exact⟨w.1,ih () m.2 (d.trans (DK.update _ a m.1)) w.2⟩|loadIfAlive a k ih=>intro Q E p s m d w;exact ih _ (m _) d w|point l k ih=>intro Q E p s m d w;exact ih () m d w|alloc o k ih=>intro Q E p s m d w;exact ih _ (m _) (d.trans (DK.push _ o)) w|fresh k ih=>intro Q E p s m d w;exact ih _ (m _) d w|ask k ih=>intro Q E p s m d w;exact ih _ (m _) d w|handled o k ih=>intro Q E p s m d w;exact ih _ (m _) d w|stack k ih=>intro Q E p s m d w;exact ih _ (m _) d w|thread k ih=>intro Q E p s m d w;exact ih _ m d w|choose _ _ _ _=>intro Q E p s m;exact m.elim|os _ _ _ _=>intro Q E p s m;exact m.elim|call _ _ _ _ _ _=>intro Q E p s m;exact m.elim|genState _ _ _=>intro Q E p s m;exact m.elim|newGen _ _ _=>intro Q E p s m;exact m.elim|resume _ _ _ _ _=>intro Q E p s m;exact m.elim|_=>intro Q E p s _ _ w;exact jT w
theorem aDy{α:Type}{M:jH}{A:bS}{t:Sem α}{Q:α->aG->Prop}{E:Value->aG->Prop}{s:aG}(m:Tm t)(w:aO M A t Q E s):aO M A t (λa s'=>Q a s'/\DK s.heap s'.heap) (λe s'=>E e s'/\DK s.heap s'.heap) s:=
 λΓ p hΓ=>aEb t m (DK.refl _) (w Γ p hΓ)
theorem jZ{α β:Type}{m:Sem α}{f:α->Sem β}(h:Tm m)(hf:∀a,Tm (f a)):Tm (m>>=f):=by
 show Tm (m.bind f);induction m with
 |pure a=>exact hf a|rule t k ih=>exact ih () h|«at» q k ih=>exact ih () h|load a q k ih=>exact λo=>ih o (h o)|update a q g k ih=>exact⟨h.1,ih () h.2⟩|loadIfAlive a k ih=>exact λo=>ih o (h o)|point l k ih=>exact ih () h|alloc o k ih=>exact λo=>ih o (h o)|fresh k ih=>exact λo=>ih o (h o)|ask k ih=>exact λo=>ih o (h o)|handled o k ih=>exact λo=>ih o (h o)|stack k ih=>exact λo=>ih o (h o)|thread k ih=>exact ih 0 h|choose _ _ _ _=>exact h.elim|os _ _ _ _=>exact h.elim|call _ _ _ _ _ _=>exact h.elim|genState _ _ _=>exact h.elim|newGen _ _ _=>exact h.elim|resume _ _ _ _ _=>exact h.elim|_=>exact dJ
theorem Bo(v:Value)(i:Nat):Tm (sO v i):=by
 unfold sO fieldsOf;refine jZ ?_ λa=>?_
 .cases v with
  |ref a=>refine λo=>?_;dsimp only[Sem.bind];split<;>exact dJ
  |_=>exact dJ
 .split<;>exact dJ
theorem Lo(v x:Value)(i:Nat):Tm (setField v i x):=by
 unfold setField updateField;cases v with
 |ref a=>
  refine λo=>?_;show Tm (match o.data with | .fields vs=>_|_=>_);split
  .split
   .exact⟨λo=>by unfold Om;split<;>rfl,dJ⟩
   .exact dJ
  .exact dJ
 |_=>exact dJ
theorem Bp(e:Value)(f:Option Addr):Tm (au e f):=by
 unfold au;refine jZ (Bo _ _) λt=>?_;split
 .exact Lo _ _ _
 .exact dJ
theorem EA:∀l:List Env,Tm (readyFrames l)
 |[]=>dJ
 |env::outer=>by
  unfold readyFrames;split
  .refine λo=>?_;show Tm (if _ then _ else _);split
   .exact dJ
   .refine jZ ?_ λb=>jZ ?_ λv=>?_
    .unfold behindIsImport;split
     .exact dJ
     .split
      .exact dJ
      .exact jZ (Bo _ _) λ_=>dJ
    .unfold keptBack;split
     .split
      .exact dJ
      .exact jZ (λ_=>dJ) λ_=>dJ
     .exact dJ
    .exact⟨λ_=>rfl,EA outer⟩
  .exact dJ
theorem aDz(env:Env):Tm (Dz env):=by
 unfold Dz frameEnvs;refine jZ (jZ (λ_=>dJ) λ_=>dJ) λl=>jZ ?_ λr=>?_
 .unfold frameObject;split
  .exact dJ
  .exact jZ (EA _) λ_=>dJ
 .split<;>exact dJ
theorem DZ(e:Value)(env:Env):Tm (aq e env):=by
 have last:∀(f:Addr) (head:Value),Tm (do setField e 1 (<- HK head (<- Dz env) .none (qW f) .none (<- entryPlaceOf f (head != .none)))):=λf head=>by
  refine jZ (aDz env) λa=>jZ (λl=>?_) λpl=>jZ ?_ λb=>Lo _ _ _
  .dsimp only[Sem.bind];split<;>exact dJ
  .unfold HK newFields newObj;dsimp only;split
   .split
    .exact dJ
    .exact λa=>dJ
   .split
    .exact dJ
    .exact λa=>dJ
 unfold aq;split
 .refine jZ (Bo _ _) λhead=>?_;split
  .refine jZ (Bo _ _) λx=>?_;split
   .exact dJ
   .exact jZ (Lo _ _ _) λ_=>last _ _
  .exact last _ _
 .exact dJ
theorem DY(env:Env)(e:Value):Tm (uV env e):=jZ (DZ e env) λ_=>Bp e aD
def fK(a:Addr)(dx:Option Addr)(h:aQ):Prop:=∀d,dx=aA d->∃ob,h.get? a=aA ob/\ob.dict=aA d
theorem fK.none{a:Addr}{h:aQ}:fK a aD h:=λ_ e=>by cases e
theorem fK.of{a:Addr}{dx:Option Addr}{h h':aQ}(x:fK a dx h)(k:DK h h')(e:∃ob,h'.get? a=aA ob):fK a dx h':=λd q=>let ⟨_,e1,d1⟩:=x d q;let ⟨ob,e2⟩:=e;⟨ob,e2,(k.at e1 e2).trans d1⟩
section
variable {M:jH}{A:bS}{E:Value->aG->Prop}{s:aG}{base:aQ}{env:Env}{outer l:List Env}{L e:Addr}{cls a0:Value}{dx:Option Addr}{Q:Unit->aG->Prop}
theorem cj{t:Sem Unit}{Z:aQ->Prop}(m:Tm t)(hd:fK e dx s.heap)(ht:∀h',Z h'->∃ob,h'.get? e=aA ob)
  (w:aO M A t (λ_ s'=>∃h',s'={ s with heap:=h' }/\Z h') (λ_ _=>False) s) (hQ:∀h',Z h'->fK e dx h'->Q () { s with heap:=h' }):aO M A t Q E s:=
 kH (aDy m w) (λ_ s' ⟨⟨h',q,z⟩,k⟩=>by subst q;exact hQ h' z (hd.of k (ht h' z))) λ_ _ z=>z.1.elim
theorem Bj{h':aQ}(f:mV base l e cls a0 h'):∃ob,h'.get? e=aA ob:=let ⟨ob,q,_⟩:=f.there;⟨ob,q⟩
theorem Xo(hfr:A.frames=aA (env::outer))(hf:env.frame=aA L)(fl:mV base (env::outer) e cls a0 s.heap)(hd:fK e dx s.heap)
  (hQ:∀h',Nk base (env::outer) e cls a0 L h'->s.heap.UpToSlots h'->fK e dx h'->Q () { s with heap:=h' }):aO M A (aq (.ref e) env) Q E s:=
 cj (Z:=λh'=>Nk base (env::outer) e cls a0 L h'/\s.heap.UpToSlots h') (DZ _ _) hd (λ_ z=>let ⟨ob,q,_⟩:=z.1.there;⟨ob,q⟩) (wpAny_looks_onW hfr hf fl λh' f u=>⟨h',rfl,f,u⟩) λh' z d=>hQ h' z.1 z.2 d
theorem XS(fl:Nk base l e cls a0 L s.heap)(hd:fK e dx s.heap)(hQ:∀h',mV base l e cls a0 h'->s.heap.UpToSlots h'->fK e dx h'->Q () { s with heap:=h' }):aO M A (au (.ref e) aD) Q E s:=
 cj (Z:=λh'=>mV base l e cls a0 h'/\s.heap.UpToSlots h') (Bp _ _) hd (λ_ z=>Bj z.1) (LW fl λh' f u=>⟨h',rfl,f,u⟩) λh' z d=>hQ h' z.1 z.2 d
theorem Xe(fl:mV base l e cls a0 s.heap)(hd:fK e dx s.heap)(hQ:∀h',mV base l e cls a0 h'->s.heap.UpToSlots h'->fK e dx h'->Q () { s with heap:=h' }):aO M A (au (.ref e) aD) Q E s:=
 cj (Z:=λh'=>mV base l e cls a0 h'/\s.heap.UpToSlots h') (Bp _ _) hd (λ_ z=>Bj z.1) (lands_againW fl λh' f u=>⟨h',rfl,f,u⟩) λh' z d=>hQ h' z.1 z.2 d
end
theorem eZ.get{P:bG}{w:bD}{H:Hp}{h:aQ}{a:Addr}{o:HO}(x:eZ P w H h a o):∃ob,h.get? a=aA ob:=by
 cases o with
 |lst xs=>obtain⟨_,_,_,_,e⟩:=x;exact⟨_,e⟩|tup xs=>obtain⟨_,_,_,ob,e,_⟩:=x;exact⟨_,e⟩|dK aE=>obtain⟨_,_,_,_,o,_,_,e,_⟩:=x;exact⟨_,e⟩|dT aE=>obtain⟨_,_,_,_,o,_,_,e,_⟩:=x;exact⟨_,e⟩|set S n=>obtain⟨o,_,_,_,e,_⟩:=x;exact⟨_,e⟩|ins C dx fs=>obtain⟨_,_,_,e,_⟩:=x;exact⟨_,e⟩|own y=>exact x|xd fs=>obtain⟨_,⟨_,_,_,e,_⟩,_⟩:=x;exact⟨_,e⟩|Am lo hi=>obtain⟨_,_,_,e⟩:=x;exact⟨_,e⟩|dX ob u=>obtain⟨e,_⟩:=x;exact⟨_,e⟩|wI ps=>exact⟨_,show h.get? a=aA _ from x⟩|met f y=>exact⟨_,show h.get? a=aA _ from x⟩|ext φ=>obtain⟨_,e,_⟩:=x;exact e
def ux(B:aQ)(fs:List Addr)(h0:aQ)(H':Hp)(h:aQ):Prop:=∀b o,h.get? b=aA o->b∉fs->((∃u,h0.get? b=aA u)\/H' b≠aD)->B.get? b=aA o
inductive dU(P:bG)(w:bD)(outer:List Env)(H:Hp)(s:aG)(E:XK)(e:Value)(s':aG):Prop
 |mk (a:Addr) (cls:Value) (H':Hp) (B:aQ) (a0:Value) (dx:Option Addr):e = .ref a->s'.os=s.os->pA s'.gens->Un (cN outer) [] H H' s.heap s'.heap->dW P w H' s'.heap ->
  mV B outer a cls a0 s'.heap->ux B (cN outer) s.heap H' s'.heap->fK a dx s'.heap->E cls dx H'->dU P w outer H s E e s'
theorem wg{P:bG}{w:bD}{outer:List Env}{H:Hp}{s s':aG}{e:Value}(h:dU P w outer H s (λ_ _ _=>False) e s'):False:=by cases h;assumption
theorem dW.fM{P:bG}{w:bD}{H':Hp}{h h' h0 B:aQ}{fs:List Addr}(x:dW P w H' h)(c:ux B fs h0 H' h)(k:B.StaysIn h')(nf:∀b∈fs,H' b=aD):dW P w H' h':=λa o e=>
 (x a o e).mP (λb u hb q=>by
  have ht:H' b≠aD:=by
   rcases hb with rfl|hb
   .rw[e];intro z;cases z
   .rw[hb];intro z;cases z
  exact k b u (c b u q (λz=>ht (nf b z)) (.inr ht))) (λ_ q=>q) λ_ _ q=>q
def oB(B:aQ)(l:List Env)(e:Addr)(cls a0 m:Value)(h:aQ):Prop:=B.StaysIn h/\B.get? e=aD/\h.FunFrames B l/\h.TracedAtW B e cls a0 m
theorem oB.ex{B:aQ}{l:List Env}{e:Addr}{cls a0 m:Value}{h:aQ}(x:oB B l e cls a0 m h):∃ob,h.get? e=aA ob:=let ⟨ob,q,_⟩:=x.2.2.2.there;⟨ob,q⟩
section
variable {M:jH}{A:bS}{E:Value->aG->Prop}{s:aG}{B:aQ}{env env':Env}{outer l:List Env}{L e:Addr}{cls a0 m:Value}{dx:Option Addr}{Q:Unit->aG->Prop}
theorem ZV(hf:env'.frame=env.frame)(v:Value):aq v env'=aq v env:=by unfold aq Dz;rw[hf]
theorem aEa(fo:Option Addr)(x:oB B l e cls a0 m s.heap)(hQ:∀h' m',oB B l e cls a0 m' h'->s.heap.UpToSlots h'->Q () { s with heap:=h' }):aO M A (au (.ref e) fo) Q E s:=by
 obtain⟨x1,x2,x3,oe,vs,T,oT,ts,ge,hc,de,g1,nT,ne,gT,dT,g3⟩:=x;have i3:3<ts.size:=(Array.getElem?_eq_some_iff.mp g3).1;unfold au;refine aL (jI ge de g1 ?_);rw[if_pos (show(eX T != lW)=aB by simp)];refine Ey gT dT i3 ?_;generalize hv:fo.elim lW (λf=>qW f)=v;have oth:∀b,b≠T->(s.heap.update T (Om λz=>z.setIfInBounds 3 v)).get? b=s.heap.get? b:=λb hb=>Cy _ _ (kE hb);have nr:∀b o,s.heap.get? b=aA o->(∀ws,o.data ≠ .fields ws)->b≠T:=λb o hb hn q=>by rw[q,gT]at hb;cases hb;exact hn ts dT
 refine hQ _ v ⟨λb o hb=>(oth b λq=>by rw[q,nT]at hb;cases hb).trans (x1 b o hb),x2,x3.of_keeps λb o hb hn=>⟨o,(oth b (nr b o hb hn)).trans hb,rfl⟩,?_⟩ λb o hb hn=>⟨o.slots,(oth b (nr b o hb hn)).trans hb⟩;exact⟨oe,vs,T,_,_,(oth e (kE ne)).trans ge,hc,de,g1,nT,ne,rm _ gT (JU (Du dT _)),Du dT _,by simp[i3]⟩
theorem YL(fo:Option Addr)(x:oB B l e cls a0 m s.heap)(hd:fK e dx s.heap)(hQ:∀h' m',oB B l e cls a0 m' h'->s.heap.UpToSlots h'->fK e dx h'->Q () { s with heap:=h' }):aO M A (au (.ref e) fo) Q E s:=
 cj (Z:=λh'=>∃m',oB B l e cls a0 m' h'/\s.heap.UpToSlots h') (Bp _ _) hd (λ_ ⟨_,z⟩=>z.1.ex) (aEa fo x λh' m' f u=>⟨h',rfl,m',f,u⟩) λh' ⟨m',z⟩ d=>hQ h' m' z.1 z.2 d
theorem u6{what:String}{α:Type}{R:α->aG->Prop}(x:oB B l e cls a0 m s.heap)(hd:fK e dx s.heap)(hE:∀h' m',oB B l e cls a0 m' h'->s.heap.UpToSlots h'->fK e dx h'->E (.ref e) { s with heap:=h' }) :
  aO M A (Ph what (.ref e) env:Sem α) R E s:=by
 obtain⟨_,_,_,oe,vs,T,oT,ts,ge,hc,de,g1,nT,ne,gT,dT,g3⟩:=id x;unfold Ph;refine aL (jI ge de g1 ?_);rw[if_neg (show¬((eX T==lW)=aB) by simp)];exact aL (YL env.frame x hd λh' m' f u d=>wpAny_throw (hE h' m' f u d))
theorem XX(hfr:A.frames=aA (env::outer))(hf:env.frame=aA L)(x:oB B (env::outer) e cls a0 m s.heap)(hd:fK e dx s.heap)
  (hQ:∀h',mV B outer e cls a0 h'->s.heap.UpToSlots h'->fK e dx h'->Q () { s with heap:=h' }):aO M A (uV env (.ref e)) Q E s:=by
 refine cj (Z:=λh'=>mV B outer e cls a0 h'/\s.heap.UpToSlots h') (DY _ _) hd (λ_ z=>Bj z.1) ?_ λh' z d=>hQ h' z.1 z.2 d;obtain⟨x1,x2,x3,x4⟩:=x;by_cases hm:m=qW L
 .subst hm;unfold uV;refine aL (wpAny_noteFrame_againW hf x4 (LW ⟨x1,x2,x3,x4⟩ λh' fM up=>⟨h',rfl,?_,up⟩));obtain⟨y1,y2,⟨_,_,y3⟩,y4⟩:=fM;exact⟨y1,y2,y3,y4⟩
 .obtain⟨oe,vs,T,oT,ts,ge,⟨hc,g0⟩,de,g1,nT,ne,gT,dT,g3⟩:=x4;subst hc;unfold uV aq;simp only[hf];refine aL (aL (jI ge de g1 ?_));rw[if_pos (show(eX T != lW)=aB by simp)];refine aL (jI gT dT g3 ?_);rw[if_neg (show¬((m==qW L)=aB) from λz=>hm (eq_of_beq z))];refine aL (Ey gT dT (Array.getElem?_eq_some_iff.mp g3).1 ?_);have oth:∀b,b≠T->(s.heap.update T (Om λz=>z.setIfInBounds 3 lW)).get? b=s.heap.get? b:=λb hb=>Cy _ _ (kE hb);have nr:∀b o,s.heap.get? b=aA o->(∀ws,o.data ≠ .fields ws)->b≠T:=λb o hb hn q=>by rw[q,gT]at hb;cases hb;exact hn ts dT
  refine wpAny_newEntryW hfr (x3.of_keeps λb o hb hn=>⟨o,(oth b (nr b o hb hn)).trans hb,rfl⟩) hf ((oth e (kE ne)).trans ge) (λb o hb=>(oth b λq=>by rw[q,nT]at hb;cases hb).trans (x1 b o hb)) x2 de (Array.getElem?_eq_some_iff.mp g1).1 g0 ?_;rintro h' ⟨y1,⟨_,_,y2⟩,y3,y4⟩
  exact⟨h',rfl,⟨y1,x2,y2,y3⟩,λb o hb hn=>y4 b o ((oth b (nr b o hb hn)).trans hb) hn⟩
end
inductive Fc(P:bG)(w:bD)(ch:List Addr)(outer:List Env)(H:Hp)(s:aG)(E:XK)(e:Value)(s':aG):Prop
 |mk (a:Addr) (cls:Value) (H':Hp) (B:aQ) (a0 m:Value) (dx:Option Addr):e = .ref a->s'.os=s.os->pA s'.gens->Un (cN outer) ch H H' s.heap s'.heap->dW P w H' s'.heap ->
  oB B outer a cls a0 m s'.heap->(∀b o,s'.heap.get? b=aA o->b∉cN outer->b∉ch->((∃u,s.heap.get? b=aA u)\/H' b≠aD)->B.get? b=aA o)->(∀b∈ch,H' b=aD)->fK a dx s'.heap->E cls dx H'->Fc P w ch outer H s E e s'
section
variable {X:Cx}{pins:List (Addr×Obj)}{σ:St}{H1:Hp}{s1 s':aG}{E:XK}{e:Value}{ch:List Addr}
theorem Ud(I:Inv X pins σ H1 s1)(hx:X.ex=[])(hs:X.stack=X.env::X.outer)(hf:X.env.frame=aA X.env.locals)(hch:∀b∈ch,X.s₀.heap.objs.size<=b/\b∉cN X.stack)(h:Fc X.prog X.w ch X.stack H1 s1 E e s'){M:jH}{E':Value->aG->Prop} :
  aO M X.A (uV X.env e) (λ_ s''=>dU X.prog X.w X.outer X.H₀ X.s₀ E e s'') E' s':=by
 obtain⟨a,cls,H',B,a0,m,dx,rfl,os,bare,un,aR,fM,calm,nch,hdx,q⟩:=h;have hfr:X.A.frames=aA (X.env::X.outer):=by rw[<- hs];exact I.ok.frames
 rw[hs]at fM;refine XX hfr hf fM hdx λh' fly' up hdx'=>?_;have nin:∀b o,X.s₀.heap.get? b=aA o->b≠X.env.locals:=λb o e z=>by have:=cU e;rw[z]at this;exact absurd (cP this I.ok.above) (pI _)
 have fst:∀b,b∈cN X.stack->b=X.env.locals\/b∈X.fs:=λb hb=>List.mem_cons.mp (I.fk b hb);have nst:∀b o,X.s₀.heap.get? b=aA o->b∉X.fs->b∉cN X.stack:=λb o e n z=>by
  rcases fst b z with z|z
  .exact nin b o e z
  .exact n z
 have sub:∀b∈X.fs,b∈cN X.stack:=λb hb=>by rw[hs];unfold cN;rw[pD,hf];exact hV _ hb
 have nx:∀b:Addr,b∉X.ex:=λb z=>by rw[hx]at z;cases z
 have n0:∀b o,X.s₀.heap.get? b=aA o->b∉ch:=λb o e z=>absurd (cP (cU e) (hch b z).1) (pI _);have nfc:∀b∈cN X.stack,b∉ch:=λb hb z=>(hch b z).2 hb;have nf:∀b∈cN X.stack,H' b=aD:=λb hb=>by obtain⟨_,o,ho,_⟩:=I.stack.mem hb;exact un.free b o ho (I.zM b hb) (nfc b hb)
 have old:∀b o,X.s₀.heap.get? b=aA o->∃u,s1.heap.get? b=aA u:=λb o e=>I.base.there b o e (nx b);have inB:∀b o o',X.s₀.heap.get? b=aA o->b∉X.fs->s'.heap.get? b=aA o'->B.get? b=aA o':=λb o o' e n e'=>calm b o' e' (nst b o e n) (n0 b o e) (.inl (old b o e));have slots:∀b∈X.fs,∀o,s'.heap.get? b=aA o->∃sl,h'.get? b=aA { o with slots:=sl }:=λb hb o e=>by obtain⟨_,o',ho,hd⟩:=fM.2.2.1.mem (by rw[<- hs];exact sub b hb);rw[e]at ho;cases ho;exact up b o e hd
 have hok':dW X.prog X.w H' h':=λb o z=>(aR b o z).mP (λc u hb q=>by
  have ht:H' c≠aD:=by
   rcases hb with rfl|hb
   .rw[z];intro y;cases y
   .rw[hb];intro y;cases y
  exact fly'.1 c u (calm c u q (λy=>ht (nf c y)) (λy=>ht (nch c y)) (.inr ht))) (λ_ q=>q) λ_ _ q=>q
 refine⟨a,cls,H',B,a0,dx,rfl,os.trans I.os,bare,⟨λb o e n hb _=>?_,λb o e n hb _=>?_,λb o e n _=>?_,λb o e _=>?_,λb xs z=>un.lT b xs (I.base.lT b xs z),λb o u z=>un.kO b o u (I.base.kO b o u z),λb ps z=>?_⟩,hok',fly',λb o e n w=>?_,hdx',q⟩
 .have e1:=I.base.keep b o e n hb (nx b);have e2:=un.keep b o e1 (I.base.free b o e n (nx b)) (nst b o e hb) (n0 b o e);exact fly'.1 b o (inB b o o e hb e2)
 .obtain⟨sl,e1⟩:=I.base.slot b o e n hb (nx b);obtain⟨sl2,e2⟩:=un.slot b _ e1 (I.base.free b o e n (nx b)) (sub b hb) (n0 b o e);obtain⟨sl3,e3⟩:=slots b hb _ e2;exact⟨sl3,e3⟩
 .obtain⟨u,e1⟩:=old b o e;exact un.free b u e1 (I.base.free b o e n (nx b)) (n0 b o e)
 .obtain⟨u,e1⟩:=old b o e;obtain⟨u2,e2⟩:=un.there b u e1 (n0 b o e);by_cases hb:b∈X.fs
  .obtain⟨sl,e3⟩:=slots b hb u2 e2;exact⟨_,e3⟩
  .exact⟨u2,fly'.1 b u2 (inB b o u2 e hb e2)⟩
 .obtain⟨m1,e1⟩:=I.base.lR b ps z;obtain⟨m2,e2⟩:=un.lR b _ e1;exact⟨m1++m2,by rw[e2,GR]⟩
 .have:∃o',s'.heap.get? b=aA o'/\B.get? b=aA o':=by
   rcases w with⟨u,w⟩|w
   .obtain⟨u1,e1⟩:=old b u w;obtain⟨u2,e2⟩:=un.there b u1 e1 (n0 b u w);exact⟨u2,e2,inB b u u2 w n e2⟩
   .cases hh:H' b with
    |none=>exact absurd hh w|some y=>obtain⟨u2,e2⟩:=(aR b y hh).get;exact⟨u2,e2,calm b u2 e2 (λz=>w (nf b z)) (λz=>w (nch b z)) (.inr w)⟩
  obtain⟨o',_,e2⟩:=this;have q2:=fly'.1 b o' e2;rw[e]at q2;cases q2;exact e2
end
section
variable {X:Cx}{pins:List (Addr×Obj)}{σ:St}{H1:Hp}{s1 s':aG}{E:XK}{e:Value}
theorem TQ(I:Inv X pins σ H1 s1)(hx:X.ex=[])(hs:X.stack=X.env::X.outer)(hf:X.env.frame=aA X.env.locals)(h:dU X.prog X.w X.stack H1 s1 E e s'){M:jH}{E':Value->aG->Prop} :
  aO M X.A (uV X.env e) (λ_ s''=>dU X.prog X.w X.outer X.H₀ X.s₀ E e s'') E' s':=by
 obtain⟨a,cls,H',B,a0,dx,rfl,os,bare,un,aR,fM,calm,hdx,q⟩:=h;exact Ud (ch:=[]) I hx hs hf (λb z=>by cases z) ⟨a,cls,H',B,a0,.none,dx,rfl,os,bare,un,aR,fM,λb o z n _ w=>calm b o z n w,(λb z=>by cases z),hdx,q⟩
end
theorem u7{P:bG}{w:bD}{K:aX}{mg:Str->Option Value}{base:aQ}{N:List Str}{qual:Str}{scope:eU}{f:Addr}{cd:Value}{A:bS}{outer:List Env}{s:aG}{H:Hp}{E:XK} :
 jc (dU P w) (pS (dU P w) P w K mg base N qual scope f cd A outer s H E) E:=λpins σ H1 s1 e s' I h=>TQ I rfl rfl rfl h
section
variable {X:Cx}{pins:List (Addr×Obj)}{σ:St}{H:Hp}{s:aG}{E:XK}{e:Addr}{oe:Obj}{h1:aQ}{cls a0:Value}{vs:List Value}{ws:Array Value}{dx:Option Addr}
theorem Uc(I:Inv X pins σ H s)(hx:X.ex=[])(hs:X.stack=X.env::X.outer)(hf:X.env.frame=aA X.env.locals)(he:s.heap.get? e=aA oe)(hc:oe.cls=cls)(hdt:oe.data = .fields ws)(h1:ws[1]?=aA .none)(h0:ws[0]?=aA a0)
  (hd:fK e dx s.heap) (hH:H e=aD) (hn:X.s₀.heap.get? e=aD) (q:E cls dx H) {M:jH} {E':Value->aG->Prop} :
  aO M X.A (uV X.env (.ref e)) (λ_ s''=>dU X.prog X.w X.outer X.H₀ X.s₀ E (.ref e) s'') E' s:=by
 subst hc;have hfr:X.A.frames=aA (X.env::X.outer):=by rw[<- hs];exact I.ok.frames
 have hin:∀env∈(X.env::X.outer),∀b,env.frame=aA b->b∈e::cN X.stack:=λenv he b hb=>by rw[hs];exact hV _ (List.mem_filterMap.mpr ⟨env,he,hb⟩)
 have gQ:=I.stack;rw[hs]at gQ;have hB:∀b o,s.heap.get? b=aA o->b≠e->b∉cN X.stack->(mW s.heap (e::cN X.stack)).get? b=aA o:=λb o z ne n=>Pc _ z λy=>(List.mem_cons.mp y).elim ne n;have hBe:(mW s.heap (e::cN X.stack)).get? e=aD:=Pd _ (.head _);refine cj (Z:=λh'=>mV (mW s.heap (e::cN X.stack)) X.outer e oe.cls a0 h'/\s.heap.UpToSlots h') (DY _ _) hd (λ_ z=>Bj z.1)
  (wpAny_leaving_firstW (base:=mW s.heap (e::cN X.stack)) hfr (W.funFrames_hide gQ hin) hf he (λb o z=>Dy _ z) hBe hdt h1 h0 λh' ⟨k1,⟨_,_,k2⟩,k3,k4⟩=>⟨h',rfl,⟨k1,hBe,k2,k3⟩,k4⟩) λh' ⟨fly',up⟩ hdx=>?_
 have nin:∀b o,X.s₀.heap.get? b=aA o->b≠X.env.locals:=λb o e z=>by have:=cU e;rw[z]at this;exact absurd (cP this I.ok.above) (pI _)
 have nst:∀b o,X.s₀.heap.get? b=aA o->b∉X.fs->b∉cN X.stack:=λb o e n z=>by
  rcases List.mem_cons.mp (I.fk b z)with z|z
  .exact nin b o e z
  .exact n z
 have sub:∀b∈X.fs,b∈cN X.stack:=λb hb=>by rw[hs];unfold cN;rw[pD,hf];exact hV _ hb
 have nx:∀b:Addr,b∉X.ex:=λb z=>by rw[hx]at z;cases z
 have ne0:∀b o,X.s₀.heap.get? b=aA o->b≠e:=λb o z y=>by rw[y,hn]at z;cases z
 have neH:∀b,H b≠aD->b≠e:=λb z y=>z (y▸hH);have slots:∀b∈X.fs,∀o,s.heap.get? b=aA o->∃sl,h'.get? b=aA { o with slots:=sl }:=λb hb o z=>by obtain⟨_,o',ho,hd⟩:=I.stack.mem (sub b hb);rw[z]at ho;cases ho;exact up b o z hd
 have calm:ux (mW s.heap (e::cN X.stack)) (cN X.stack) X.s₀.heap H s.heap:=λb o z n w=>hB b o z (w.elim (λ⟨u,y⟩=>ne0 b u y) (neH b)) n;refine⟨e,oe.cls,H,_,_,dx,rfl,I.os,I.bare,⟨λb o z n hb _=>?_,λb o z n hb _=>?_,λb o z n _=>I.base.free b o z n (nx b),λb o z _=>?_,I.base.lT,I.base.kO,I.base.lR⟩,I.aR.fM calm fly'.1 I.zM,fly',λb o z n w=>?_,hdx,q⟩
 .exact fly'.1 b o (hB b o (I.base.keep b o z n hb (nx b)) (ne0 b o z) (nst b o z hb))
 .obtain⟨sl,e1⟩:=I.base.slot b o z n hb (nx b);obtain⟨sl3,e3⟩:=slots b hb _ e1;exact⟨sl3,e3⟩
 .obtain⟨u,e1⟩:=I.base.there b o z (nx b);by_cases hb:b∈X.fs
  .obtain⟨sl,e3⟩:=slots b hb u e1;exact⟨_,e3⟩
  .exact⟨u,fly'.1 b u (hB b u e1 (ne0 b o z) (nst b o z hb))⟩
 .have:∃o',(mW s.heap (e::cN X.stack)).get? b=aA o':=by
   rcases w with⟨u,w⟩|w
   .obtain⟨u1,e1⟩:=I.base.there b u w (nx b);exact⟨u1,hB b u1 e1 (ne0 b u w) (nst b u w n)⟩
   .cases hh:H b with
    |none=>exact absurd hh w|some y=>obtain⟨u2,e2⟩:=(I.aR b y hh).get;exact⟨u2,hB b u2 e2 (neH b w) λz=>w (I.zM b z)⟩
  obtain⟨o',e2⟩:=this;have q2:=fly'.1 b o' e2;rw[z]at q2;cases q2;exact e2
theorem Inv.Jh(I:Inv X pins σ H s)(hx:X.ex=[])(n:s.heap.get? e=aD):H e=aD/\X.s₀.heap.get? e=aD:=by
 refine⟨?_,?_⟩
 .cases q:H e with
  |none=>rfl|some y=>obtain⟨o,ho⟩:=(I.aR e y q).get;rw[n]at ho;cases ho
 .cases q:X.s₀.heap.get? e with
  |none=>rfl|some o=>obtain⟨u,e1⟩:=I.base.there e o q (λz=>by rw[hx]at z;cases z);rw[n]at e1;cases e1
theorem TN(I:Inv X pins σ H s)(hx:X.ex=[])(hs:X.stack=X.env::X.outer)(hf:X.env.frame=aA X.env.locals)(m:Cv s.heap h1 e cls vs)(q:E cls aD H){M:jH}{E':Value->aG->Prop} :
  aO M X.A (uV X.env (.ref e)) (λ_ s''=>dU X.prog X.w X.outer X.H₀ X.s₀ E (.ref e) s'') E' { s with heap:=h1 }:=by
 obtain⟨t,he,_,_⟩:=m.there;obtain⟨n1,n2⟩:=I.Jh hx m.new;exact Uc (I.kept (h':=h1) (t':=s.toks) m.keeps) hx hs hf he rfl rfl rfl rfl fK.none n1 n2 q
end
section
variable {X:Cx}{x:Str}{C:Addr}{bmB:List Value}{Bn newId mG:String}{np kL pos:Pos}{e₀:aJ}{rest:List aJ}{ta:TA}{E:XK}
def Qm(X:Cx)(E:XK):Prop:=∀(pins:List (Addr×Obj)) (σ:St) (H:Hp) (s:aG) (e:Addr) (h1:aQ) (cls:Value) (vs:List Value),Inv X pins σ H s->Cv s.heap h1 e cls vs->E cls aD H->X.xe (.ref e) { s with heap:=h1 }
end
theorem X9{P:bG}{w:bD}{K:aX}{mg:Str->Option Value}{base:aQ}{N:List Str}{qual:Str}{scope:eU}{f:Addr}{cd:Value}{A:bS}{outer:List Env}{s:aG}{H:Hp}{E:XK} :
 Qm (pS (dU P w) P w K mg base N qual scope f cd A outer s H E) E:=λpins σ H1 s1 e h1 cls vs I m q=>TN I rfl rfl rfl m q
def lB(a:Addr)(cls:Value)(dx:Option Addr)(h:aQ):Prop:=∃ob,h.get? a=aA ob/\ob.cls=cls/\(∃ws,ob.data = .fields ws)/\∀d,dx=aA d->ob.dict=aA d
theorem Ci{a:Addr}{cls:Value}{dx:Option Addr}{h:aQ}{a0:Value}(x:∃ob vs,h.get? a=aA ob/\ob.cls=cls/\ob.data = .fields vs/\vs[0]?=aA a0)(d:fK a dx h):lB a cls dx h:=
 let ⟨ob,ws,e,c,f,_⟩:=x;⟨ob,e,c,⟨ws,f⟩,λk q=>by obtain⟨o,e1,d1⟩:=d k q;rw[e]at e1;cases e1;exact d1⟩
abbrev Cx.held(X:Cx)(a:Addr):Cx:={ X with A:=X.A.mark (aA (.ref a)),calm:=aF,xe:=λ_ _=>False }
section
variable {X:Cx}{pins:List (Addr×Obj)}{σ:St}{H H':Hp}{s s':aG}{a:Addr}{cls a0:Value}{dx:Option Addr}{B h5:aQ}
theorem Inv.Lp(I:Inv X pins σ H s):Inv (X.held a) pins σ H s:=
 ⟨⟨I.ok.mod,I.ok.kind,I.ok.glob,I.ok.blt,I.ok.above,I.ok.inj,I.ok.has,I.ok.pP,λz=>Bool.noConfusion z,I.ok.frames,I.ok.gQ,I.ok.pT,I.ok.bs,I.ok.lJ,I.ok.pW,I.ok.oR,I.ok.jL,I.ok.nE⟩,I.os,I.bare,I.base,I.loc,I.cell,I.free,I.iW,I.pin,I.aR,I.len⟩
theorem Inv.vV(ok:X.Ok)(I:Inv (X.held a) pins σ H s):Inv X pins σ H s:=⟨ok,I.os,I.bare,I.base,I.loc,I.cell,I.free,I.iW,I.pin,I.aR,I.len⟩
theorem Inv.Rm(I:Inv X pins σ H s)(os:s'.os=s.os)(bare:pA s'.gens)(un:Un (cN X.stack) [] H H' s.heap s'.heap)(aR:dW X.prog X.w H' s'.heap)
  (fM:mV B X.stack a cls a0 s'.heap) (calm:ux B (cN X.stack) s.heap H' s'.heap) (k:B.StaysIn h5) (up:s'.heap.UpToSlots h5) (there:lB a cls dx h5) :
  H' a=aD/\Inv X pins σ (aZ H' a (.ext (lB a cls dx))) { s' with heap:=h5 }:=by
 have n0:∀b:Addr,b∉([]:List Addr):=λb z=>by cases z
 have nas:a∉cN X.stack:=λz=>by obtain⟨_,o,ho,hd⟩:=fM.2.2.1.mem z;obtain⟨oe,vs,he,_,hv,_⟩:=fM.first;rw[ho]at he;cases he;exact hd vs hv
 have naB:B.get? a=aD:=fM.2.1;have naH:H' a=aD:=by
  cases q:H' a with
  |none=>rfl|some y=>obtain⟨o,ho⟩:=(aR a y q).get;have:=calm a o ho nas (.inr (by rw[q];intro z;cases z));rw[naB]at this;cases this
 have na:∀b o,s.heap.get? b=aA o->b≠a:=λb o e z=>by subst z;obtain⟨o',e'⟩:=un.there b o e (n0 b);have:=calm b o' e' nas (.inl ⟨o,e⟩);rw[naB]at this;cases this
 have nf:∀b∈cN X.stack,H' b=aD:=λb hb=>by obtain⟨_,o,ho,_⟩:=I.stack.mem hb;exact un.free b o ho (I.zM b hb) (n0 b)
 have nt:∀{b:Addr}{o:HO},H' b=aA o->b≠a:=λ{b o} e=>gW e naH;have slots:∀b∈cN X.stack,∀o,s'.heap.get? b=aA o->∃sl,h5.get? b=aA { o with slots:=sl }:=λb hb o e=>by obtain⟨_,o',ho,hd⟩:=fM.2.2.1.mem hb;rw[e]at ho;cases ho;exact up b o e hd
 refine⟨naH,I.Gn (s':={ s' with heap:=h5 }) (ch:=[]) os ⟨λb o e n hb _=>?_,λb o e n hb _=>?_,λb o e n _=>?_,λb o e _=>?_,λb xs e=>?_,λb o u e=>?_,λb ps e=>?_⟩ ?_ bare λb z=>absurd z (n0 b)⟩
 .have e2:=un.keep b o e n hb (n0 b);exact k b o (calm b o e2 hb (.inl ⟨o,e⟩))
 .obtain⟨sl,e2⟩:=un.slot b o e n hb (n0 b);obtain⟨sl3,e3⟩:=slots b hb _ e2;exact⟨sl3,e3⟩
 .rw[bW (na b o e)];exact un.free b o e n (n0 b)
 .obtain⟨u2,e2⟩:=un.there b o e (n0 b);by_cases hb:b∈cN X.stack
  .obtain⟨sl,e3⟩:=slots b hb u2 e2;exact⟨_,e3⟩
  .exact⟨u2,k b u2 (calm b u2 e2 hb (.inl ⟨o,e⟩))⟩
 .have:=un.lT b xs e;rw[bW (nt this)];exact this
 .have:=un.kO b o u e;rw[bW (nt this)];exact this
 .obtain⟨m2,e2⟩:=un.lR b ps e;exact⟨m2,by rw[bW (nt e2)];exact e2⟩
 .have ok5:=aR.fM calm k nf;intro b u q;by_cases hb:b=a
  .subst hb;rw[gY]at q;cases q;obtain⟨ob,h1,h2⟩:=there;exact⟨⟨ob,h1,h2⟩,⟨ob,h1⟩,λh1 h2 ⟨o,g1,g2⟩ kk=>⟨o,kk o g1,g2⟩⟩
  .rw[bW hb]at q;exact(ok5 b u q).mP (λ_ _ _ z=>z) (λc z=>by rw[bW (nt z)];exact z) λc xs z=>by rw[bW (nt z)];exact z
theorem wx{M:jH}{A:bS}{E:Value->aG->Prop}{i:Nat}{n:Str}{pos:Pos}{Q:Unit->aG->Prop}(I:Inv X pins σ H s)(hN:X.N.Nodup)(hi:X.N[i]?=aA n)(hk:X.env.kindOf n=aA .local)
  (h:∀s',Inv X pins (σ.set i aD) H s'->Q () s'):aO M A (do bindName X.env n .none;unbindBehindTheSuite X.env n pos) Q E s:=by
 obtain⟨m,hn,hl⟩:=id I.loc;have jz:(X.env.scope.kind == .class||(X.env.scope.kind == .module&&X.env.locals != X.env.globals))=aF:=by rw[I.ok.kind];rfl
 have pR:=I.pR;refine wpAny_nameGoes_keeps hk hn jz λh' v hn' hs=>?_;obtain⟨oL,_,_,hoL,_⟩:=id hn;have old:∀b o,X.s₀.heap.get? b=aA o->b≠X.env.locals:=λb o e=>bU (cP (cU e) I.ok.above);refine h _ ⟨I.ok,I.os,I.bare,⟨λb o e n hb hx=>(hs.2 b (old b o e)).trans (I.base.keep b o e n hb hx),λb o e n hb hx=>?_,I.base.free,λb o e hx=>?_,I.base.lT,I.base.kO,I.base.lR⟩,⟨_,hn',λj y v' e1 e2 e3=>?_⟩,λy c e=>?_,I.free,I.iW,λp hp=>?_,λb ob e=>?_,by simpa using I.len⟩
 .obtain⟨sl,e1⟩:=I.base.slot b o e n hb hx;exact⟨sl,(hs.2 b (old b o e)).trans e1⟩
 .obtain⟨o',e1⟩:=I.base.there b o e hx;exact⟨o',(hs.2 b (old b o e)).trans e1⟩
 .by_cases hj:j=i
  .subst hj;by_cases hlt:j<σ.length
   .rw[gu hlt]at e2;cases e2
   .rw[sv (by simpa using hlt)]at e2;cases e2
  .rw[gr (kE hj)]at e2;obtain⟨u',r',q⟩:=hl j y v' e1 e2 e3;refine⟨u',r',?_⟩;rcases q with⟨k,e⟩|⟨k,c,e,z⟩
   .refine .inl ⟨k,?_⟩;have:y≠n:=λe=>hj (Jk hN e1 (e▸hi));simp[this,e]
   .exact .inr ⟨k,c,e,z.sameBut hs (pR y c e)⟩
 .obtain⟨w',z⟩:=I.cell y c e;exact⟨w',z.sameBut hs (pR y c e)⟩
 .obtain⟨e,n,ne,nf,d⟩:=I.pin p hp;exact⟨(hs.2 p.1 ne).trans e,n,ne,nf,d⟩
 .refine(I.aR b ob e).mP (λc w' hc q=>(hs.2 c ?_).trans q) (λ_ q=>q) λ_ _ q=>q;rintro rfl
  have kf:=I.free;rcases hc with rfl|hc
  .rw[kf]at e;cases e
  .rw[kf]at hc;cases hc
end
def clsIn(K:aX)(C:Addr):Bool:=match K.lookup C with
 |some ⟨.type "type",_,.cls cd,sl⟩=>(match cd.mro,sl.toList with
  |.ref C'::bm,[_,_,_,_,aA (.builtin _),_]=>C'==C && !cd.hasDel&&bm.contains (.type "BaseException")
  |_,_=>aF)
 |_=>aF
def mroOf(K:aX)(C:Addr):List Value:=match K.lookup C with
 |some ⟨_,_,.cls cd,_⟩=>cd.mro
 |_=>[]
theorem Sd{K:aX}{h₀:aQ}{C:Addr}(X:K.In h₀)(q:clsIn K C=aB) :
  ∃bm N nm q bs kQ sn sub ab col dd k0 k1 k2 k3 k5 newId,h₀.get? C=aA (xJ nm q C N bs bm kQ sn sub ab col dd k0 k1 k2 k3 k5 newId)/\mroOf K C = .ref C::bm/\bm.contains (.type "BaseException")=aB:=by
 unfold clsIn at q;split at q
 .rename_i dd cd sl ho;have tN:mroOf K C=cd.mro:=by unfold mroOf;rw[ho]
  split at q
  .rename_i C' bm k0 k1 k2 k3 n k5 hm hs;simp only[aY,beq_iff_eq,qG]at q;obtain⟨⟨rfl,kb⟩,hb⟩:=q;rw[hm]at tN;obtain⟨nm,bs,mro,ns,qn,hd,sn,sub,ab,col,del⟩:=cd;dsimp only at hm kb;subst hm kb;have hsl:sl=#[k0,k1,k2,k3,aA (.builtin n),k5]:=by obtain⟨l⟩:=sl;simp only at hs;rw[hs]
   subst hsl;exact⟨bm,ns,nm,qn,bs,hd,sn,sub,ab,col,dd,k0,k1,k2,k3,k5,n,X _ _ ho,tN,hb⟩
  .cases q
 .cases q
section
variable {M:jH}{A:bS}{E:Value->aG->Prop}
variable {nm q nm' q':Str}{C N D N':Addr}{bs bm bs' bm':List Value}{kQ Uz:Bool}{sn sn':List Str}{sub sub':List Value}{ab ab':Bool}{col col':Option Bool}{dd dd':Option Addr}{k0 k1 k2 k3 k5 j0 j1 j2 j3 j5:Option Value}{newId newId':String}
theorem Tr{b:Bool}{h:aQ}{g:Array Cu}{d:Drawn}{t:Nat}{os:OsState}{e:Addr}{oe:Obj}{Q:Bool->aG->Prop}
  (hC:h.get? C=aA (xJ nm q C N bs bm kQ sn sub ab col dd k0 k1 k2 k3 k5 newId)) (hD:h.get? D=aA (xJ nm' q' D N' bs' bm' Uz sn' sub' ab' col' dd' j0 j1 j2 j3 j5 newId'))
  (he:h.get? e=aA oe) (jz:oe.cls = .ref C) (vO:bm'.contains (.type "BaseException")=aB) (Vd:(eX C::bm).contains (.ref D)=b)
  (hq:Q b ⟨h,g,d,t,os⟩):aO M A (excMatches (.ref e) (.ref D)) Q E ⟨h,g,d,t,os⟩:=by
 have hcB:(eX D::bm').contains (.type "BaseException")=aB:=by rw[IC,vO,Nb]
 have f:=tc_notTuple;unfold excMatches;cases b<;>repeat (first|(with_reducible refine bc he ?_;rw[jz])|with_reducible refine bc hD ?_|(with_reducible refine Eu hD ?_;rw[hcB])|(with_reducible refine Eu hC ?_;rw[Vd])|wp_step|exact hq)
end
def vi(CX:mY)(X:Cx)(EE:St->XK):Prop:=∀(pins:List (Addr×Obj)) (σ:St) (H:Hp) (s:aG) (e:Value) (s':aG),Inv X pins σ H s->CX X.stack H s (EE σ) e s'->X.xe e s'
abbrev Cx.kW(X:Cx)(pn:List (Addr×Obj))(E1:Value->aG->Prop):Cx:={ X with pn:=pn,xe:=E1 }
section
variable {X:Cx}{pins pins' pn:List (Addr×Obj)}{σ:St}{H:Hp}{s:aG}{E1:Value->aG->Prop}
theorem Inv.aEc(I:Inv X pins σ H s):Inv (X.kW (X.pn++pins) E1) [] σ H s:=
 ⟨⟨I.ok.mod,I.ok.kind,I.ok.glob,I.ok.blt,I.ok.above,I.ok.inj,I.ok.has,I.ok.pP,I.ok.hd,I.ok.frames,I.ok.gQ,I.ok.pT,I.ok.bs,I.ok.lJ,I.ok.pW,I.ok.oR,I.ok.jL,I.ok.nE⟩,I.os,I.bare,I.base,I.loc,I.cell,I.free,I.iW,
  λp hp=>I.pin p (by rw[iS]at hp;exact hp),I.aR,I.len⟩
theorem Inv.kr(I:Inv (X.kW (X.pn++pins) E1) pins' σ H s):Inv X pins σ H s:=
 ⟨⟨I.ok.mod,I.ok.kind,I.ok.glob,I.ok.blt,I.ok.above,I.ok.inj,I.ok.has,I.ok.pP,I.ok.hd,I.ok.frames,I.ok.gQ,I.ok.pT,I.ok.bs,I.ok.lJ,I.ok.pW,I.ok.oR,I.ok.jL,I.ok.nE⟩,I.os,I.bare,I.base,I.loc,I.cell,I.free,I.iW,
  λp hp=>I.pin p (gx _ hp),I.aR,I.len⟩
end
structure Hd where
 Dc:Addr
 i:Option Nat
 ts:TS
def UX(D:Ends):Option Nat->Ends
 |none=>D
 |some i=>{ nx:=λσ H=>D.nx (σ.set i aD) H,rt:=D.rt,bk:=λσ H=>D.bk (σ.set i aD) H,ct:=λσ H=>D.ct (σ.set i aD) H }
def UY(σ:St)(a:Addr):Option Nat->St
 |none=>σ
 |some i=>σ.set i (aA (.ref a))
def vP(K:aX)(C:Addr)(D:Ends)(σ:St)(a:Addr)(H:Hp):List Hd->Prop
 |[]=>False
 |d::ds=>if(mroOf K C).contains (.ref d.Dc)=aB then d.ts (UX D d.i) (UY σ a d.i) H else vP K C D σ a H ds
def Ll(K:aX)(D:Ends)(ds:List Hd):St->XK:=λσ cls dx H=>∃C,cls = .ref C/\clsIn K C=aB/\∀a,H a=aD->vP K C D σ a (aZ H a (.ext (lB a (.ref C) dx))) ds
def aDf(K:aX)(ds:List Hd)(tb:List (Addr×Obj)->(Value->aG->Prop)->(St->XK)->TS):TS:=λD σ H=>∀pn E1,tb pn E1 (Ll K D ds) D σ H
inductive ve(X:Cx):Option Str->Option Nat->Prop
 |no:ve X aD aD
 |as {n:Str}{i:Nat} (hi:X.N[i]?=aA n) (hk:X.env.kindOf n=aA .local):ve X (aA n) (aA i)
inductive bh(X:Cx):List pB->List Hd->Prop
 |nil:bh X [] []
 |cons {x:Str}{np cx:Pos}{Dc:Addr}{nm:Option Str}{i:Option Nat}{b₀:Stmt}{suite:List Stmt}{ts:TS}{hs:List pB}{ds:List Hd} (hg:Gl X x) (hm:X.mg x=aA (.ref Dc)) (hD:clsIn X.K Dc=aB) (hdb:(x==("__debug__":Str))=aF)
  (hn:ve X nm i) (hsu:∀a,oH (X.held a) (b₀::suite) ts) (t:bh X hs ds):bh X (.ExceptHandler (aA (.Name x np)) nm (b₀::suite) cx::hs) (⟨Dc,i,ts⟩::ds)
section
variable {X:Cx}{body:List Stmt}{pos:Pos}{ds:List Hd}{h₀:pB}{hs:List pB}{D:Ends}{tb:List (Addr×Obj)->(Value->aG->Prop)->(St->XK)->TS}{pins:List (Addr×Obj)}{σ:St}{H:Hp}{s s':aG}{e:Value}
theorem XR(I:Inv X pins σ H s)(h:dU X.prog X.w X.stack H s (Ll X.K D ds σ) e s') :
  ∃a B C a0 H' dx,e = .ref a/\mV B X.stack a (.ref C) a0 s'.heap/\fK a dx s'.heap/\clsIn X.K C=aB/\vP X.K C D σ a (aZ H' a (.ext (lB a (.ref C) dx))) ds /\
   ∀h5,B.StaysIn h5->s'.heap.UpToSlots h5->lB a (.ref C) dx h5->Inv X pins σ (aZ H' a (.ext (lB a (.ref C) dx))) { s' with heap:=h5 }:=by
 obtain⟨a,cls,H',B,a0,dx,rfl,os,bare,un,aR,fM,calm,hdx,C,rfl,hC,q⟩:=h;have na:H' a=aD:=(I.Rm os bare un aR fM calm fM.1 (Heap.UpToSlots.refl _) (Ci fM.first hdx)).1;exact⟨a,B,C,a0,H',dx,rfl,fM,hdx,hC,q a na,λh5 k up th=>(I.Rm os bare un aR fM calm k up th).2⟩
theorem UZ{B:aQ}{C a:Addr}{a0:Value}{dx:Option Addr}{H2:Hp}(ok:X.Ok)(hN:X.N.Nodup)(hC:clsIn X.K C=aB)
  (inv:∀h5,B.StaysIn h5->s'.heap.UpToSlots h5->lB a (.ref C) dx h5->Inv X pins σ H2 { s' with heap:=h5 }) (o:bh X hs ds) :
  ∀{h5:aQ},mV B X.stack a (.ref C) a0 h5->fK a dx h5->s'.heap.UpToSlots h5->vP X.K C D σ a H2 ds->aO (aS X.prog X.w) X.A (handleBy (.ref a) X.env hs) (SP X pins D) X.xe { s' with heap:=h5 }:=by
 induction o with
 |nil=>intro h5 _ _ _ z;exact z.elim|@cons x np cx Dc nm i b₀ suite ts hs ds hg hm hD hdb hn hsu t ih=>
  intro h5 fly5 dx5 up5 q;have J5:=(inv h5 fly5.1 up5 (Ci fly5.first dx5)).Lp (a:=a);refine wpAny_handleBy_cons (codeAny_handlers_test (da (X:=X.held a) J5 hg hm ?_ hdb)) (by intro q;cases q);obtain⟨bm,N,nm,qn,bs,kQ,sn,sub,ab,col,dd,k0,k1,k2,k3,k5,nid,hCo,tN,_⟩:=Sd J5.fW hC;obtain⟨bm',N',nm',qn',bs',Uz,sn',sub',ab',col',dd',j0,j1,j2,j3,j5,nid',hDo,_,vO⟩:=Sd J5.fW hD;obtain⟨ob,hob,Vc⟩:=fly5.there;have tN:mroOf X.K C=_:=tN;unfold vP at q;cases hb:(mroOf X.K C).contains (.ref Dc) with
  |false=>rw[if_neg (by rw[hb];exact dG)]at q;rw[tN]at hb;exact Tr hCo hDo hob Vc vO hb (ih fly5 dx5 up5 q)
  |true=>
   rw[if_pos hb]at q;rw[tN]at hb;refine Tr hCo hDo hob Vc vO hb ?_;cases hn with
   |no=>
    refine codeAny_handlers_suite (Xe fly5 dx5 λh6 fly6 up6 dx6=>?_);have J6:=(inv h6 fly6.1 (up5.trans up6) (Ci fly6.first dx6)).Lp (a:=a);refine kH (hsu a pins _ _ _ _ J6 q) (λf s8 hf8=>?_) λ_ _ z=>z.elim;cases f with
    |next=>obtain⟨σ2,H2,J,d⟩:=hf8;exact⟨_,_,J.vV ok,d⟩|brk=>obtain⟨σ2,H2,J,d⟩:=hf8;exact⟨_,_,J.vV ok,d⟩|cont=>obtain⟨σ2,H2,J,d⟩:=hf8;exact⟨_,_,J.vV ok,d⟩|ret u=>obtain⟨v,σ2,H2,J,r,d⟩:=hf8;exact⟨v,_,_,J.vV ok,r,d⟩
   |as hi hk=>
    refine codeAny_handlers_suite_as (Xe fly5 dx5 λh6 fly6 up6 dx6=>?_);have J6:=(inv h6 fly6.1 (up5.trans up6) (Ci fly6.first dx6)).Lp (a:=a);refine qj (X:=X.held a) (v:=.ref a) J6 hN hi (.inl hk) (show eX a=eX a from rfl) (λs7 J7=>?_) (.inr hk);refine kH (hsu a pins s7 _ _ _ J7 q) (λf s8 hf8=>?_) λ_ _ z=>z.elim;cases f with
    |next=>obtain⟨σ2,H2,J,d⟩:=hf8;exact wx (J.vV ok) hN hi hk λs9 J9=>⟨_,_,J9,d⟩|brk=>obtain⟨σ2,H2,J,d⟩:=hf8;exact wx (J.vV ok) hN hi hk λs9 J9=>⟨_,_,J9,d⟩|cont=>obtain⟨σ2,H2,J,d⟩:=hf8;exact wx (J.vV ok) hN hi hk λs9 J9=>⟨_,_,J9,d⟩|ret u=>obtain⟨v,σ2,H2,J,r,d⟩:=hf8;exact wx (J.vV ok) hN hi hk λs9 J9=>⟨v,_,_,J9,r,d⟩
theorem D5(hst:X.stack=X.env::X.outer)(hf:X.env.frame=aA X.env.locals)(hN:X.N.Nodup)(o:bh X (h₀::hs) ds)
  (hb:∀pn E1 EE,vi (dU X.prog X.w) (X.kW pn E1) EE->oH (X.kW pn E1) body (tb pn E1 EE)):PS X (.Try body (h₀::hs) [] [] pos) (aDf X.K ds tb):=by
 intro pins s σ H D I h;have hfr:X.A.frames=aA (X.env::X.outer):=by rw[<- hst];exact I.ok.frames
 refine wpAny_Try_except (kH (hb (X.pn++pins) (λe s'=>∃σ' H1 s1,Inv X pins σ' H1 s1/\dU X.prog X.w X.stack H1 s1 (Ll X.K D ds σ') e s') _
  (λpins' σ' H1 s1 e s' I' h'=>⟨σ',H1,s1,I'.kr,h'⟩) [] s σ H D I.aEc (h _ _)) (λf s1 hf1=>?_) λe s' ⟨σ',H1,s1,I1,h1⟩=>?_)
 .cases f with
  |next=>obtain⟨σ',H',J,d⟩:=hf1;exact Qd ⟨σ',H',J.kr,d⟩
  |brk=>obtain⟨σ',H',J,d⟩:=hf1;exact⟨σ',H',J.kr,d⟩|cont=>obtain⟨σ',H',J,d⟩:=hf1;exact⟨σ',H',J.kr,d⟩|ret u=>obtain⟨v,σ',H',J,r,d⟩:=hf1;exact⟨v,σ',H',J.kr,r,d⟩
 .obtain⟨a,B,C,a0,H',dx,rfl,fM,hdx,hC,q,inv⟩:=XR I1 h1;rw[hst]at fM;refine Xo hfr hf fM hdx λh4 Hs up4 dx4=>?_;refine XS Hs dx4 λh5 fly5 up5 dx5=>?_;rw[<- hst]at fly5;exact UZ I.ok hN hC inv o fly5 dx5 (up4.trans up5) q
end
section
variable {X:Cx}{CX:mY}{k:Nat}{f:Addr}{fd:eW}{ps:List Str}{sp:Sp}{EE:St->XK}{x:Str}{p pos:Pos}{e:aJ}{es:List aJ}{t:TA}
theorem PA.dk{es:List aJ}{t:TA}(h:PA X.dk es t):PA X es t:=λpos pins s σ H Q I hw=>kH (h pos pins s σ H Q (I.uG _) hw) (λ_ _ ⟨vs,H',I',r,q⟩=>⟨vs,H',I'.Lu,r,q⟩) λ_ _ z=>jT z
theorem PE.of{e:aJ}{t t':TE}(h:PE X e t)(f:∀σ H Q,t' σ H Q->t σ H Q):PE X e t':=λpins s σ H Q I q=>h pins s σ H Q I (f σ H Q q)
def aCp(sp:Sp)(EE:St->XK)(t:TA):TE:=λσ H Q=>t σ H λvs H1=>sp vs H1 Q (EE σ)
theorem aAd{pins:List (Addr×Obj)}{σ:St}{H:Hp}{s:aG}{Q:VK}{us:List Value}{vs:List V}(F:iN X.prog X.w X.K X.mg X.base CX k f fd ps sp)(hr:fL k X.A)(hb:Binds X.K fd ps [])(hx:vi CX X EE)
  (I:Inv X pins σ H s) (r:Vals vs us) (h:sp vs H Q (EE σ)):aO (aS X.prog X.w) X.A (call (.ref f) us) (EP X pins σ Q) X.xe s:=by
 have hl:(us++[]).length=ps.length:=by rw[iS,<- r.length];exact F.len _ _ _ _ h
 have hb':=hb s us I.fW hl;rw[iS]at hb';refine ba (ak (F.run X.A X.stack s H ⟨us,[]⟩ us vs Q (EE σ) hr I.Gy hb' r h) λr s' hq=>?_);cases r with
 |error e=>exact hx pins σ H s e s' I hq|ok fl=>
  cases fl with
  |ret u=>exact I.after hq|next=>exact jT hq|brk=>exact jT hq|cont=>exact jT hq
theorem w9(F:iN X.prog X.w X.K X.mg X.base CX k f fd ps sp)(hr:fL k X.A)(hg:Gl X x)(hm:X.mg x=aA (.ref f))(hk:ic X.K (.ref f)=aB)(hb:Binds X.K fd ps [])(hx:vi CX X EE)
  (ha:PA X (e::es) t) (hdb:(x==("__debug__":Str))=aF:=by decide) (he:eY (e::es) X.env=(aF,eval e X.env)::eY es X.env:=by rfl) (hpl:(nZ pos (eY es X.env)).any (·.1)=aF:=by rfl) :
  PE X (.Call (.Name x p) (e::es) [] pos) (aCp sp EE t):=by
 intro pins s σ H Q I h;refine uq (da I hg hm ?_ hdb);refine KJ (h₀:=X.base) I.ok.mod.kl hk (bM (ha pos pins s σ H _ I h) λus s1 ⟨vs,H1,I1,r,q⟩=>⟨I1.fW,?_⟩) he hpl;exact aAd F hr hb hx I1 r q
end
end L2
namespace PySem.W
open PySem PySem.Spec PySem.Calls PyProof.Rows
open PySem PySem.Calls PyProof.Rows Builtin Builtin.ObjectAttr
open PySem PySem.Calls PyProof.Rows Builtin Builtin.ObjectAttr Builtin.Getset_descriptor
section
variable {prog:bG}{w:bD}{A:bS}{E:Value->aG->Prop}{s:aG}{K:Frag}{x D:Addr}{name:Str}
theorem aIw{M:jH}{h:aQ}{a g:Value} (X:K.In h) (ha:qV K (.ref D) name=aA (aA a)) (hg:Px K a "__get__"=aA (aA g)) (ht:takesIn K a=aA aB):pH M h (find (.ref x) (.ref D) name) (.bind g a):=by have L1:=ig (M:=M) X ha;have L2:pH M h (getOf (aA a)) (aA g):=looks_specialIn X hg;have L3:=looks_takesIn (M:=M) X ht;refine L1.andThen (L2.andThen ?_);exact(show pH M h (dataDescriptor? (aA a) (aA g)) (aA (g,a)) from L3.andThen .now).andThen (Looks.tag .now)
theorem aIx{R:Result->aG->Prop}{tp:Value} (X:K.In s.heap) (L0:∀M,pH M s.heap (uW (.ref x)) (.ref D)) (hm:mroIn K D (.type "object")=aA aB)
  (h:R (.ok (.ret (.ref D))) s):sN (aS prog w) A (.call (.builtin "getset_descriptor.__get__") ⟨[.builtin "object.__class__",.ref x,tp],[]⟩) R s:=by
 obtain⟨hh,g,dr,t,os⟩:=s;have L0:=L0 (aS prog w);have L1:=Pq (M:=aS prog w) X hm;refine Eh KF.slot_gs.plain KF.entry_gs (KF.slot_gs.check _ _ _ _ _ _ _ _ KF.type_class (KF.args_gs _ _ _) ?_);unfold Builtin.«getset_descriptor.__get__» descrGet;rw[dga_obj];refine aL (bH ?_);unfold descrGetter descrCheckInstance descrNameAndClass El;simp only[KF.owner_class];repeat lk
 refine⟨Ng _ (by decide +kernel),codeAny_builtin KF.entry_class ?_⟩;unfold Builtin.«object.__class__» shownTypeOf;repeat lk
 exact h
theorem aJa{Q:Option Value->aG->Prop} (X:K.In s.heap) (L0:∀M,pH M s.heap (uW (.ref x)) (.ref D)) (hga:qV K (.ref D) "__getattribute__"=aA (aA (.builtin "BaseException.__getattribute__"))) (hk:qV K (.ref D) "__getattr__"=aA aD)
  (h:sN (aS prog w) A (.call (.builtin "BaseException.__getattribute__") ⟨[.ref x,.str name s.toks],[]⟩) (λr s'=>match r with | .ok (.ret v)=>handedIn v=aB/\Q (aA v) s'|_=>False) { s with toks:=s.toks+1 }) :
  aO (aS prog w) A (getAttr? (.ref x) name) Q E s:=by
 obtain⟨hh,g,d,t,os⟩:=s;have L0:=L0 (aS prog w);have L1:=ig (M:=aS prog w) X hga;have L2:=ig (M:=aS prog w) X hk;unfold getAttr? getAttrBy? getAttrBy;refine aL (MB (aL (ur (kG (aL (L0.at (aL (L1.at ?_))))))));show aO _ _ (Ej _ _ _ _ _ _) _ _ _;unfold Ej;refine aL (show aO _ _ (Es (.ref D) "__getattr__") _ _ _ from L2.at ?_);refine aL (ur (kG ?_));show aO _ _ (Pl _ _ _) _ _ _;unfold Pl;have f3:=PySem.F.excAttr_ValueError.ga.bind (.ref x);rw[f3];refine aL (bH ?_);refine ba (ak h λr s' z=>?_);rcases r with e|(_|_|_|v)
 .exact z.elim
 .exact z.elim
 .exact z.elim
 .exact z.elim
 .dsimp only at z ⊢;rw[handedOut_of z.1];exact bH (bH z.2)
theorem aIz{tk:Tok}{Q:Fin->aG->Prop} (X:K.In s.heap) (L0:∀M,pH M s.heap (uW (.ref x)) (.ref D)) (ha:qV K (.ref D) "__class__"=aA (aA (.builtin "object.__class__")))
  (hn:Px K (.builtin "object.__class__") "__get__"=aA (aA (.builtin "getset_descriptor.__get__"))) (htk:takesIn K (.builtin "object.__class__")=aA aB) (hm:mroIn K D (.type "object")=aA aB)
  (hq:Q (.done (.ret (.ref D))) s):aO (aS prog w) A (Builtin.«object.__getattribute__» ⟨[.ref x,.str "__class__" tk],[]⟩) Q E s:=by
 obtain⟨hh,g,d,t,os⟩:=s;have L1:=λM=>aIw (M:=M) (x:=x) X ha hn htk;have L0':=L0 (aS prog w);have L1':=L1 (aS prog w);unfold Builtin.«object.__getattribute__»;refine aL (bH (aL (bH (aL (L0'.at (aL (L1'.at ?_)))))));show aO _ _ (bindTo _ _ _ _) _ _ _;unfold bindTo;dsimp only;refine aL (kG (ba (aIx X L0 hm ?_)));exact bH hq
theorem GK{M:jH}{nameV:Value}{Q:Unit->aG->Prop} (X:K.In s.heap) (L0:∀M,pH M s.heap (uW (.ref x)) (.ref D)) (hm:mroIn K D (.type "BaseException")=aA aB) (hq:Q () s) :
  aO M A (LK "BaseException.__getattribute__" ⟨[.ref x,nameV],[]⟩) Q E s:=by
 have hk:builtinKind "BaseException.__getattribute__"=aA .slot:=by decide +kernel
 have VN:splitId "BaseException.__getattribute__"=aA ("BaseException","__getattribute__"):=by decide +kernel
 have ha:=F.args_bexc_ga (.ref x) nameV;obtain⟨hh,g,d,t,os⟩:=s;have LI:pH M hh (El (.ref x) (.type "BaseException")) aB:=(L0 M).andThen (Pq X hm);simp only[LK,hk,VN];refine aL (LI.at ?_);repeat (first|assumption|wp_step)
 all_goals exact hq
def uH(K:Frag)(D:Addr):Bool:=
 qV K (.ref D) "__getattribute__"==aA (aA (.builtin "BaseException.__getattribute__"))&&qV K (.ref D) "__getattr__"==aA aD&&qV K (.ref D) "__class__"==aA (aA (.builtin "object.__class__")) &&
 Px K (.builtin "object.__class__") "__get__"==aA (aA (.builtin "getset_descriptor.__get__"))&&takesIn K (.builtin "object.__class__")==aA aB&&mroIn K D (.type "object")==aA aB&&(clsIn K D).isSome &&
 mroIn K D (.type "BaseException")==aA aB
theorem aIy{dx:Option Addr}(q:uH K D=aB):KitX K (.ref x) (.ref D) (L2.lB x (.ref D) dx):=by
 simp only[uH,aY,beq_iff_eq]at q;obtain⟨⟨⟨⟨⟨⟨⟨q1,q2⟩,q3⟩,q4⟩,q5⟩,q6⟩,q7⟩,q8⟩:=q;have L0:∀(M:jH) (h:aQ),L2.lB x (.ref D) dx h->pH M h (uW (.ref x)) (.ref D):=λM h ⟨ob,h1,h2,_⟩=>h2▸(Looks.ld h1).andThen .now;refine⟨λM h _ p=>L0 M h p,λM h X p=>?_,λh tp dd its n sl X ht=>?_,λ{prog w A E Q s} X p hq=>?_⟩
 .obtain⟨cd,hc⟩:=Option.isSome_iff_exists.mp q7;unfold clsIn at hc;split at hc
  .rename_i ho;intro A' Q' E' s' k q;unfold isType loadHead;exact aL (MA (k _ _ (X _ _ ho)) (bH q))
  .cases hc
 .obtain⟨cd,hc⟩:=Option.isSome_iff_exists.mp q7;refine Bool.eq_false_iff.mpr λz=>?_;cases beq_iff_eq.mp z;unfold clsIn at hc;split at hc
  .rename_i ho;have:=X _ _ ho;rw[ht]at this;cases this
  .cases hc
 .exact aJa X (λM=>L0 M _ p) q1 q2 (Eh PySem.F.excAttr_ValueError.ga.plain HN (GK (s:={ s with toks:=s.toks+1 }) X (λM=>L0 M _ p) q8
   (aIz (s:={ s with toks:=s.toks+1 }) X (λM=>L0 M _ p) q3 q4 q5 q6 ⟨rfl,hq⟩)))
end
end PySem.W
namespace L2
open PySem PySem.Spec PyProof.Rows
def uZ(X:Cx)(E:XK):Prop:=∀(pins:List (Addr×Obj)) (σ:St) (H:Hp) (s:aG) (ch:List Addr) (e:Value) (s':aG),Inv X pins σ H s->(∀b∈ch,X.s₀.heap.objs.size<=b/\b∉cN X.stack)->Fc X.prog X.w ch X.stack H s E e s'->X.xe e s'
theorem Y9{P:bG}{w:bD}{K:aX}{mg:Str->Option Value}{base:aQ}{N:List Str}{qual:Str}{scope:eU}{f:Addr}{cd:Value}{A:bS}{outer:List Env}{s:aG}{H:Hp}{E:XK} :
 uZ (pS (dU P w) P w K mg base N qual scope f cd A outer s H E) E:=λpins σ H1 s1 ch e s' I hc h=>Ud I rfl rfl rfl hc h
theorem Z0{X:Cx}:uZ X (λ_ _ _=>False):=λ_ _ _ _ _ _ _ _ _ h=>jT (by cases h;assumption)
theorem Ui{h B B':aQ}(k:∀b,B.get? b=aD->B'.get? b=aD):∀{l:List Env},h.FunFrames B l->h.FunFrames B' l
 |[],_=>trivial|_::_,⟨x,⟨L,o,y,n,z⟩,r⟩=>⟨x,⟨L,o,y,k L n,z⟩,Ui k r⟩
theorem Uj{h h' B:aQ}:∀{l:List Env},(∀b∈cN l,∀o,h.get? b=aA o->h'.get? b=aA o)->h.FunFrames B l->h'.FunFrames B l
 |[],_,_=>trivial|env::_,k,⟨x,⟨L,o,y,n,z,d⟩,r⟩=>⟨x,⟨L,o,y,n,k L (by unfold cN;rw[pD,y];exact fU) o z,d⟩,Uj (λb hb=>k b (by
  unfold cN at hb ⊢;rw[pD,y];exact hV _ hb)) r⟩
section
variable {X:Cx}{pins:List (Addr×Obj)}{σ:St}{H1:Hp}{s1 s':aG}{E:XK}{e:Value}{C:Addr}{nm:Str->Option Value}{env':Env}
theorem Sf(IX:Inv X pins σ H1 s1)(hst:X.stack=X.env::X.outer)(hf:X.env.frame=aA X.env.locals)(hR:uZ X E)(hC:X.s₀.heap.objs.size<=C)(hCf:C∉cN X.stack)(hn:s1.heap.Ns C nm)(hH:H1 C=aD)(he:env'.frame=X.env.frame)
  (h:dU X.prog X.w X.stack H1 s1 E e s'):En (aS X.prog X.w) X.A env' (λe s'=>∃m,s'.heap.Ns C m/\∀h',zX C s'.heap h'->∀bw:Env,bw.locals=C->aO (aS X.prog X.w) X.A (Ph "comprehension.variables-let-go" e bw:Sem Value) (λ_ _=>False) X.xe { s' with heap:=h' }) e s':=by
 obtain⟨a,cls,H',B,a0,dx,rfl,os,bare,un,aR,fM,calm,hdx,q⟩:=h;have n0:∀b:Addr,b∉([]:List Addr):=λb z=>by cases z
 obtain⟨oC,es,ep,gC,dC,rC⟩:=id hn;have gC':=un.keep C oC gC hH hCf (n0 C);have hC':H' C=aD:=un.free C oC gC hH (n0 C);have hfr:X.A.frames=aA (X.env::X.outer):=by rw[<- hst];exact IX.ok.frames
 have nf:∀b∈cN X.stack,H' b=aD:=λb hb=>by obtain⟨_,o,ho,_⟩:=IX.stack.mem hb;exact un.free b o ho (IX.zM b hb) (n0 b)
 have ndat:∀b∈cN X.stack,∀o,s'.heap.get? b=aA o->∀vs,o.data ≠ .fields vs:=λb hb o e=>by obtain⟨_,o',ho,hd⟩:=fM.2.2.1.mem hb;rw[e]at ho;cases ho;exact hd
 have fly':=fM;rw[hst]at fly';unfold En;rw[ZV he];refine Xo hfr hf fly' hdx λh4 Hs up4 dx4=>?_;obtain⟨slC,g4⟩:=up4 C oC gC' λvs z=>by rw[dC]at z;cases z
 refine⟨nm,⟨_,es,ep,g4,dC,rC⟩,λh' sb bw _=>?_⟩;obtain⟨k1,k2,k3,oe,vs,T,oT,ts,ge,hc,de,g1,nT,ne,gT,dT,g3⟩:=Hs;have aC:a≠C:=λz=>by rw[z]at ge;have ge:h4.get? C=aA oe:=ge;rw[g4]at ge;cases ge;rw[dC]at de;cases de
 have TC:T≠C:=λz=>by rw[z]at gT;have gT:h4.get? C=aA oT:=gT;rw[g4]at gT;cases gT;rw[dC]at dT;cases dT
 have hB:∀b o,B.get? b=aA o->b≠C->(mW B [C]).get? b=aA o:=λb o z n=>Pc _ z λy=>n (List.mem_singleton.mp y);have hBn:∀b,B.get? b=aD->(mW B [C]).get? b=aD:=λb z=>by
  cases y:(mW B [C]).get? b with
  |none=>rfl|some o=>rw[Dy _ y]at z;cases z
 have fm:oB (mW B [C]) (X.env::X.outer) a cls a0 (qW X.env.locals) h':=by
  refine⟨λb o z=>?_,hBn a k2,Ui hBn (Uj (λb hb o z=>sb.extBut b o (λy=>hCf (by rw[hst,<- y];exact hb)) z) k3),oe,vs,T,oT,ts,sb.extBut a oe aC ge,hc,de,g1,hBn T nT,ne,sb.extBut T oT TC gT,dT,g3⟩;have nC:b≠C:=λy=>by rw[y,Pd _ (Dn C)]at z;cases z
  exact sb.extBut b o nC (k1 b o (Dy _ z))
 have dx':fK a dx h':=λd z=>by obtain⟨ob,e1,e2⟩:=dx4 d z;exact⟨ob,sb.extBut a ob aC e1,e2⟩
 refine u6 fm dx' λh6 m' f6 up6 dx6=>?_;have old:∀b o,s1.heap.get? b=aA o->b≠C->b∉cN X.stack->∃o',s'.heap.get? b=aA o'/\(mW B [C]).get? b=aA o':=λb o z n nfr=>by obtain⟨o',e1⟩:=un.there b o z (n0 b);exact⟨o',e1,hB b o' (calm b o' e1 nfr (.inl ⟨o,z⟩)) n⟩
 have zP:∀b,H' b≠aD->∃o',s'.heap.get? b=aA o'/\(mW B [C]).get? b=aA o':=λb w=>by
  cases hh:H' b with
  |none=>exact absurd hh w|some y=>obtain⟨u2,e2⟩:=(aR b y hh).get;exact⟨u2,e2,hB b u2 (calm b u2 e2 (λz=>w (nf b z)) (.inr w)) λz=>w (by rw[z];exact hC')⟩
 have frm:∀b∈cN X.stack,∀o,s'.heap.get? b=aA o->∃sl,h6.get? b=aA { o with slots:=sl }:=λb hb o z=>by have bC:b≠C:=λy=>hCf (y▸hb);obtain⟨sl,e1⟩:=up4 b o z (ndat b hb o z);obtain⟨sl2,e2⟩:=up6 b _ (sb.extBut b _ bC e1) (ndat b hb o z);exact⟨sl2,e2⟩
 refine hR pins σ H1 s1 [C] (.ref a) _ IX (λb hb=>by rw[List.mem_singleton.mp hb];exact⟨hC,hCf⟩) ⟨a,cls,H',_,a0,m',dx,rfl,os,bare,⟨λb o z n hb hc=>?_,λb o z n hb hc=>?_,λb o z n hc=>un.free b o z n (n0 b),λb o z hc=>?_,un.lT,un.kO,un.lR⟩,?_,by rw[hst];exact f6,λb o z nfr nc w=>?_,λb hb=>by rw[List.mem_singleton.mp hb];exact hC',dx6,q⟩
 .have bC:b≠C:=λy=>hc (by rw[y];exact Dn C);have e1:=un.keep b o z n hb (n0 b);exact f6.1 b o (hB b o (calm b o e1 hb (.inl ⟨o,z⟩)) bC)
 .obtain⟨sl,e1⟩:=un.slot b o z n hb (n0 b);obtain⟨sl2,e2⟩:=frm b hb _ e1;exact⟨sl2,e2⟩
 .have bC:b≠C:=λy=>hc (by rw[y];exact Dn C);by_cases hb:b∈cN X.stack
  .obtain⟨o',e1⟩:=un.there b o z (n0 b);obtain⟨sl,e2⟩:=frm b hb o' e1;exact⟨_,e2⟩
  .obtain⟨o',_,e2⟩:=old b o z bC hb;exact⟨o',f6.1 b o' e2⟩
 .intro b o z;refine(aR b o z).mP (λc u hb q=>?_) (λ_ q=>q) λ_ _ q=>q;have ht:H' c≠aD:=by
   rcases hb with rfl|hb
   .rw[z];intro y;cases y
   .rw[hb];intro y;cases y
  obtain⟨o',e1,e2⟩:=zP c ht;rw[q]at e1;cases e1;exact f6.1 c u e2
 .have bC:b≠C:=λy=>nc (by rw[y];exact Dn C);have:∃o',s'.heap.get? b=aA o'/\(mW B [C]).get? b=aA o':=by
   rcases w with⟨u,w⟩|w
   .exact old b u w bC nfr
   .exact zP b w
  obtain⟨o',_,e2⟩:=this;have q2:=f6.1 b o' e2;have z:h6.get? b=aA o:=z;rw[z]at q2;cases q2;exact e2
end
def pQ(cells:List (Str×Addr))(x:Str×sL)(cs:List (Str×Addr)):List (Str×Addr):=if(x.2==hZ)=aB then(match cells.lookup x.1 with
 |some c=>(x.1,c)::cs
 |none=>cs) else cs
def rB(scope:eU)(env:Env):List (Str×Addr):=scope.names.foldl (λcs x=>pQ env.cells x cs) []
theorem Uh{α β:Type}{st:α->β->β}:∀{l:List α}{f:α->β->Sem (ForInStep β)} (c:β),(∀x∈l,∀c,f x c=pure (.yield (st x c)))->forIn l c f=pure (l.foldl (λc x=>st x c) c)
 |[],f,c,h=>rfl|x::l,f,c,h=>by rw[su,h x fU,pure_bind];exact Uh (st x c) λy hy=>h y (hV _ hy)
theorem PM{scope:eU}{env:Env}(h:∀x∈scope.names,x.2 = .free->∃c,env.cells.lookup x.1=aA c):Po scope env=pure (rB scope env):=by
 simp only[Po];rw[Uh (st:=pQ env.cells) [] (λx hx c=>by
  obtain⟨n,kind⟩:=x;by_cases hk:kind = .free
  .obtain⟨a,ha⟩:=h _ hx hk;subst hk;simp[pQ,cellOf,ha]
  .have:(kind==hZ)=aF:=by simpa using hk
   simp[pQ,this])]
 rfl
theorem Rv{cells:List (Str×Addr)}:∀(l:List (Str×sL)) (cs:List (Str×Addr)),(∀x c,cs.lookup x=aA c->cells.lookup x=aA c)->∀x c,(l.foldl (λcs x=>pQ cells x cs) cs).lookup x=aA c->cells.lookup x=aA c
 |[],cs,h=>h
 |y::l,cs,h=>Rv l _ (by
  intro x c e;change (pQ cells y cs).lookup x=aA c at e;unfold pQ at e;split at e
  .split at e
   .rename_i c' hc';rw[gR]at e;split at e
    .rename_i q;have:=eq_of_beq q;subst this;rw[hc'];exact e
    .exact h x c e
   .exact h x c e
  .exact h x c e)
theorem Ru{cells:List (Str×Addr)}:∀(l:List (Str×sL)) (cs:List (Str×Addr)) (x:Str),((∃c,cs.lookup x=aA c)\/((x,hZ)∈l/\∃c,cells.lookup x=aA c))->∃c,(l.foldl (λcs x=>pQ cells x cs) cs).lookup x=aA c
 |[],cs,x,h=>by
  rcases h with h|⟨h,_⟩
  .exact h
  .cases h
 |y::l,cs,x,h=>by
  refine Ru l _ x ?_;rcases h with⟨c,e⟩|⟨hm,c,e⟩
  .left;change ∃c,(pQ cells y cs).lookup x=aA c;unfold pQ;split
   .split
    .rename_i c' _;rw[gR];split
     .exact⟨c',rfl⟩
     .exact⟨c,e⟩
    .exact⟨c,e⟩
   .exact⟨c,e⟩
  .rcases List.mem_cons.mp hm with q|q
   .left;subst q;simp[pQ,e]
   .exact .inr ⟨q,c,e⟩
theorem Xq{env:Env}(hk:env.scope.kind = .function):∀{names:List (Str×sL)}{x:Str},names.lookup x=aA .free->env.kindOf x=aA .cell ->
  (names.map λ(n,k)=>if(k==hZ&&env.scope.kind == .function&&env.kindOf n==aA .cell) then(n,ag) else(n,k)).lookup x=aA .cell
 |[],_,h,_=>by simp at h
 | (n,k)::r,x,h,hc=>by
  have ih:=@Xq env hk r x;show Ob x ((if(k==hZ&&env.scope.kind == .function&&env.kindOf n==aA .cell)=aB then(n,ag) else(n,k))::_)=_;cases hx:x==n with
  |true=>simp only[gR,hx]at h;cases h;have:=eq_of_beq hx;subst this;simp[gR,hk,hc]
  |false=>
   simp only[gR,hx]at h;by_cases hq:(k==hZ&&env.scope.kind == .function&&env.kindOf n==aA .cell)=aB
   .rw[if_pos hq];simp only[gR,hx];exact ih h hc
   .rw[if_neg hq];simp only[gR,hx];exact ih h hc
theorem Ja{env:Env}:∀{names:List (Str×sL)}{x:Str}{k:sL},(∀y∈names,y.2 ≠ .cell) ->
  (names.map λ(n,k)=>if(k==hZ&&env.scope.kind == .function&&env.kindOf n==aA .cell) then(n,ag) else(n,k)).lookup x=aA k->k = .cell\/k = .free->(x,hZ)∈names
 |[],_,_,_,h,_=>by simp at h
 | (n,k)::r,x,k',hn,h,hk=>by
  have ih:=@Ja env r x k' λy hy=>hn y (hV _ hy);have h':Ob x ((if(k==hZ&&env.scope.kind == .function&&env.kindOf n==aA .cell)=aB then(n,ag) else(n,k))::(r.map λ(n,k)=>if(k==hZ&&env.scope.kind == .function&&env.kindOf n==aA .cell) then(n,ag) else(n,k)))=aA k':=h;cases hx:x==n with
  |true=>
   have e:=eq_of_beq hx;subst e;by_cases hq:(k==hZ&&env.scope.kind == .function&&env.kindOf x==aA .cell)=aB
   .have:k = .free:=by simp only[aY]at hq;exact eq_of_beq hq.1.1
    subst this;exact fU
   .rw[if_neg hq]at h';simp only[gR,hx]at h';cases h';rcases hk with hk|hk
    .exact absurd hk (hn _ fU)
    .have hk:k = .free:=hk;subst hk;exact fU
  |false=>
   have h2:(r.map λ(n,k)=>if(k==hZ&&env.scope.kind == .function&&env.kindOf n==aA .cell) then(n,ag) else(n,k)).lookup x=aA k':=by
    by_cases hq:(k==hZ&&env.scope.kind == .function&&env.kindOf n==aA .cell)=aB
    .rw[if_pos hq]at h';simpa only[gR,hx]using h'
    .rw[if_neg hq]at h';simpa only[gR,hx]using h'
   exact hV _ (ih h2 hk)
def Cx.comp(X:Cx)(N':List Str)(scope:eU)(s3:aG)(H3:Hp)(C:Addr)(fp:List Addr):Cx:=
 { X with N:=N',s₀:=s3,H₀:=H3,env:=uj scope (rB scope X.env) C X.env,outer:=X.stack,ex:=fp,fn:=λ_=>aF,pn:=[],xe:=λ_ _=>False }
noncomputable abbrev Cx.lL(X:Cx)(N':List Str)(scope:eU)(s3:aG)(H3:Hp)(C:Addr)(fp:List Addr)(xe:Value->aG->Prop):Cx:={ X.comp N' scope s3 H3 C fp with xe:=xe }
def Fg(X:Cx)(N':List Str)(scope:eU)(EX:XK)(elt:aJ)(te:TE):Prop:=∀s H C fp xe,(∀pins σ H1 s1 e s',Inv (X.lL N' scope s H C fp xe) pins σ H1 s1->dU X.prog X.w X.stack H1 s1 EX e s'->xe e s')->PE (X.lL N' scope s H C fp xe) elt te
structure oA(X:Cx)(N':List Str)(scope:eU):Prop where
 kind:scope.kind = .function
 Jj:∀y∈scope.names,y.2 ≠ .cell
 Xn:∀y∈scope.names,y.2 = .local->scope.names.lookup y.1=aA .local
 free:∀y∈scope.names,y.2 = .free->X.env.scope.names.lookup y.1=aA .cell
section
variable {X:Cx}{N':List Str}{scope:eU}{pins:List (Addr×Obj)}{σ σ':St}{H:Hp}{s:aG}{fp:List Addr}{C:Addr}
theorem oA.Sb(hs:oA X N' scope)(ok:X.Ok):Po scope X.env=pure (rB scope X.env):=
 PM λx hx hk=>ok.has x.1 (.inl (hs.free x hx hk))
theorem bx{x:Str}{c:Addr}(h:(rB scope X.env).lookup x=aA c):X.env.cells.lookup x=aA c:=Rv _ [] (λx c e=>by simp at e) x c h
theorem oA.has(hs:oA X N' scope)(ok:X.Ok){x:Str}(h:(x,hZ)∈scope.names):∃c,(rB scope X.env).lookup x=aA c:=
 Ru _ [] x (.inr ⟨h,ok.has x (.inl (hs.free _ h rfl))⟩)
theorem Inv.rD(I:Inv X pins σ H s)(hs:oA X N' scope)(hf:∀b∈fp,jK X pins H b/\b≠C)(hC:s.heap.objs.size<=C):(X.comp N' scope s H C fp).Ok where
 mod:=I.ok.mod
 kind:=hs.kind
 glob:=I.ok.glob
 blt:=I.ok.blt
 above:=hC
 inj:=λx y c e1 e2=>I.ok.inj x y c (bx e1) (bx e2)
 has:=λx hx=>by
  rcases hx with hx|hx
  .exact hs.has I.ok (Ja hs.Jj hx (.inl rfl))
  .exact hs.has I.ok (Ja hs.Jj hx (.inr rfl))
 pP:=λx c h=>by cases h
 hd:=I.ok.hd
 frames:=I.ok.frames
 gQ:=.inl rfl
 pT:=λb hb=>⟨(hf b hb).2,λx c e=>(hf b hb).1.2.2.2.2.1 x c (bx e)⟩
 bs:=λb o e=>I.bs b o e
 lJ:=eN I.ok.lJ I.sz
 pW:=λb o e hb=>by
  rcases(hf b hb).1.2.2.2.1 with z|z
  .exact I.ok.pW b o e z
  .exact absurd (cP (cP (cU e) I.ok.lJ) z) (pI _)
 oR:=λb hb hz=>by
  rcases List.mem_cons.mp (I.fk b hz)with e|e
  .exact(hf b hb).1.2.1 e
  .exact(hf b hb).1.2.2.1 e
 jL:=I.stack
 nE:=I.zM
theorem Inv.EC{s2:aG}{H2:Hp}{xe:Value->aG->Prop}(I:Inv (X.comp N' scope s2 H2 C fp) pins σ H s):Inv (X.lL N' scope s2 H2 C fp xe) pins σ H s:=
 ⟨⟨I.ok.mod,I.ok.kind,I.ok.glob,I.ok.blt,I.ok.above,I.ok.inj,I.ok.has,I.ok.pP,I.ok.hd,I.ok.frames,I.ok.gQ,I.ok.pT,I.ok.bs,I.ok.lJ,I.ok.pW,I.ok.oR,I.ok.jL,I.ok.nE⟩,I.os,I.bare,I.base,I.loc,I.cell,I.free,I.iW,I.pin,I.aR,I.len⟩
theorem Inv.Jn{s2:aG}{H2:Hp}{xe:Value->aG->Prop}(I:Inv (X.lL N' scope s2 H2 C fp xe) pins σ H s):Inv (X.comp N' scope s2 H2 C fp) pins σ H s:=
 ⟨⟨I.ok.mod,I.ok.kind,I.ok.glob,I.ok.blt,I.ok.above,I.ok.inj,I.ok.has,I.ok.pP,I.ok.hd,I.ok.frames,I.ok.gQ,I.ok.pT,I.ok.bs,I.ok.lJ,I.ok.pW,I.ok.oR,I.ok.jL,I.ok.nE⟩,I.os,I.bare,I.base,I.loc,I.cell,I.free,I.iW,I.pin,I.aR,I.len⟩
theorem Inv.comp{h4:aQ}{t:Nat}{m0:Str->Option Value}(I:Inv X pins σ H s)(hs:oA X N' scope)(hf:∀b∈fp,jK X pins H b/\b≠C)(hC:s.heap.objs.size<=C)
  (k:∀b o,s.heap.get? b=aA o->h4.get? b=aA o) (hn:h4.Ns C m0) (hl:σ'.length=N'.length)
  (hσ:∀(i:Nat) x v,N'[i]?=aA x->σ'[i]?=aA (aA v)->scope.names.lookup x=aA .free/\(x,hZ)∈scope.names/\∃j:Nat,X.N[j]?=aA x/\σ[j]?=aA (aA v)) :
  Inv (X.comp N' scope s H C fp) [] σ' H { s with heap:=h4,toks:=t } where
 ok:=I.rD hs hf hC
 os:=rfl
 bare:=I.bare
 base:=Un.kept k
 loc:=⟨m0,hn,λi x v e1 e2 _=>by
  obtain⟨hx,hm,j,e3,e4⟩:=hσ i x v e1 e2;obtain⟨m,_,hl⟩:=I.loc;have hk:=hs.free _ hm rfl;obtain⟨u,r,lk⟩:=hl j x v e3 e4 (.inr (.inl hk));refine⟨u,r,.inr ⟨.inl (Xq I.ok.kind hx hk),?_⟩⟩;rcases lk with⟨z,_⟩|⟨_,c,ec,hc⟩
  .rw[show X.env.kindOf x=aA .cell from hk]at z;cases z
  .obtain⟨c',e'⟩:=hs.has I.ok hm;have:=bx e';rw[ec]at this;cases this;obtain⟨o,ho,hd⟩:=hc;exact⟨c,e',o,k _ _ ho,hd⟩⟩
 cell:=λx c e=>by obtain⟨v,o,ho,hd⟩:=I.cell x c (bx e);exact⟨v,o,k _ _ ho,hd⟩
 free:=I.aR.fresh hC
 iW:=λx c e=>I.iW x c (bx e)
 pin:=λp hp=>by cases hp
 aR:=I.aR.kept k
 len:=hl
end
noncomputable abbrev mJ(us:List Value)(k:Nat):Obj:={ cls:=.type "list",data:=.seq us.toArray k }
theorem EB{α:Type}{M:jH}{A:bS}{t:Sem α}{Q:α->aG->Prop}{E:Value->aG->Prop}{s:aG}(h:aO M A t Q (λ_ _=>False) s):aO M A t Q E s:=kH h (λ_ _ q=>q) λ_ _ z=>z.elim
section
variable {X:Cx}{N':List Str}{scope:eU}{pins:List (Addr×Obj)}{σ σ':St}{H H2:Hp}{s s2:aG}{fp:List Addr}{it:Addr}{tn:Nat->aQ->Prop}{J:It}{elt tg cO:aJ}{pos:Pos}
theorem Inv.aEj{D:Addr}{ys:List V}{us:List Value}{k:Nat}(I:Inv X pins σ H s)(hD:jK X pins H D)(ho:s.heap.get? D=aA (mJ us k))(r:Vals ys us)(hz:ys.length<=sizeLine):Inv X pins σ (aZ H D (.lst ys)) s:=by
 have hn:=hD.1;show Inv X pins σ (aZ H D (.lst ys)) { s with heap:=s.heap,gens:=s.gens,drawn:=s.drawn,toks:=s.toks };refine I.step (ch:=[D]) (λb hb=>?_) (λb o _ _ _ e _=>e) (λb o _ _ _ e _=>⟨o.slots,e⟩) (λb o hc e n=>?_) (λb o _ e=>⟨o,e⟩) (λb xs e=>by rw[bW (gW e hn)];exact e) (λb o u e=>by rw[bW (gW e hn)];exact e) (λb ps e=>⟨#[],by rw[bW (gW e hn),e];simp⟩) (λm hm=>hm) (λb u e=>?_) I.bare
 .have e:b=D:=by simpa using hb
  subst e;exact⟨hD.2.2.2.1,hD.2.1,hD.2.2.2.2.1,hD.2.2.2.2.2⟩
 .rw[bW (λz=>hc (by simp[z]))];exact n
 .by_cases hb:b=D
  .subst hb;rw[gY]at e;cases e;exact⟨hz,us,k,r,ho⟩
  .rw[bW hb]at e;exact(I.aR b u e).mP (λc v hc q=>q) (λc q=>by rw[bW (gW q hn)];exact q) λc xs q=>by rw[bW (gW q hn)];exact q
theorem Se{ct:Option aJ}{g:TG}{tc:TT}{te:TE}{R:List V->Hp->Prop}{W:Nat->Nat->List V->St->Hp->Prop}{m0:Nat}{RR:Value->Addr->Result->aG->Prop}{E:Value->aG->Prop}{EX:XK}
  (hsc:oA X N' scope) (rH:X.calm=aB) (I2:Inv X pins σ H2 s2) (T:Turn X.prog X.w X.K tg J fp it tn) (st2:tn 0 s2.heap) (f2:∀b∈fp,jK X pins H2 b)
  (hg:∀s H C fp,PG (X.comp N' scope s H C fp) tg g) (hct:∀c,ct=aA c->∀s H C fp,PT (X.comp N' scope s H C fp) c tc) (hct0:ct=aD->∀σ H Q,tc σ H Q->Q aB H) (he:Fg X N' scope EX elt te)
  (hl:σ'.length=N'.length) (hσ:∀(i:Nat) x v,N'[i]?=aA x->σ'[i]?=aA (aA v)->scope.names.lookup x=aA .free/\(x,hZ)∈scope.names/\∃j:Nat,X.N[j]?=aA x/\σ[j]?=aA (aA v))
  (w0:W 0 m0 [] σ' H2)
  (turn:∀i m ys σ H,W i m ys σ H->(J.stop i H/\R ys H)\/(J.go i H/\∀x H',J.rg i H x H'->g x σ H' λσ2 H2=>tc σ2 H2 λb H3=>if b=aB then te σ2 H3 λy H4=>ys.length<sizeLine/\∃m',m'<m/\W (i+1) m' (ys++[y]) σ2 H4 else∃m',m'<m/\W (i+1) m' ys σ2 H3))
  (hXe:∀D C nm H1 s1 e s',Inv X pins σ H1 s1->X.s₀.heap.objs.size<=C->C∉cN X.stack->s1.heap.Ns C nm->H1 C=aD->dU X.prog X.w X.stack H1 s1 EX e s'->En (aS X.prog X.w) X.A (uj scope (rB scope X.env) C X.env) (λe s'=>RR (.ref D) C (.error e) s') e s')
  (hRR:∀D C s' H' m ys,Inv X pins σ (aZ H' D (.lst ys)) s'->H' D=aD->s'.heap.Ns C m->jK X pins (aZ H' D (.lst ys)) C->R ys H'->RR (.ref D) C (.ok .next) s') :
  aO (aS X.prog X.w) X.A (newList []) (λacc s₃=>aO (aS X.prog X.w) X.A (newFunctionEnv scope X.env.globals (rB scope X.env) [] X.env.qual aD .none (aA X.env)) (λbw s₄=>sN (aS X.prog X.w) X.A (.compStart (.ListComp elt [⟨tg,cO,ct.toList,0⟩] scope pos) 0 (.ref it) acc { bw with scope:=relabel scope X.env }) (RR acc bw.locals) s₄) E s₃) E s2:=by
 refine bf (wpAny_newFunctionEnv hsc.Jj (by intro y hy;simp at hy) (λh₁ hns₁ hsb₁=>?_) hsc.kind);dsimp only at hns₁ hsb₁ ⊢;generalize hH2:s2.heap.push { cls:=.type "list",dict:=aD,data:=.seq ([]:List Value).toArray }=hp2 at hns₁ hsb₁ ⊢;have hC:hp2.objs.size=s2.heap.objs.size+1:=by rw[<- hH2,rn]
 have hDC:s2.heap.objs.size≠hp2.objs.size:=by rw[hC];exact bU (cQ _)
 have hCle:s2.heap.objs.size<=hp2.objs.size:=by rw[hC];exact xD _
 have below:∀b,b<s2.heap.objs.size->b≠hp2.objs.size/\b≠s2.heap.objs.size:=λb hb=>⟨by rw[hC];exact bU (lV hb),bU hb⟩;have old:∀b o,s2.heap.get? b=aA o->h₁.get? b=aA o:=λb o e=>hsb₁.extBut b o (below b (cU e)).1 (dH _ (hH2▸dH _ e));have UQ:h₁.get? s2.heap.objs.size=aA (mJ [] 0):=hsb₁.extBut _ _ hDC (dH _ (hH2▸iM _ rfl));have fD:jK X pins H2 s2.heap.objs.size:=I2.tG (cB _) (I2.aR.fresh (cB _));have lfp:∀b∈fp,b<s2.heap.objs.size:=λb hb=>by obtain⟨o,e,_⟩:=T.obj 0 _ st2 b hb;exact cU e
 have hf':∀b∈s2.heap.objs.size::fp,jK X pins H2 b/\b≠hp2.objs.size:=λb hb=>by
  rcases List.mem_cons.mp hb with rfl|hb
  .exact⟨fD,hDC⟩
  .exact⟨f2 b hb,(below b (lfp b hb)).1⟩
 have IY:=I2.comp (t:=s2.toks+([]:List (Str×Value)).length) hsc hf' hCle old hns₁ hl hσ;generalize hDd:s2.heap.objs.size=D at *;generalize hCd:hp2.objs.size=C at *;have fnD:∀b∈fp,b≠D:=λb hb=>(below b (lfp b hb)).2;have ok:=IY.ok;have hg':=hg s2 H2 C (D::fp);have hct':=λc e=>hct c e s2 H2 C (D::fp);have he':=he s2 H2 C (D::fp) (λe s'=>∃pl σ1 H1 s1,Inv (X.comp N' scope s2 H2 C (D::fp)) pl σ1 H1 s1/\dU X.prog X.w X.stack H1 s1 EX e s') λpl σ1 H1 s1 e s' I1 h=>⟨pl,σ1,H1,s1,I1.Jn,h⟩;have hXe':∀e s',(∃pl σ1 H1 s1,Inv (X.comp N' scope s2 H2 C (D::fp)) pl σ1 H1 s1/\dU X.prog X.w X.stack H1 s1 EX e s')->En (aS X.prog X.w) X.A (uj scope (rB scope X.env) C X.env) (λe s'=>RR (.ref D) C (.error e) s') e s':=by
  rintro e s' ⟨pl,σ1,H1,s1,I1,hcx⟩
  obtain⟨nm,hnm,_⟩:=id I1.loc;refine hXe D C nm H1 s1 e s' (I2.Gn (ch:=D::fp) I1.os I1.base I1.aR I1.bare λb hb=>⟨(hf' b hb).1.2.2.2.1,(hf' b hb).1.2.1,(hf' b hb).1.2.2.2.2.1,(hf' b hb).1.2.2.2.2.2⟩) (eN I2.sz (by rw[hDd];exact hCle)) (λz=>?_) hnm I1.free hcx;rcases List.mem_cons.mp (I2.fk C z)with y|y
  .exact absurd (cP I2.lt (by rw[hDd,<- y];exact hCle)) (pI _)
  .exact I2.Yf (by rw[hDd];exact hCle) y
 have fY:∀{pl:List (Addr×Obj)} {H':Hp}{b:Addr},b∈D::fp->H' b=aD->(∀p∈pl,p.1≠b)->jK (X.comp N' scope s2 H2 C (D::fp)) pl H' b:=λ{pl H' b} hb hn hp=>
  ⟨hn,(ok.pT b hb).1,ok.oR b hb,.inl hb,(ok.pT b hb).2,λp h=>hp p (by simpa[Cx.comp]using h)⟩
 let Iv:Nat->aG->Prop:=λn s'=>∃(i:Nat) (ys:List V) (us:List Value) (k:Nat) (σ':St) (H':Hp),Inv (X.comp N' scope s2 H2 C (D::fp)) [] σ' H' s'/\tn i s'.heap/\(∀b∈D::fp,H' b=aD)/\s'.heap.get? D=aA (mJ us k)/\Vals ys us/\ys.length<=sizeLine/\W i n ys σ' H'
 have turnA:∀(n:Nat) (s':aG),Iv n s'->∀(K:aG->Prop) (E':Value->aG->Prop),
   (∀(i:Nat) (ys:List V) (us:List Value) (k:Nat) (pl:List (Addr×Obj)) (σ6:St) (H6:Hp) (s6:aG),Inv (X.comp N' scope s2 H2 C (D::fp)) ([(D,mJ us k)]++pl) σ6 H6 s6 ->
    (∀h7:aQ,(∀p∈pl,h7.get? p.1=aA p.2)->tn (i+1) h7)->(∀b∈fp,∃o,(b,o)∈pl)->(∀p∈pl,p.1∈fp)->Vals ys us->ys.length<=sizeLine ->
    (tc σ6 H6 λb H3=>if b=aB then te σ6 H3 λy H4=>ys.length<sizeLine/\∃m',m'<n/\W (i+1) m' (ys++[y]) σ6 H4 else∃m',m'<n/\W (i+1) m' ys σ6 H3)->K s6) ->
   aO (aS X.prog X.w) X.A (xK (.ref it)) (λr s1=>match r with
    |none=>RR (.ref D) C (.ok .next) s1
    |some v=>aO (aS X.prog X.w) X.A (Em tg (.ref it) v) (λ_ s0=>aO (aS X.prog X.w) X.A (uS tg (uj scope (rB scope X.env) C X.env) v) (λ_ s2=>K s2) E' s0) E' s1) E' s':=by
  rintro n s' ⟨i,ys,us,k,σ3,H3,I3,st3,fr3,hD3,rv3,hz3,w3⟩ K E' hK
  have I3':Inv (X.comp N' scope s2 H2 C (D::fp)) [(D,mJ us k)] σ3 H3 s':=I3.ef λp hp=>by
   have e:p=(D,mJ us k):=by simpa using hp
   subst e;exact⟨hD3,fr3 D fU,(ok.pT D fU).1,ok.oR D fU,λv z=>by cases z⟩
  have fp3:∀{H':Hp},(∀b∈fp,H' b=aD)->∀b∈fp,jK (X.comp N' scope s2 H2 C (D::fp)) [(D,mJ us k)] H' b:=λhn b hb=>fY (hV _ hb) (hn b hb) λp hp=>by
   have e:p=(D,mJ us k):=by simpa using hp
   subst e;exact kE (fnD b hb)
  have fr3':∀b∈fp,H3 b=aD:=λb hb=>fr3 b (hV _ hb);rcases turn i n ys σ3 H3 w3 with⟨stop,hR⟩|⟨go,step⟩
  .refine bM (T.done (X.comp N' scope s2 H2 C (D::fp)) rfl rfl rfl rH i _ s' σ3 H3 E' I3' (fp3 fr3') st3 stop) λr s4 ⟨hr,I4⟩=>?_;subst hr;obtain⟨gD,nD,_⟩:=I4.pin (D,mJ us k) (hU _ fU);obtain⟨m,hn,_⟩:=id I4.loc;have IX:Inv X pins σ H3 s4:=I2.Gn (ch:=D::fp) I4.os I4.base I4.aR I4.bare λb hb=>⟨(hf' b hb).1.2.2.2.1,(hf' b hb).1.2.1,(hf' b hb).1.2.2.2.2.1,(hf' b hb).1.2.2.2.2.2⟩;refine hRR D C s4 H3 m ys (IX.aEj ⟨nD,fD.2⟩ gD rv3 hz3) nD hn ⟨by rw[bW (kE hDC)];exact I4.free,?_⟩ hR;have fC:jK X pins H3 C:=I2.tG (by rw[hDd];exact hCle) I4.free;exact fC.2
  .refine bM (T.item (X.comp N' scope s2 H2 C (D::fp)) rfl rfl rfl rH i _ s' σ3 H3 E' I3' (fp3 fr3') st3 go) λr s4 ⟨u,hr,h4⟩=>?_;subst hr;refine bM h4 λ_ s5 ⟨x,H5,I5,r5,y5,st5,fr5⟩=>?_;have I5':=I5.pinned (fp3 fr5) (T.obj _ _ st5);refine EB (bM (hg' _ s5 σ3 H5 x u _ I5' r5 (step x H5 y5)) λ_ s6 ⟨σ6,H6,I6,q6⟩=>?_);refine hK i ys us k _ σ6 H6 s6 I6 (λh7 h=>T.keep _ _ _ st5 λb hb o e=>h (b,o) (yi hb e)) (λb hb=>?_) (λp hp=>(Yj hp).1) rv3 hz3 q6;obtain⟨o,e,_⟩:=T.obj _ _ st5 b hb;exact⟨o,yi hb e⟩
 have back:∀{n i:Nat}{ys:List V}{us:List Value}{k:Nat}{pl:List (Addr×Obj)}{σ6:St}{H6:Hp}{s6:aG},Inv (X.comp N' scope s2 H2 C (D::fp)) ([(D,mJ us k)]++pl) σ6 H6 s6 ->
   (∀h7:aQ,(∀p∈pl,h7.get? p.1=aA p.2)->tn (i+1) h7)->(∀b∈fp,∃o,(b,o)∈pl)->Vals ys us->ys.length<=sizeLine->(∃m',m'<n/\W (i+1) m' ys σ6 H6)->∃m',m'<n/\Iv m' s6:=by
  intro n i ys us k pl σ6 H6 s6 I6 ht oS rv hz ⟨m',hm,w⟩;obtain⟨gD,nD,_⟩:=I6.pin (D,mJ us k) (hU _ (gx _ fU));refine⟨m',hm,i+1,ys,us,k,σ6,H6,I6.ef λp hp=>(by cases hp),ht _ λp hp=>(I6.pin p (hU _ (hU _ hp))).1,λb hb=>?_,gD,rv,hz,w⟩;rcases List.mem_cons.mp hb with rfl|hb
  .exact nD
  .obtain⟨o,ho⟩:=oS b hb;exact(I6.pin _ (hU _ (hU _ ho))).2.1
 have app:∀{n i:Nat}{ys:List V}{us:List Value}{k:Nat}{pl:List (Addr×Obj)}{σ6:St}{H7:Hp}{s7:aG}{y:V}{v:Value} {E':Value->aG->Prop},Inv (X.comp N' scope s2 H2 C (D::fp)) ([(D,mJ us k)]++pl) σ6 H7 s7 ->
   (∀h7:aQ,(∀p∈pl,h7.get? p.1=aA p.2)->tn (i+1) h7)->(∀b∈fp,∃o,(b,o)∈pl)->(∀p∈pl,p.1∈fp)->Vals ys us->RelV y v->ys.length<sizeLine->(∃m',m'<n/\W (i+1) m' (ys++[y]) σ6 H7) ->
   aO (aS X.prog X.w) X.A (call (.builtin "list.append") [.ref D,v]) (λ_ s8=>∃m',m'<n/\Iv m' s8) E' s7:=by
  intro n i ys us k pl σ6 H7 s7 y v E' I7 ht oS hpl rv ry hz ⟨m',hm,w⟩;obtain⟨gD,nD,_⟩:=I7.pin (D,mJ us k) (hU _ (gx _ fU));have hus:us.length<sizeLine:=by rw[<- rv.length];exact hz
  refine append_at (hsz:=by rw[eM];exact Ds hus) gD λh8 hs8 g8=>?_;have nb:∀b∈D::fp,H7 b=aD:=λb hb=>by
   rcases List.mem_cons.mp hb with rfl|hb
   .exact nD
   .obtain⟨o,ho⟩:=oS b hb;exact(I7.pin _ (hU _ (hU _ ho))).2.1
  have f8:=fY (pl:=[]) (H':=H7) (b:=D) fU nD (λp hp=>by cases hp);refine⟨m',hm,i+1,ys++[y],us++[v],k+1,σ6,H7,(I7.ef (pins':=[]) λp hp=>(by cases hp)).turned (t':=s7.toks) (it:=D) (λb o hb e=>hs8.extBut b o hb e) nD f8.2.1 f8.2.2.2.1 f8.2.2.2.2.1 f8.2.2.2.2.2,
   ht _ λp hp=>?_,nb,?_,rv.append (.cons ry .nil),?_,w⟩
  .exact hs8.extBut _ _ (fnD _ (hpl p hp)) (I7.pin p (hU _ (hU _ hp))).1
  .show h8.get? D=_;rw[g8];simp[mJ]
  .rw[fP];exact hz
 have i0:Iv m0 { s2 with heap:=h₁,toks:=s2.toks+([]:List (Str×Value)).length }:=⟨0,[],[],0,σ',H2,IY,T.keep _ _ _ st2 λb _ o e=>old b o e,λb hb=>(hf' b hb).1.1,UQ,.nil,kD _,w0⟩;have loop:sN (aS X.prog X.w) X.A (.compLoop (.ListComp elt [⟨tg,cO,ct.toList,0⟩] scope pos) 0 (.ref it) (.ref D) (uj scope (rB scope X.env) C X.env)) (RR (.ref D) C) { s2 with heap:=h₁,toks:=s2.toks+([]:List (Str×Value)).length }:=by
  cases ct with
  |none=>refine PySem.W.kcp_loop Iv (λn s' hI=>turnA n s' hI _ _ ?_) m0 i0;intro i ys us k pl σ6 H6 s6 I6 ht oS hpl rv hz q6;have q7:=hct0 rfl σ6 H6 _ q6;rw[if_pos rfl]at q7;refine kH (he' _ s6 σ6 H6 _ I6.EC q7) (λv s7 ⟨y,H7,I7,r7,hz7,w7⟩=>?_) hXe';exact app I7.Jn ht oS hpl rv r7 hz7 w7
  |some c=>
   refine PySem.W.kct_loop Iv (λn s' hI=>turnA n s' hI _ _ ?_) m0 i0;intro i ys us k pl σ6 H6 s6 I6 ht oS hpl rv hz q6;refine EB (bM (hct' c rfl _ s6 σ6 H6 _ I6 q6) λb s7 ⟨H7,I7,q7⟩=>?_);cases b with
   |true=>rw[if_pos rfl]at q7 ⊢;refine kH (he' _ s7 σ6 H7 _ I7.EC q7) (λv s8 ⟨y,H8,I8,r8,hz8,w8⟩=>?_) hXe';exact app I8.Jn ht oS hpl rv r8 hz8 w8
   |false=>rw[if_neg dG]at q7 ⊢;exact back I7 ht oS rv hz q7
 exact codeAny_compStart_list loop (T.self _ 0 _ _ _ (T.keep _ _ _ st2 λb _ o e=>old b o e) loop)
def Lj(wi:TI)(imp:St->St)(g:TG)(tc:TT)(te:TE):TE:=λσ H Q=>wi σ H λJ H1=>∃(W:Nat->Nat->List V->St->Hp->Prop) (m0:Nat),W 0 m0 [] (imp σ) H1/\∀i m ys σ' H',W i m ys σ' H' ->
 (J.stop i H'/\∀D,H' D=aD->Q (.ref D) (aZ H' D (.lst ys)))\/(J.go i H'/\∀x H2,J.rg i H' x H2->g x σ' H2 λσ3 H3=>tc σ3 H3 λb H4=>if b=aB then te σ3 H4 λy H5=>ys.length<sizeLine/\∃m',m'<m/\W (i+1) m' (ys++[y]) σ3 H5 else∃m',m'<m/\W (i+1) m' ys σ3 H4)
variable {ct:Option aJ}{wi:TI}{imp:St->St}{g:TG}{tc:TT}{te:TE}{EX:XK}
theorem x6(hsc:oA X N' scope)(rH:X.calm=aB)(hi:PI X tg cO wi)
  (hg:∀s H C fp,PG (X.comp N' scope s H C fp) tg g) (hct:∀c,ct=aA c->∀s H C fp,PT (X.comp N' scope s H C fp) c tc) (hct0:ct=aD->∀σ H Q,tc σ H Q->Q aB H) (hst:X.stack=X.env::X.outer) (hfm:X.env.frame=aA X.env.locals) (hR:uZ X EX) (he:Fg X N' scope EX elt te)
  (himp:∀σ:St,(imp σ).length=N'.length)
  (hσ:∀(σ:St) (i:Nat) x v,N'[i]?=aA x->(imp σ)[i]?=aA (aA v)->scope.names.lookup x=aA .free/\(x,hZ)∈scope.names/\∃j:Nat,X.N[j]?=aA x/\σ[j]?=aA (aA v))
  (Hx:∀x,Ei cO X.env x=pure x):PE X (.ListComp elt [⟨tg,cO,ct.toList,0⟩] scope pos) (Lj wi imp g tc te):=by
 intro pins s σ H Q I h;rw[eval_ListComp];refine LS (use:=aD) (g:=⟨tg,cO,ct.toList,0⟩) (gs:=[]) rfl Hx (hsc.Sb I.ok) hsc.kind hsc.Xn ?_;refine bM (hi pins s σ H _ I h) λv s1 h1=>bM h1 λitv s2 h2=>?_;obtain⟨it,fp,tn,J,H2,e,I2,T,st2,f2,W,m0,w0,turn⟩:=h2;subst e;refine Se (R:=λys H'=>∀D,H' D=aD->Q (.ref D) (aZ H' D (.lst ys))) hsc rH I2 T st2 f2 hg hct hct0 he (himp σ) (hσ σ) w0 turn (λD C nm H1 s1 e s' IX h1 h2 h3 h4 h=>Sf IX hst hfm hR h1 h2 h3 h4 rfl h) ?_;intro D C s' H' m ys I' hD hn fC hR;exact⟨m,hn,λh' hs'=>⟨.ref D,_,I'.turned (t':=s'.toks) (λb o hb e=>hs'.extBut b o hb e) fC.1 fC.2.1 fC.2.2.2.1 fC.2.2.2.2.1 fC.2.2.2.2.2,rfl,hR D hD⟩⟩
theorem D4{i:Nat}{y:Str}{py rZ:Pos}(hN:X.N.Nodup)(hi':X.N[i]?=aA y)(hy:X.env.scope.names.lookup y=aA .local)
  (hsw:ax (.ListComp elt [⟨tg,cO,ct.toList,0⟩] scope pos) (aA (.Name y py)) rZ.line X.env=pure aB) (hsc:oA X N' scope) (rH:X.calm=aB) (hi:PI X tg cO wi)
  (hg:∀s H C fp,PG (X.comp N' scope s H C fp) tg g) (hct:∀c,ct=aA c->∀s H C fp,PT (X.comp N' scope s H C fp) c tc) (hct0:ct=aD->∀σ H Q,tc σ H Q->Q aB H) (hst:X.stack=X.env::X.outer) (hfm:X.env.frame=aA X.env.locals) (hR:uZ X EX) (he:Fg X N' scope EX elt te)
  (himp:∀σ:St,(imp σ).length=N'.length)
  (hσ:∀(σ:St) (i:Nat) x v,N'[i]?=aA x->(imp σ)[i]?=aA (aA v)->scope.names.lookup x=aA .free/\(x,hZ)∈scope.names/\∃j:Nat,X.N[j]?=aA x/\σ[j]?=aA (aA v))
  (Hx:∀x,Ei cO X.env x=pure x):PS X (.Assign [.Name y py] (.ListComp elt [⟨tg,cO,ct.toList,0⟩] scope pos) rZ) (Be (Lj wi imp g tc te) (xk i)):=by
 intro pins s σ H D I h;rw[exec_Assign_Name_used _ _ _ _ hsw];refine aL (iu (aL ?_));show aO _ _ (do let _ <- comprehension (.ListComp elt [⟨tg,cO,ct.toList,0⟩] scope pos) scope X.env _ (newList []) aF (eval cO X.env) (aA (uS (.Name y py) X.env))) _ _ s;refine aL (kH (LS (use:=aA (uS (.Name y py) X.env)) (Q:=λ_ s'=>SP X pins D .next s') (g:=⟨tg,cO,ct.toList,0⟩) (gs:=[]) rfl Hx (hsc.Sb I.ok) hsc.kind hsc.Xn ?_)
  (λ_ s' hq=>bH (bH hq)) λ_ _ e=>e)
 refine bM (hi pins s σ H _ I h) λv s1 h1=>bM h1 λitv s2 h2=>?_;obtain⟨it,fp,tn,J,H2,e,I2,T,st2,f2,W,m0,w0,turn⟩:=h2;subst e;refine Se (R:=λys H'=>∀d,H' d=aD->D.nx (σ.set i (aA (.ref d))) (aZ H' d (.lst ys))) hsc rH I2 T st2 f2 hg hct hct0 he (himp σ) (hσ σ) w0 turn (λD C nm H1 s1 e s' IX h1 h2 h3 h4 h=>Sf IX hst hfm hR h1 h2 h3 h4 rfl h) ?_;intro d C s' H' m ys I' hD hn fC hR;obtain⟨oC,es,ep,hoC,hd1,rC⟩:=id hn;have I'':Inv X (pins++[(C,oC)]) σ (aZ H' d (.lst ys)) s':=I'.ef λp hp=>(List.mem_append.mp hp).elim (λz=>I'.pin p (hU _ z)) λz=>by
  have e:p=(C,oC):=by simpa using z
  subst e;exact⟨hoC,fC.1,fC.2.1,fC.2.2.1,λv z=>by rw[hd1]at z;cases z⟩
 refine LR (qj I'' hN hi' (.inl hy) (v:=.ref d) rfl (λs3 I3=>?_) (.inr hy));have p3:=(I3.pin (C,oC) (hU _ (hU _ fU))).1;exact⟨m,⟨oC,es,ep,p3,hd1,rC⟩,λh' hs'=>⟨_,_,I3.Bt.turned (t':=s3.toks) (λb o hb e=>hs'.extBut b o hb e) fC.1 fC.2.1 fC.2.2.2.1 fC.2.2.2.2.1 fC.2.2.2.2.2,hR d hD⟩⟩
end
section
variable {X:Cx}
theorem CY:∀{ts:List Str}{us:List Value},Vals (ts.map V.str) us->∃l:List (Str×Tok),us=Ep l/\l.map (·.1)=ts
 |[],_,.nil=>⟨[],rfl,rfl⟩
 |t::ts,_,.cons ⟨k,e⟩ r=>by obtain⟨l,e1,e2⟩:=CY r;subst e;exact⟨(t,k)::l,by rw[e1];rfl,by rw[dS,e2]⟩
def W8(K:aX):V->List V->Hp->VK->Prop:=λx xs H Q=>∃(z:Str) (p:Addr) (ts:List Str),x = .str z/\xs=[.ref p]/\cW K H p (ts.map V.str)/\si z ts=aB/\Q (.str (Ec z ts)) H
theorem YV:sR X "str.join" (W8 X.K):=by intro pins s σ H x xs v us Q I rx r h;obtain⟨z,p,ts,rfl,rfl,hq,hj,q⟩:=h;obtain⟨t,rfl⟩:=rx;obtain⟨u,rfl,ru⟩:=kX r;cases ru;obtain⟨its,rv,pl,_⟩:=I.list hq;obtain⟨l,rfl,e2⟩:=CY rv;exact SC.join pl.isList e2 hj λt' k=>⟨.str _,H,I.tok _,⟨_,rfl⟩,q⟩
def xS(P:bG)(w:bD)(K:aX)(a:Addr)(us:List (Str×Value)):Prop:=∀h:aQ,K.In h->h.DictOf (strKind P w) a us
def Al:Addr->Value->Bool
 |a,.ref b=>a==b
 |_,_=>aF
theorem u0(P:bG)(w:bD){es:List DictEntry}{D:List (Str×Addr)}(h:KTD.Rows (λ(d:Addr) v=>v = .ref d) es D):es.map (·.hash)=D.map (λp=>(uQ P w).hash p.1) ->
  (∀e∈es,∃k,(uQ P w).is k e.key=aB/\e.hash=(uQ P w).hash k)/\Pairs (uQ P w) es (D.map λp=>(p.1,eX p.2)):=by
 induction h with
 |nil=>exact λ_=>⟨λ_ h=>(nomatch h),.nil⟩|@cons e x t d es D Hu hv _ ih=>
  intro hh;rw[dS,dS]at hh;injection hh with h1 h2;obtain⟨hk,hp⟩:=ih h2;have hi:(uQ P w).is x e.key=aB:=by rw[Hu];exact Eo P w x t
  refine⟨λe' he'=>?_,.cons hi hv hp⟩;rcases List.mem_cons.mp he' with rfl|he'
  .exact⟨x,hi,h1⟩
  .exact hk e' he'
theorem XJ{P:bG}{w:bD}{K:aX}{a:Addr}{o:Obj}{D:List (Str×Addr)}(l:K.lookup a=aA o)(e:Nm Al (λ_=>aA o) a D=aB)
  (n:(D.map (·.1)).Nodup) (q:KTD.hashesOf (λ_=>aA o) a=D.map λp=>(uQ P w).hash p.1):xS P w K a (D.map λp=>(p.1,eX p.2)):=λh x=>by
 have e':Nm Al (λb=>K.lookup b) a D=aB:=by rw[<- e];simp only[Nm,l]
 obtain⟨_,o',es,ep,g1,g2,g3,g4⟩:=KTD.tab_of_look (R:=λ(d:Addr) v=>v = .ref d) (λd v hd=>by cases v<;>first|cases hd|exact congrArg eX (eq_of_beq hd).symm) (λb o r=>x b o r) e'
 have ho:o'=o:=dB ((g1.symm.trans (x a o l)));subst ho;have hh:es.toList.map (·.hash)=D.map λp=>(uQ P w).hash p.1:=by rw[<- q];unfold KTD.hashesOf;simp only[g3]
 obtain⟨hk,hp⟩:=u0 P w g4 hh;exact⟨o',es,ep,g1,g2,g3,λe he=>hk e (by simpa using he),hp,by rw[lD];exact n⟩
def fg(o:Obj):List (Str×Addr):=match o.data with
 |.dict es _=>es.toList.filterMap λe=>match e.key,e.val with
  |.str k _,.ref a=>aA (k,a)
  |_,_=>aD
 |_=>[]
def EI(o:Obj)(ts:List Str):Bool:=o.cls == .type "tuple"&&(match o.data with
 |.seq vs _=>sj vs.toList ts&&decide (ts.length<=1000)
 |_=>aF)
def qy(K:aX):List (Str×Addr)->List (Str×List Str)->Bool
 |[],[]=>aB
 | (k,a)::r,(k',ts)::r'=>k==k'&&(match K.lookup a with
  |some o=>EI o ts
  |none=>aF)&&qy K r r'
 |_,_=>aF
theorem aCb:∀{vs:List Value}{ts:List Str},sj vs ts=aB->Vals (ts.map V.str) vs:=by
 intro vs;induction vs with
 |nil=>intro ts h;cases ts with|nil=>exact .nil|cons n ns=>simp[sj]at h
 |cons v vs ih=>
  intro ts h;cases ts with
  |nil=>cases v<;>simp[sj]at h|cons n ns=>cases v<;>simp[sj]at h;obtain⟨rfl,h⟩:=h;exact .cons ⟨_,rfl⟩ (ih h)
theorem EL{K:aX}:∀{D:List (Str×Addr)}{ks:List (Str×List Str)},qy K D ks=aB->D.map (·.1)=ks.map (·.1)/\∀k ts,ks.lookup k=aA ts ->
  ∃(a:Addr) (o:Obj) (vs:Array Value) (n:Nat),iC (D.map λp=>(p.1,eX p.2)) k=aA (.ref a)/\K.lookup a=aA o/\o.cls = .type "tuple"/\o.data = .seq vs n/\vs.size<=sizeLine/\Vals (ts.map V.str) vs.toList
 |[],[],_=>⟨rfl,λk ts h=>by cases h⟩
 | (k,a)::r,(k',us)::r',h=>by
  simp only[qy,aY]at h;obtain⟨⟨h1,h2⟩,h3⟩:=h;obtain rfl:=eq_of_beq h1;obtain⟨g1,g2⟩:=EL h3;refine⟨by rw[dS,dS,g1],λx ts e=>?_⟩;rw[gR]at e;split at e
  .rename_i q;obtain rfl:=eq_of_beq q;cases e;split at h2
   .rename_i o ho;simp only[EI,aY]at h2;obtain⟨k1,k2⟩:=h2;split at k2
    .rename_i vs n hd;rw[aY]at k2;have v:=aCb k2.1;have hl:=v.length;have hz:=of_decide_eq_true k2.2;refine⟨a,o,vs,n,by simp[iC],ho,eq_of_beq k1,hd,?_,v⟩;have hs:sizeLine=16777216:=iB;have hq:vs.toList.length=vs.size:=by simp
     rw[aV]at hl;omega
    .cases k2
   .cases h2
  .rename_i q;obtain⟨a',o,vs,n,z,r⟩:=g2 x ts e;refine⟨a',o,vs,n,?_,r⟩;have hn:¬(k=x):=λz=>by subst z;simp at q
   rw[<- z,dS];simp[iC,zZ,hn]
 |[],_::_,h=>by cases h
 |_::_,[],h=>by cases h
def Kn(X:Cx):R2:=λx y H Q=>∃(a:Addr) (us:List (Str×Value)) (k:Str) (u:Value) (v:V),x = .ref a/\y = .str k/\xS X.prog X.w X.K a us/\iC us k=aA u/\RelV v u/\Q v H
theorem WU:oF X (Kn X):=by intro value slice pins s σ H x y v u Q I rx ry h hs;obtain⟨a,us,k,z,vz,rfl,rfl,hT,he,rz,q⟩:=h;cases rx;obtain⟨t,rfl⟩:=ry;have hm:=(hT _ I.fW).mapOf;exact tail_any hm.typeIs slot_dict_getitem.lookup (LV (Eo X.prog X.w k t) hm he ⟨vz,H,I.tok _,rz,q⟩) hs
end
section
variable {X:Cx}
theorem YZ:sR X "str.startswith" (λx xs H Q=>∃z y,x = .str z/\xs=[.str y]/\Q (.bl (Ed z y)) H):=by intro pins s σ H x xs v us Q I rx r h;obtain⟨z,y,rfl,rfl,q⟩:=h;obtain⟨t,rfl⟩:=rx;obtain⟨u,rfl,t',rfl⟩:=kX r;exact SC.startswith ⟨.bl _,H,I,rfl,q⟩
theorem YU:sR X "str.endswith" (λx xs H Q=>∃z y,x = .str z/\xs=[.str y]/\Q (.bl (Eb z y)) H):=by intro pins s σ H x xs v us Q I rx r h;obtain⟨z,y,rfl,rfl,q⟩:=h;obtain⟨t,rfl⟩:=rx;obtain⟨u,rfl,t',rfl⟩:=kX r;exact SC.endswith ⟨.bl _,H,I,rfl,q⟩
theorem ZA:sR X "str.strip" (λx xs H Q=>∃z y,x = .str z/\xs=[.str y]/\z.length<=sizeLine/\Q (.str (Ee z y)) H):=by intro pins s σ H x xs v us Q I rx r h;obtain⟨z,y,rfl,rfl,hz,q⟩:=h;obtain⟨t,rfl⟩:=rx;obtain⟨u,rfl,t',rfl⟩:=kX r;exact SC.stripChars (λt' k=>⟨.str _,H,I.tok _,⟨_,rfl⟩,q⟩) hz
theorem EY:∀(l:List (Str×Tok)),Vals ((l.map (·.1)).map V.str) (Ep l)
 |[]=>.nil
 |p::l=>.cons ⟨p.2,rfl⟩ (EY l)
theorem YY:sR X "str.split" (λx xs H Q=>∃z y,x = .str z/\xs=[.str y]/\(y.length==0)=aF/\z.length<=sizeLine/\(uR z y).length<=sizeLine /\
  (gi z (qH z y 0 z.length (z.length+1)) y.length).length<=sizeLine/\∀a,H a=aD->Q (.ref a) (aZ H a (.lst ((uR z y).map V.str)))):=by
 intro pins s σ H x xs v us Q I rx r h;obtain⟨z,y,rfl,rfl,hy,hz,hn,hp,q⟩:=h;obtain⟨t,rfl⟩:=rx;obtain⟨u,rfl,t',rfl⟩:=kX r;have fin:∀(l:List (Str×Tok)) (k:Nat),l.map (·.1)=uR z y->EP X pins σ Q (.ref s.heap.objs.size) { s with toks:=k,heap:=s.heap.push { cls:=.type "list",data:=.seq (Ep l).toArray } }:=λl k e=>by refine⟨.ref s.heap.objs.size,aZ H s.heap.objs.size (.lst ((uR z y).map V.str)),I.laid (t':=k) (λb u e=>dH _ e) (cB _) ?_,rfl,q _ (I.aR.fresh (cB _))⟩;refine⟨by rw[aV];exact hn,Ep l,0,?_,iM _ rfl⟩;rw[<- e];exact EY l
 cases h1:(decide (z.length<y.length)||decide (gj z<gj y))
 .cases hf:(qH z y 0 z.length (z.length+1)).isEmpty
  .refine xH Nj (az _ _ _) Ni (Nh _ _) (meets_str_split_sep z y t t' h1 hy hf hz hp) ?_;show EP X pins σ Q _ _;rw[strsFrom_eq];exact fin (numbered s.toks _) _ ((numbered_texts _ _).trans ((if_neg (ne_true_of_eq_false h1)).trans (if_neg (ne_true_of_eq_false hf))).symm)
  .exact xH Nj (az _ _ _) Ni (Nh _ _) (meets_str_split_not_found z y t t' h1 hy hf) (fin [(z,t)] _ ((if_neg (ne_true_of_eq_false h1)).trans (if_pos hf)).symm)
 .exact xH Nj (az _ _ _) Ni (Nh _ _) (meets_str_split_cannot_occur z y t t' h1) (fin [(z,t)] _ (if_pos h1).symm)
def yU(z y:Str):List Str:=match qH z y 0 z.length 1 with
 |i::_=>[gk z 0 i,y,gk z (i+y.length) z.length]
 |[]=>[z,Ea,Ea]
theorem YX:sR X "str.partition" (λx xs H Q=>∃z y,x = .str z/\xs=[.str y]/\(y.length==0)=aF/\z.length<=sizeLine/\∀a,H a=aD->Q (.ref a) (aZ H a (.tup ((yU z y).map V.str)))):=by
 intro pins s σ H x xs v us Q I rx r h;obtain⟨z,y,rfl,rfl,hy,hz,q⟩:=h;obtain⟨t,rfl⟩:=rx;obtain⟨u,rfl,t',rfl⟩:=kX r;have fin:∀(ts:List Str) (vs:List Value) (k:Nat),ts=yU z y->ts.length<=sizeLine->Vals (ts.map V.str) vs->EP X pins σ Q (.ref s.heap.objs.size) { s with toks:=k,heap:=s.heap.push { cls:=.type "tuple",data:=.seq vs.toArray } }:=λts vs k e hl r=>by refine⟨.ref s.heap.objs.size,aZ H s.heap.objs.size (.tup ((yU z y).map V.str)),I.laid (t':=k) (λb u e=>dH _ e) (cB _) ?_,rfl,q _ (I.aR.fresh (cB _))⟩;rw[<- e];exact⟨by rw[aV];exact hl,vs,r,⟨_,iM _ rfl,rfl,_,rfl⟩⟩
 refine xH F.slot_str_partition (az _ _ _) F.entry_str_partition (F.args_str_partition_2 _ _) (meets_str_partition z y t t' hy hz) ?_;unfold yU at fin;cases ho:qH z y 0 z.length 1 with
 |nil=>rw[ho]at fin;exact fin _ _ _ rfl (by show 3<=sizeLine;decide) (.cons ⟨_,rfl⟩ (.cons ⟨_,rfl⟩ (.cons ⟨_,rfl⟩ .nil)))
 |cons i l=>rw[ho]at fin;exact fin _ _ _ rfl (by show 3<=sizeLine;decide) (.cons ⟨_,rfl⟩ (.cons ⟨_,rfl⟩ (.cons ⟨_,rfl⟩ .nil)))
end
end L2
namespace AM
open PySem PySem.Spec PyProof.Rows L2
theorem Y5{x y:V}{u:Value}(h:RelV x u)(k:RelV y u):x=y:=by cases x<;>cases y<;>simp only[L2.RelV]at h k<;>(try obtain⟨t,h⟩:=h)<;>(try obtain⟨t2,k⟩:=k)<;>first|(subst h;cases k<;>rfl)|(rw[h]at k;cases k<;>rfl)|(cases k<;>rfl)|(cases h<;>rfl)|rfl
theorem Lz:∀{xs ys:List V}{us:List Value},Vals xs us->Vals ys us->xs=ys
 |_,_,_,.nil,.nil=>rfl|_,_,_,.cons h t,.cons k r=>by rw[Y5 h k,Lz t r]
def iD(K:aX)(H:Hp):Nat->V->V->Bool->Prop
  |0,_,_,_=>False
  |n+1,x,y,b=>(kM x=aB/\kM y=aB/\b=jV x y) \/
    (b=aF/\∃(a:Addr) (xs:List V),dE K H a xs/\((x = .aK/\y = .ref a)\/(x = .ref a/\y = .aK))) \/
    ∃(a c:Addr) (xs ys:List V),x = .ref a/\y = .ref c /\
      ((cW K H a xs/\cW K H c ys/\((xs.length≠ys.length/\b=aF)\/(xs.length=ys.length/\∃e:Nat->Bool,(∀j p q,xs[j]?=aA p->ys[j]?=aA q->iD K H n p q (e j))/\b=(gL xs.length).all e))) \/
       (dE K H a xs/\dE K H c ys/\∃e:Nat->Bool,(∀j p q,xs[j]?=aA p->ys[j]?=aA q->iD K H n p q (e j))/\b=((gL (min xs.length ys.length)).all e&&xs.length==ys.length)) \/
       (cW K H a xs/\dE K H c ys/\b=aF)\/(dE K H a xs/\cW K H c ys/\b=aF))
section
variable {X:Cx}{pins:List (Addr×Obj)}{σ:L2.St}{H:Hp}{s:aG}
theorem RU{x:V}(h:kM x=aB):jV x x=aB:=by cases x<;>first|(simp[jV];done)|cases h
theorem vR(I:Inv X pins σ H s){a:Addr}{xs:List V}(h:cW X.K H a xs):∃its:List Value,Vals xs its/\s.heap.IsList a its.toArray:=by obtain⟨its,r,p,_⟩:=I.list h;exact⟨its,r,p.isList⟩
theorem oZ(I:Inv X pins σ H s){a:Addr}{xs:List V}(h:dE X.K H a xs):∃its:List Value,Vals xs its/\s.heap.IsTuple a its.toArray:=by obtain⟨its,r,p,_⟩:=I.tuple h;exact⟨its,r,p⟩
theorem WJ{a:Addr}{xs ys:List Value}(h:s.heap.IsList a xs.toArray)(k:s.heap.IsList a ys.toArray):xs=ys:=by obtain⟨o,h1,h2,n,h3⟩:=h;obtain⟨o2,k1,k2,n2,k3⟩:=k;rw[h1]at k1;cases k1;rw[h3]at k3;injection k3 with e1 e2;simpa using e1
theorem WM{a:Addr}{xs ys:List Value}(h:s.heap.IsTuple a xs.toArray)(k:s.heap.IsTuple a ys.toArray):xs=ys:=by obtain⟨o,h1,h2,n,h3⟩:=h;obtain⟨o2,k1,k2,n2,k3⟩:=k;rw[h1]at k1;cases k1;rw[h3]at k3;injection k3 with e1 e2;simpa using e1
theorem Qr{e:Nat->Bool}{n:Nat}(h:∀j,j<n->e j=aB):(gL n).all e=aB:=by rw[xA];intro j hj;exact h j (List.mem_range.mp hj)
theorem iD.same(I:Inv X pins σ H s):∀{n:Nat}{x:V}{b:Bool},iD X.K H n x x b->b=aB
 |0,_,_,h=>h.elim
 |n+1,x,b,h=>by
  have ga:∀{xs:List V}{e:Nat->Bool},(∀j p q,xs[j]?=aA p->xs[j]?=aA q->iD X.K H n p q (e j))->∀j,j<xs.length->e j=aB:=λ{xs e} h j hj=>iD.same I (h j xs[j] xs[j] (cZ hj) (cZ hj))
  rcases h with⟨f,_,rfl⟩|⟨_,a,xs,_,⟨e1,e2⟩|⟨e1,e2⟩⟩|⟨a,c,xs,ys,e1,e2,h⟩
  rotate_left 1
  .subst e1;cases e2
  .subst e1;cases e2
  rotate_left 1
  .exact RU f
  .subst e1;cases e2;rcases h with⟨h1,h2,h⟩|⟨h1,h2,h⟩|⟨h1,h2,h⟩|⟨h1,h2,h⟩
   .obtain⟨us,r1,p1⟩:=vR I h1;obtain⟨vs,r2,p2⟩:=vR I h2;have e:=WJ p1 p2;subst e;have e:=Lz r1 r2;subst e;rcases h with⟨h,_⟩|⟨_,e,h,rfl⟩
    .exact absurd rfl h
    .exact Qr (ga h)
   .obtain⟨us,r1,p1⟩:=oZ I h1;obtain⟨vs,r2,p2⟩:=oZ I h2;have e:=WM p1 p2;subst e;have e:=Lz r1 r2;subst e;obtain⟨e,h,rfl⟩:=h;rw[Dt,Qr (ga h)];simp
   .obtain⟨us,r1,p1⟩:=vR I h1;obtain⟨vs,r2,p2⟩:=oZ I h2;exact absurd rfl (LB p1 p2)
   .obtain⟨us,r1,p1⟩:=oZ I h1;obtain⟨vs,r2,p2⟩:=vR I h2;exact absurd rfl (LB p2 p1)
mutual
theorem iD.rc(I:Inv X pins σ H s):∀{n:Nat}{A:bS}{a c:Addr}{b:Bool},A.units+n<cLine->iD X.K H n (.ref a) (.ref c) b->SeqAt.RcAt A s (.ref a) (.ref c) b/\SeqAt.RcNeAt A s (.ref a) (.ref c) (!b)
 |0,_,_,_,_,_,h=>h.elim
 |n+1,A,a,c,b,hu,h=>by
  have hu':A.in1.units+n<cLine:=by show A.units+1+n<cLine;omega
  have h0:A.units<cLine:=by omega
  have items:∀{xs ys:List V}{us vs:List Value}{e:Nat->Bool},Vals xs us->Vals ys vs->(∀j p q,xs[j]?=aA p->ys[j]?=aA q->iD X.K H n p q (e j)) ->
    ∀j (h1:j<us.toArray.size) (h2:j<vs.toArray.size),ie A.in1 s us.toArray[j] vs.toArray[j] (e j):=λ{xs ys us vs e} r1 r2 h j h1 h2=>by
   have l1:j<xs.length:=by rw[r1.length];simpa using h1
   have l2:j<ys.length:=by rw[r2.length];simpa using h2
   obtain⟨u,g1,q1⟩:=r1.get (cZ l1);obtain⟨v,g2,q2⟩:=r2.get (cZ l2);have e1:us.toArray[j]=u:=by have:us[j]?=aA u:=g1;rw[IQ]at this;simpa using this.2
   have e2:vs.toArray[j]=v:=by have:vs[j]?=aA v:=g2;rw[IQ]at this;simpa using this.2
   rw[e1,e2];exact iD.at I hu' q1 q2 (h j _ _ (cZ l1) (cZ l2))
  rcases h with⟨f,_,_⟩|⟨_,a,xs,_,⟨e1,e2⟩|⟨e1,e2⟩⟩|⟨a',c',xs,ys,e1,e2,h⟩
  rotate_left 1
  .cases e1
  .cases e2
  rotate_left 1
  .cases f
  .cases e1;cases e2;rcases h with⟨h1,h2,h⟩|⟨h1,h2,h⟩|⟨h1,h2,rfl⟩|⟨h1,h2,rfl⟩
   .obtain⟨us,r1,p1⟩:=vR I h1;obtain⟨vs,r2,p2⟩:=vR I h2;rcases h with⟨hl,rfl⟩|⟨hl,e,h,rfl⟩
    .have hz:(us.toArray.size != vs.toArray.size)=aB:=by rw[bne_iff_ne];simp only[eM];rw[<- r1.length,<- r2.length];exact hl
     exact⟨SeqAt.RcAt.lists_lengths p1 p2 hz h0,SeqAt.RcNeAt.lists_lengths p1 p2 hz h0⟩
    .have hz:us.toArray.size=vs.toArray.size:=by simp only[eM];rw[<- r1.length,<- r2.length];exact hl
     have e3:xs.length=us.toArray.size:=by simp only[eM];exact r1.length
     rw[e3];exact⟨SeqAt.RcAt.lists p1 p2 hz h0 (items r1 r2 h),SeqAt.RcNeAt.lists p1 p2 hz h0 (items r1 r2 h)⟩
   .obtain⟨us,r1,p1⟩:=oZ I h1;obtain⟨vs,r2,p2⟩:=oZ I h2;obtain⟨e,h,rfl⟩:=h;have e3:xs.length=us.toArray.size:=by simp only[eM];exact r1.length
    have e4:ys.length=vs.toArray.size:=by simp only[eM];exact r2.length
    rw[e3,e4];exact⟨SeqAt.RcAt.tuples p1 p2 h0 (items r1 r2 h),SeqAt.RcNeAt.tuples p1 p2 h0 (items r1 r2 h)⟩
   .obtain⟨us,r1,p1⟩:=vR I h1;obtain⟨vs,r2,p2⟩:=oZ I h2;exact⟨SeqAt.RcAt.list_tuple p1 p2 h0,SeqAt.RcNeAt.list_tuple p1 p2 h0⟩
   .obtain⟨us,r1,p1⟩:=oZ I h1;obtain⟨vs,r2,p2⟩:=vR I h2;exact⟨SeqAt.RcAt.tuple_list p1 p2 h0,SeqAt.RcNeAt.tuple_list p1 p2 h0⟩
termination_by n=>2*n
theorem iD.at(I:Inv X pins σ H s):∀{n:Nat}{A:bS}{x y:V}{u v:Value}{b:Bool},A.units+n<cLine->RelV x u->RelV y v->iD X.K H n x y b->ie A s u v b
 |n,A,x,y,u,v,b,hu,rx,ry,h=>by
  by_cases hf:kM x=aB/\kM y=aB
  .cases n with
   |zero=>exact h.elim|succ n=>
    rcases h with⟨_,_,rfl⟩|⟨_,a,xs,_,⟨e1,e2⟩|⟨e1,e2⟩⟩|⟨a,c,xs,ys,e1,e2,h⟩
    rotate_left 1
    .subst e2;cases hf.2
    .subst e1;cases hf.1
    rotate_left 1
    .exact Ha rx ry hf.1 hf.2
    .subst e1;cases hf.1
  .have:(∃a c,x = .ref a/\y = .ref c)\/(b=aF/\∃(a:Addr) (xs:List V),dE X.K H a xs/\((x = .aK/\y = .ref a)\/(x = .ref a/\y = .aK))):=by
    cases n with
    |zero=>exact h.elim|succ n=>
     rcases h with⟨h1,h2,rfl⟩|h|⟨a,c,xs,ys,e1,e2,h⟩
     .exact absurd ⟨h1,h2⟩ hf
     .exact .inr h
     .exact .inl ⟨a,c,e1,e2⟩
   rcases this with⟨a,c,rfl,rfl⟩|⟨rfl,a,xs,hq,⟨rfl,rfl⟩|⟨rfl,rfl⟩⟩
   rotate_left
   .obtain⟨us,_,p⟩:=oZ I hq;cases rx;cases ry;exact SeqAt.EqAt.none_tuple p (by omega)
   .obtain⟨us,_,p⟩:=oZ I hq;cases rx;cases ry;exact SeqAt.EqAt.tuple_none p (by omega)
   cases rx;cases ry;by_cases hac:a=c
   .subst hac;rw[iD.same I h];exact Pj _
   .exact SeqAt.EqAt.of_refs hac (iD.rc I hu h).1
termination_by n=>2*n+1
end
def W6(K:aX):R2:=λx y H Q=>AZ x y H Q\/∃b a c,x = .ref a/\y = .ref c/\iD K H 12 x y b/\Q (.bl b) H
def W9(K:aX):R2:=λx y H Q=>BG x y H Q\/∃b a c,x = .ref a/\y = .ref c/\iD K H 12 x y b/\Q (.bl (!b)) H
theorem c8(hu:X.A.units+12<cLine):cK X (dM .Eq) (W6 X.K):=by
 intro pins s σ H x y v u Q I rx ry h;rcases h with h|⟨b,a,c,rfl,rfl,h,q⟩
 .exact c7 pins s σ H x y v u Q I rx ry h
 .cases rx;cases ry;exact(iD.rc I hu h).1 _ _ _ _ ⟨.bl b,H,I,rfl,q⟩
theorem i5(hu:X.A.units+12<cLine):cK X (dM .NotEq) (W9 X.K):=by
 intro pins s σ H x y v u Q I rx ry h;rcases h with h|⟨b,a,c,rfl,rfl,h,q⟩
 .exact i4 pins s σ H x y v u Q I rx ry h
 .cases rx;cases ry;exact(iD.rc I hu h).2 _ _ _ _ ⟨.bl (!b),H,I,rfl,q⟩
end
section
variable {X:Cx}
def Kn:R2:=λx y H Q=>∃a v,x = .ref a/\kI H a y (aA v)/\Q v H
theorem WQ(hu:X.A.units+1<cLine):oF X Kn:=by
 intro value slice pins s σ H x y o i Q I rx ry h hs;obtain⟨a,v,rfl,g,q⟩:=h;cases rx;have hT:=QY I g;have hl:=PySem.F.slot_dict_getitem.lookup;have h2:aO (aS X.prog X.w) X.A (ao (.ref a) i) (EP X pins σ Q) X.xe s:=QL hu I g ry λw' s3 I3 rw'=>⟨v,H,I3,rw',q⟩;unfold Pz;refine aL ?_;rw[getitemInPython_of_ne hT.not_modules];refine aL (MI hT hl ?_);have fin:aO (aS X.prog X.w) X.A (Qa slice aF (.ref a) i) (λr s₃=>aO (aS X.prog X.w) X.A (letTemporaryGo value (.ref a) r>>=λ_=>pure r) (EP X pins σ Q) X.xe s₃) X.xe s:=by rw[hs];exact wpAny_operating (kH h2 (λr s₃ h₃=>aL (wpAny_letTemporaryGo (bH h₃))) λ_ _ x=>x)
 first
  |exact bH (aL fin)|exact aL (bH (aL fin))|exact aL fin
def BB(neg:Bool):R2:=λy x H Q=>∃a o,x = .ref a/\kI H a y o/\Q (.bl (if neg then !o.isSome else o.isSome)) H
theorem d9(hu:X.A.units+1<cLine):cK X (dM .In) (BB aF):=by intro pins s σ H x y v u Q I rx ry h;obtain⟨a,o,rfl,g,q⟩:=h;cases ry;exact QM hu I g rx λs3 I3=>⟨.bl o.isSome,H,I3,rfl,q⟩
theorem i8(hu:X.A.units+1<cLine):cK X (dM .NotIn) (BB aB):=by intro pins s σ H x y v u Q I rx ry h;obtain⟨a,o,rfl,g,q⟩:=h;cases ry;exact QN hu I g rx λs3 I3=>⟨.bl (!o.isSome),H,I3,rfl,q⟩
def X2:V->V->V->Hp->(Hp->Prop)->Prop:=λo i v H Q=>∃a H',o = .ref a/\iw H a i v H'/\Q H'
theorem aAj(hu:X.A.units+1<cLine):Fi X (λo i v H Q=>BH o i v H Q\/X2 o i v H Q):=by
 intro pins s σ H o i v ov iv u Q I ro ri rv h;rcases h with h|⟨a,H',rfl,g,q⟩
 .exact aAk pins s σ H o i v ov iv u Q I ro ri rv h
 .cases ro;exact QP hu I g ri rv λs4 I4=>⟨_,I4,q⟩
end
theorem UT{prog:bG}{w:bD}{A:bS}{E:Value->aG->Prop}{s:aG}{Q:Int->aG->Prop}(h:Q 4238894112 { s with toks:=s.toks+1 }):aO (aS prog w) A (pyHash .none) Q E s:=by show aO _ A (pyHashByItsType .none) Q E s;refine W.pyHash_slot (typeIs_none s) aLh aLc (by unfold argsOk;rfl) rfl (.inl rfl) ?_;unfold Builtin.«NoneType.__hash__»;refine aL ?_;refine bH ?_;have:=wpAny_ret_mkInt (M:=aS prog w) (A:=A.in1) (E:=E) (s:=s) (i:=4238894112) (Q:=λv s'=>∃n t,v=ug n t/\Q (reduceHash n) s') ⟨_,_,rfl,h⟩;exact bM this λfin s' ⟨v,e1,n,t,e2,q⟩=>⟨n,t,by rw[e1,e2],q⟩
def kh:Option aU->Value->Bool
 |none,.none=>aB
 |none,_=>aF
 |some k,v=>yM k v
theorem tQ{v:Value}(h:kh aD v=aB):v = .none:=by cases v<;>first|rfl|cases h
theorem XI(a b:aU):decide (aA a=aA b)=decide (a=b):=by simp
def Xw(prog:bG)(w:bD):KH prog w (Option aU) where
 is:=kh
 hash:=λk=>match k with
  |none=>4238894112
  |some k=>Vt w k
 inj:=λv a b ha hb=>by
  cases a with
  |none=>cases b with
   |none=>rfl|some b=>cases tQ ha;rcases mH hb with⟨i,t,rfl,e⟩|⟨x,t,rfl,e⟩<;>exact nomatch e
  |some a=>cases b with
   |none=>cases tQ hb;rcases mH ha with⟨i,t,rfl,e⟩|⟨x,t,rfl,e⟩<;>exact nomatch e
   |some b=>rw[(gG prog w).inj v a b ha hb]
 byValue:=λk v h=>by
  cases k with
  |none=>cases tQ h;rfl|some k=>exact(gG prog w).byValue k v h
 pyHash:=λ{A E s k v Q} hv h=>by
  cases k with
  |none=>cases tQ hv;exact UT h|some k=>exact(gG prog w).pyHash (k:=k) hv h
 eqBool:=λ{A E s a b u v Q} hu hv h=>by
  cases a with
  |none=>cases b with
   |none=>cases tQ hu;cases tQ hv;exact Pj lW _ _ _ _ h|some b=>
    cases tQ hu;rcases mH hv with⟨j,u,rfl,rfl⟩|⟨y,u,rfl,rfl⟩
    .exact KS j u _ _ _ _ h
    .exact KU y u _ _ _ _ h
  |some a=>cases b with
   |none=>
    cases tQ hv;rcases mH hu with⟨j,u,rfl,rfl⟩|⟨y,u,rfl,rfl⟩
    .exact KQ j u _ _ _ _ h
    .exact KY y u _ _ _ _ h
   |some b=>rw[XI]at h;exact(gG prog w).eqBool (a:=a) (b:=b) hu hv h
 «strs»:=λk x t v h=>by
  cases k with
  |none=>cases h|some k=>exact(gG prog w).strs k x t v h
theorem YJ{prog:bG}{w:bD}{h:aQ}{a:Addr}{vs:List (aU×Value)}(dd:h.DictOf (gG prog w) a vs):∃f,f aD=aD/\Heap.MapOf (Xw prog w) h a f:=by
 obtain⟨o,es,ep,h1,h2,h3,h4,h5⟩:=dd.mapOf;refine⟨λk=>findBy kh es k,?_,o,es,ep,h1,h2,h3,λe he=>?_,λ_=>rfl⟩
 .have:es.find? (λe=>kh aD e.key)=aD:=by rw[Array.find?_eq_none];intro e he hn;obtain⟨k,hk,_⟩:=h4 e he;rw[tQ hn]at hk;rcases mH hk with⟨i,t,rfl,e⟩|⟨x,t,rfl,e⟩<;>exact nomatch e
  show Option.map _ (es.find? (λe=>kh aD e.key))=aD;rw[this];rfl
 .obtain⟨k,hk,hh⟩:=h4 e he;exact⟨aA k,hk,hh⟩
section
variable {X:Cx}
def AY:V->List V->Hp->VK->Prop:=λx vs H Q=>(∃a y o,x = .ref a/\kI H a y o/\((vs=[y]/\Q (o.getD .aK) H)\/∃z,vs=[y,z]/\Q (o.getD z) H))\/∃a aE,x = .ref a/\H a=aA (.dK aE)/\vs=[.aK]/\Q .aK H
theorem YT(hu:X.A.units+1<cLine):vd X "dict.get" AY:=by
 intro pins s σ H x vs v us Q I rx rv h;rcases h with⟨a,y,o,rfl,g,h⟩|⟨a,aE,rfl,g,rfl,q⟩
 .cases rx;rcases h with⟨rfl,q⟩|⟨z,rfl,q⟩
  .obtain⟨u,rfl,ru⟩:=rv.one;exact QJ hu I g ru λw' s3 I3 rw'=>⟨_,H,I3,rw',q⟩
  .obtain⟨u1,u2,rfl,r1,r2⟩:=Ly rv;exact QK hu I g r1 r2 λw' s3 I3 rw'=>⟨_,H,I3,rw',q⟩
 .cases rx;obtain⟨u,rfl,ru⟩:=rv.one;cases(show u=lW from ru);obtain⟨z,hd,vs,rel,dd⟩:=Sz I.aR g;obtain⟨f,hf,m⟩:=YJ dd;refine ui ia dd.typeIs ud (Ou _ _) (LN (Xw X.prog X.w) a (k:=aD) rfl hd) ⟨f,m,.aK,H,I.tok _,?_,q⟩;rw[hf];rfl
end
theorem EV{bs:List Bool}:∀{us:List Value},Vals (bs.map V.bl) us->us=bs.map qT:=by
 induction bs with
 |nil=>intro us r;cases r;rfl|cons b bs ih=>
  intro us r;cases r with
  |cons h t=>have h':_=qT b:=h;subst h';rw[ih t];rfl
theorem Y1(bs:List Bool):(gL bs.length).any (λi=>(bs[i]?).getD aF)=bs.any id:=by
 rw[uJ,gp,gp];constructor
 .rintro ⟨i,hi,h⟩
  have hi':=List.mem_range.mp hi;rw[cZ hi']at h;exact⟨bs[i],aa hi',h⟩
 .rintro ⟨b,hb,h⟩
  obtain⟨i,hi,e⟩:=IU hb;exact⟨i,List.mem_range.mpr hi,by rw[cZ hi,e];exact h⟩
def aBo(rev:Bool)(ns:List Int):List Int:=ns.mergeSort (λa b=>if rev then decide (b<=a) else decide (a<=b))
section
variable {X:Cx}{pins:List (Addr×Obj)}{σ:L2.St}{H:Hp}{s:aG}
theorem OV(hc:X.calm=aB):jJ X (.builtin "any") (λxs H Q=>∃(a:Addr) (bs:List Bool),xs=[.ref a]/\cW X.K H a (bs.map V.bl)/\Q (.bl (bs.any id)) H):=by
 intro pins s σ H xs us Q I r h;obtain⟨a,bs,rfl,hq,q⟩:=h;obtain⟨u,rfl,ru⟩:=r.one;cases ru;obtain⟨its,rv,p,hz⟩:=I.list hq;have e:=EV rv;subst e;have hh:X.A.in1.handled=aD:=I.ok.hd hc;obtain⟨ob,h1,h2,n,h3⟩:=p.isList;refine call_any_walk (uw p.isList ?_);refine⟨s.heap.objs.size,_,_,_,_,_,λi=>(bs[i]?).getD aF,rfl,Walks.list hh s.heap.objs.size a (bU (cU h1)) (bs.map qT).toArray,⟨⟨_,iM _ rfl,rfl,rfl⟩,⟨ob,dH _ h1,h2,n,h3⟩⟩,λi v s' Q' E' hP hQ=>?_,λh' tk k=>?_⟩
 .dsimp only at hP hQ;rw[Nz,gK]at hP;cases e:bs[i]? with
  |none=>rw[e]at hP;cases hP|some b=>rw[e]at hP hQ;have hP':qT b=v:=dB hP;subst hP';exact Ez hQ
 .have hl:(bs.map qT).toArray.size=bs.length:=by simp
  rw[hl,Y1];refine⟨.bl _,H,I.kept (t':=tk) λb o e=>k b o ?_ (dH _ e),rfl,q⟩;intro hb;have e':b=s.heap.objs.size:=by simpa using hb
  subst e';exact absurd (cU e) (pI _)
end
section
variable {X:Cx}{pins:List (Addr×Obj)}{σ:L2.St}{H:Hp}{s:aG}{a b c d:aJ}{ta tb tc td:TE}{pos:Pos}
theorem Y0(bs:List Bool):(gL bs.length).all (λi=>(bs[i]?).getD aF)=bs.all id:=by
 rw[uJ,xA,xA];constructor
 .intro h b hb;obtain⟨i,hi,e⟩:=IU hb;have:=h i (List.mem_range.mpr hi);rw[cZ hi,e]at this;exact this
 .intro h i hi;have hi':=List.mem_range.mp hi;rw[cZ hi'];exact h _ (aa hi')
theorem OU(hc:X.calm=aB):jJ X (.builtin "all") (λxs H Q=>∃(a:Addr) (bs:List Bool),xs=[.ref a]/\cW X.K H a (bs.map V.bl)/\Q (.bl (bs.all id)) H):=by
 intro pins s σ H xs us Q I r h;obtain⟨a,bs,rfl,hq,q⟩:=h;obtain⟨u,rfl,ru⟩:=r.one;cases ru;obtain⟨its,rv,p,hz⟩:=I.list hq;have e:=EV rv;subst e;have hh:X.A.in1.handled=aD:=I.ok.hd hc;obtain⟨ob,h1,h2,n,h3⟩:=p.isList;refine call_all_walk (uw p.isList ?_);refine⟨s.heap.objs.size,_,_,_,_,_,λi=>(bs[i]?).getD aF,rfl,Walks.list hh s.heap.objs.size a (bU (cU h1)) (bs.map qT).toArray,⟨⟨_,iM _ rfl,rfl,rfl⟩,⟨ob,dH _ h1,h2,n,h3⟩⟩,λi v s' Q' E' hP hQ=>?_,λh' tk k=>?_⟩
 .dsimp only at hP hQ;rw[Nz,gK]at hP;cases e:bs[i]? with
  |none=>rw[e]at hP;cases hP|some b=>rw[e]at hP hQ;have hP':qT b=v:=dB hP;subst hP';exact Ez hQ
 .have hl:(bs.map qT).toArray.size=bs.length:=by simp
  rw[hl,Y0];refine⟨.bl _,H,I.kept (t':=tk) λb o e=>k b o ?_ (dH _ e),rfl,q⟩;intro hb;have e':b=s.heap.objs.size:=by simpa using hb
  subst e';exact absurd (cU e) (pI _)
def YM:List Int->Int
 |[]=>0
 |n::r=>r.foldl (λm x=>if x > m then x else m) n
end
section
variable {X:Cx}{tg l:aJ}{tl:TE}
def xy(a b:Str):Bool:=!(qH b a 0 b.length 1).isEmpty
theorem d6:cK X (dM .In) (λx y H Q=>∃a b,x = .str a/\y = .str b/\Q (.bl (xy a b)) H):=by intro pins s σ H x y v u Q I rx ry h;obtain⟨a,b,rfl,rfl,q⟩:=h;obtain⟨t,rfl⟩:=rx;obtain⟨t',rfl⟩:=ry;exact PyProof.Rows.in_str ⟨.bl _,H,I,rfl,q⟩
theorem OX:jJ X (.type "int") (λxs H Q=>∃z n,xs=[.str z]/\z.length<=640/\intText? z=aA n/\Q (.int n) H):=by intro pins s σ H xs us Q I r h;obtain⟨z,n,rfl,hz,hn,q⟩:=h;obtain⟨u,rfl,t,rfl⟩:=kX r;refine call_int_1 (Gives.meets (W.KIN.gives_text hz hn)) ?_;exact⟨rfl,.int n,H,I.tok _,⟨_,rfl⟩,q⟩
theorem g7:cK X (eI .Mult) (λx y H Q=>∃z n,x = .str z/\y = .int n/\z.length<=1000/\0<=n/\n<=1000/\(sM z n).length<=sizeLine/\Q (.str (sM z n)) H):=by
 intro pins s σ H x y v u Q I rx ry h;obtain⟨z,n,rfl,rfl,hz,h0,h1,hm,q⟩:=h;obtain⟨t,rfl⟩:=rx;obtain⟨t',rfl⟩:=ry;refine P.mul_str (by rw[decide_eq_false (by omega),decide_eq_false (by omega)];rfl) (λh2 _=>?_) (λh2 _=>?_) ?_
 .have e:(2 ^ 63-1:Int)=9223372036854775807:=by decide
  rw[e];have:(9223372036854775:Int)<=9223372036854775807 / n:=by rw[Int.le_ediv_iff_mul_le (by omega)];omega
  omega
 .unfold Builtin.Str.tooLong;have:z.length*n.toNat<=1000*1000:=Nat.mul_le_mul hz (by omega);have big:1000000<=sizeLine:=by decide
  exact decide_eq_false (by omega)
 .unfold sM at q hm;by_cases c1:n<1
  .rw[if_pos c1]at q hm ⊢;exact⟨hm,.str _,H,I.tok _,⟨_,rfl⟩,q⟩
  .rw[if_neg c1]at q hm ⊢;by_cases c2:(n==1||z.length==0)=aB
   .rw[if_pos c2]at q hm ⊢;exact⟨.str _,H,I,⟨_,rfl⟩,q⟩
   .rw[if_neg c2]at q hm ⊢;exact⟨hm,.str _,H,I.tok _,⟨_,rfl⟩,q⟩
def X4:V->Option Int->Option Int->Hp->VK->Prop:=λx lo hi H Q=>∃z,x = .str z/\(mX z lo hi).length<=sizeLine/\Q (.str (mX z lo hi)) H
theorem aAr:vA X X4:=by
 intro pins s σ H x v vl vu lo hi sl Q I rx hs pl pu h;obtain⟨z,rfl,hm,q⟩:=h;obtain⟨t,rfl⟩:=rx;refine⟨"str",_,PySem.F.slot_str_getitem.lookup,az _ _ _,?_⟩;have hl:∃l:Option (Int×Tok),vl=partValue l/\l.map (·.1)=lo:=by
  cases pl with
  |none=>exact⟨aD,rfl,rfl⟩|int i t=>exact⟨aA (i,t),rfl,rfl⟩
 have hu:∃l:Option (Int×Tok),vu=partValue l/\l.map (·.1)=hi:=by
  cases pu with
  |none=>exact⟨aD,rfl,rfl⟩|int i t=>exact⟨aA (i,t),rfl,rfl⟩
 obtain⟨l,rfl,e1⟩:=hl;obtain⟨u,rfl,e2⟩:=hu;have hs':s.heap.IsSlice sl l u aD:=hs;refine wpAny_getItem_str_slice hs' rfl ?_;unfold sliceMade slicePicked;unfold mX at q hm;rw[<- e1,<- e2]at q hm;simp only[Option.map_none,Oo]at q hm ⊢;split
 .rename_i hc;rw[if_pos hc]at q;exact⟨.str _,H,I,⟨_,rfl⟩,q⟩
 .rename_i hc;rw[if_neg hc]at q hm;exact⟨hm,.str _,H,I.tok _,⟨_,rfl⟩,q⟩
def oY(z:Str):List Str:=z.cps.toList.map λc=>⟨#[c]⟩
def vb(z:Str):It:=⟨λi _=>i<z.cps.size,λi H x H'=>H'=H/\∃y,(oY z)[i]?=aA y/\x = .str y,λi _=>z.cps.size<=i⟩
theorem FJ{prog:bG}{w:bD}{A:bS}(hA:A.handled=aD)(it:Addr)(z:Str)(t:Tok):Walks prog w A it [it] [it] z.cps.size (SignAt z) (λi h=>h.IsStrIter it (uo z) z t i):=by
 unfold uo;split
 .exact Walks.strAscii hA it z t
 .exact Walks.strWide hA it z t
theorem aEp{P:bG}{w:bD}{K:aX}(it:Addr)(z:Str)(t:Tok):Turn P w K tg (vb z) [it] it (λi h=>h.IsStrIter it (uo z) z t i/\i<=z.cps.size) where
 mem:=by simp
 obj:=λi h st b hb=>by
  have e:b=it:=by simpa using hb
  subst e;obtain⟨⟨o,e,c,d⟩,_⟩:=st;exact⟨o,e,λv z=>by rw[d]at z;cases z⟩
 keep:=λi h h' st k=>by obtain⟨⟨o,e,c,d⟩,l⟩:=st;exact⟨⟨o,k it (by simp) o e,c,d⟩,l⟩
 item:=by
  intro X hP hw hK hc i pins s σ H E I hf st hg;subst hP hw hK;have hg:i<z.cps.size:=hg;obtain⟨f0,f1,f2,f3,f4,f5⟩:=hf it (by simp);have W:=FJ (prog:=X.prog) (w:=X.w) (A:=X.A) (I.ok.hd hc) it z t;refine W.item i s _ _ hg st.1 λv h' tk hv st' kk=>?_;obtain⟨c,u,hv,rfl⟩:=hv;have I1:Inv X pins σ H { s with heap:=h',toks:=tk }:=I.turned (λb o hb e=>kk b o (by simpa using hb) e) f0 f1 f3 f4 f5;obtain⟨oi,ei,ci,di⟩:=id st';refine⟨_,rfl,xr (s:={ s with heap:=h',toks:=tk }) ei ci di ?_ ⟨.str ⟨#[c]⟩,H,I1,⟨_,rfl⟩,⟨rfl,⟨#[c]⟩,?_,rfl⟩,⟨st',hg⟩,λb hb=>(hf b hb).1⟩⟩
  .unfold uo;split<;>decide
  .unfold oY;rw[gK,GV,hv];rfl
 done:=by intro X hP hw hK hc i pins s σ H E I hf st hg;subst hP hw hK;have hg:z.cps.size=i:=Nat.le_antisymm hg st.2;obtain⟨f0,f1,f2,f3,f4,f5⟩:=hf it (by simp);have W:=FJ (prog:=X.prog) (w:=X.w) (A:=X.A) (I.ok.hd hc) it z t;refine W.done s _ _ (by rw[hg];exact st.1) λh' tk kk=>?_;exact⟨rfl,I.turned (λb o hb e=>kk b o (by simpa using hb) e) f0 f1 f3 f4 f5⟩
 self:=λA i s Q E st h=>by
  unfold uo at st;split at st
  .exact wpAny_pyIter_striter_ascii st.1 h
  .exact wpAny_pyIter_striter_wide st.1 h
theorem aBw{pins:List (Addr×Obj)}{s1:aG}{σ:L2.St}{H1:Hp}{z:Str}{t:Tok}{R:It->Hp->Prop}(I1:Inv X pins σ H1 s1)(q:R (vb z) H1):aO (aS X.prog X.w) X.A (um (.str z t)) (Fh X pins σ tg R) X.xe s1:=by
 refine wpAny_pyIter_strU ?_;refine⟨s1.heap.objs.size,[s1.heap.objs.size],_,_,H1,rfl,I1.kept (t':=s1.toks) λb o e=>dH _ e,aEp _ z t,⟨⟨_,iM _ rfl,rfl,rfl⟩,kD _⟩,λb hb=>?_,q⟩;have e:b=s1.heap.objs.size:=by simpa using hb
 subst e;exact I1.tG (cB _) (I1.aR.fresh (cB _))
theorem Ve{prog:bG}{w:bD}{A:bS}{E:Value->aG->Prop}{u:Str}{t:Tok}{us:List Value}{ts:List Str}(hv:Vals (ts.map V.str) us){Q:Option PySem.Fin×Unit->aG->Prop} :
  ∀(n k i:Nat) (s:aG),k+n=ts.length->(ts.drop k).idxOf? u=aA i->Q (aA (.done (.ret (.int ((k+i:Nat):Int) s.toks))),()) { s with toks:=s.toks+1 } ->
  aO (aS prog w) A (forIn (tf k n) ((aD,()):Option PySem.Fin×Unit) λ(i:Nat) _=>match us.toArray[i]? with
   |some y=>do
    let b <- eqBool y (.str u t)
    if b=aB then do
      let f <- retInt (i:Int)
      pure (ForInStep.done (aA f,()))
     else pure (sI (aD,()))
   |_=>pure (sI (aD,()))) Q E s
 |0,k,i,s,hk,hi,q=>by rw[Nq (by omega)]at hi;cases hi
 |n+1,k,i,s,hk,hi,q=>by
  obtain⟨c,hc⟩:∃c,ts[k]?=aA c:=⟨_,cZ (by omega)⟩;obtain⟨v,hu,t',rfl⟩:=hv.get (i:=k) (x:=.str c) (by rw[gK,hc];rfl);have hd:ts.drop k=c::ts.drop (k+1):=by rw[Np (by omega)];congr 1;exact(List.getElem?_eq_some_iff.mp hc).2
  rw[hd,List.idxOf?_cons]at hi;rw[List.range'_succ,su];refine aL ?_;rw[Nz,hu];refine aL (LU ?_);by_cases e:c=u
  .rw[decide_eq_true e,if_pos rfl];rw[if_pos (by simpa using e)]at hi;cases hi;refine aL ?_;refine aL (wpAny_mkInt ?_);refine bH (bH (bH ?_));exact q
  .rw[decide_eq_false e,if_neg dG];rw[if_neg (by simpa using e)]at hi;obtain⟨j,hj,rfl⟩:=Option.map_eq_some_iff.mp hi;refine bH ?_;refine Ve hv n (k+1) j s (by omega) hj ?_;rw[show k+1+j=k+(j+1) by omega];exact q
theorem ZC:sR X "tuple.index" (λx vs H Q=>∃(a:Addr) (ts:List Str) (u:Str) (i:Nat),x = .ref a/\dE X.K H a (ts.map V.str)/\vs=[.str u]/\ts.idxOf? u=aA i/\Q (.int ((i:Nat):Int)) H):=by
 intro pins s σ H x vs v us Q I rx rv h;obtain⟨a,ts,u,i,rfl,hq,rfl,hi,q⟩:=h;cases rx;obtain⟨v,rfl,t,rfl⟩:=kX rv;obtain⟨its,r,ht,hz⟩:=I.tuple hq;have hlen:its.toArray.size=ts.length:=by rw[eM,<- r.length,aV]
 refine ik KG ht.typeIs aLe ?_ (aLb _ _);show aO _ _ (pure (eX a,[nY u t])>>=_) _ _ s;refine aL (bH ?_);show aO _ _ (HD (.ref a)>>=_) _ _ s;refine aL (tupleItemsOf_ ht ?_);show aO _ _ (pure 0>>=_) _ _ s;refine aL (bH ?_);show aO _ _ (pure its.toArray.size>>=_) _ _ s;refine aL (bH ?_);dsimp only;rw[LD];have e:(⟨0,min its.toArray.size its.toArray.size,1,by decide⟩:LC).size=ts.length:=by rw[Dt,hlen];simp[LF]
 refine aL ?_;rw[e];refine Ve r ts.length 0 i s (by omega) (by rw[xB];exact hi) ?_;refine bH ⟨_,rfl,.int _,H,I.tok _,⟨_,rfl⟩,?_⟩;rw[gy];exact q
def Ak(X:Cx)(neg:Bool):R2:=λx y H Q=>∃(a:Addr) (us:List (Str×Value)) (k:Str),x = .str k/\y = .ref a/\xS X.prog X.w X.K a us/\(a==kF)=aF/\Q (.bl (if neg then !(iC us k).isSome else(iC us k).isSome)) H
theorem d7:cK X (dM .In) (Ak X aF):=by intro pins s σ H x y v u Q I rx ry h;obtain⟨a,us,k,rfl,rfl,hT,hd,q⟩:=h;cases ry;obtain⟨t,rfl⟩:=rx;exact wpAny_in_of (Eo X.prog X.w k t) hd (hT _ I.fW).mapOf ⟨.bl _,H,I.tok _,rfl,q⟩
theorem i7:cK X (dM .NotIn) (Ak X aB):=by intro pins s σ H x y v u Q I rx ry h;obtain⟨a,us,k,rfl,rfl,hT,hd,q⟩:=h;cases ry;obtain⟨t,rfl⟩:=rx;exact MC (Eo X.prog X.w k t) hd (hT _ I.fW).mapOf ⟨.bl _,H,I.tok _,rfl,q⟩
end
end AM
namespace PySem.W
open PySem PySem.Spec PySem.Calls PyProof.Rows Builtin Builtin.ObjectAttr
def xg:List Value->Bool
 |.ref _::r=>xg r
 |l=>l==[.type "ValueError",.type "Exception",.type "BaseException",.type "object"]
theorem Tq(self:Value):∀{l:List Value},xg l=aB->refuseLoop self "__setattr__" l=pure ()
 |.ref c::r,e=>(refuseLoop_ref self _ c r).trans (Tq self (by unfold xg at e;exact e))
 |[],e=>by cases e
 |.type n::r,e=>by rw[beq_iff_eq.mp (show(Ef n::r==_)=aB from e)];exact F.store_ValueError.passes self
 |.none::r,e=>by cases e
 |.bool b::r,e=>by cases e
 |.int b _::r,e=>by cases e
 |.str b _::r,e=>by cases e
 |.float b _::r,e=>by cases e
 |.bytes b _::r,e=>by cases e
 |.ellipsis::r,e=>by cases e
 |.notImplemented::r,e=>by cases e
 |.builtin b::r,e=>by cases e
section
variable {prog:bG}{w:bD}{A:bS}{E:Value->aG->Prop}{s:aG}{K:Frag}{x C:Addr}{ox:Obj}{name:Str}{v:Value}
def lA(K:Frag)(C:Addr)(name:Str):Bool:=(clsIn K C).any (λcd=>xg cd.mro&&cd.hasDict)&&qV K (.ref C) name==aA aD&&qV K (.ref C) "__setattr__"==aA (aA (.builtin "object.__setattr__"))&&mroIn K C (.type "object")==aA aB &&
 qV K (.ref C) "__getattribute__"==aA (aA (.builtin "BaseException.__getattribute__"))&&qV K (.ref C) "__getattr__"==aA aD&&mroIn K C (.type "BaseException")==aA aB
theorem aIu{Q:Unit->aG->Prop}(X:K.In s.heap)(I:InstAt s.heap x ox C aD)(q:lA K C name=aB)
  (h:∀h',h'.get? x=aA { ox with dict:=aA s.heap.objs.size }->h'.Ns1 s.heap.objs.size (λy=>if y=name then aA v else aD)->(∀b o,b≠x->s.heap.get? b=aA o->h'.get? b=aA o)->Q () { s with heap:=h',toks:=s.toks+2 }) :
  aO (aS prog w) A (setAttr (.ref x) name v) Q E s:=by
 simp only[lA,aY,beq_iff_eq]at q;obtain⟨⟨⟨⟨⟨⟨q1,q2⟩,q3⟩,q4⟩,_⟩,_⟩,_⟩:=q;obtain⟨cd,hc,hm⟩:=any_some q1;rw[aY]at hm;have SF:=aLm;refine set_plain X I q3 ?_;have sub:pH (aS prog w) s.heap (El (.ref x) (.type "object")) aB:=I.type.andThen (Pq X q4);refine Eh SF.slot.plain SF.entry (@check_slot (aS prog w) _ _ { s with toks:=s.toks+1 } "object.__setattr__" "object" "__setattr__" (.ref x) [.str name s.toks,v] [] _ SF.kind SF.split sub (SF.args _ _ _) ?_);have tN:pH (aS prog w) s.heap (mroOf (.ref C)) cd.mro:=(looks_clsIn X hc).andThen .now;rw[osa_eq,refuse_eq];refine aL (aL (tq (s:={ s with toks:=s.toks+1 }) I.type (aL (tq (s:={ s with toks:=s.toks+1 }) tN ?_))));rw[Tq _ hm.1];refine bH (aL (tq (s:={ s with toks:=s.toks+1 }) I.type (aL (tq (s:={ s with toks:=s.toks+1 }) (ig X q2) (aL (bH ?_))))));obtain⟨hx,hcl,hn,hdx⟩:=I;obtain⟨oc,odi,oda,osl⟩:=ox;dsimp only at hcl;subst hcl;have hdn:odi=aD:=by
  cases odi with
  |none=>rfl|some d=>exact hdx.elim
 subst hdn;have tO:x≠s.heap.objs.size:=bU (cU hx);have hx1:(s.heap.push { cls:=.type "dict",data:=.dict #[] }).get? x=_:=dH _ hx;refine aL (bH (aL (aL (MA hx (aL (tq (s:={ s with toks:=s.toks+1 }) (looks_clsIn X hc) ?_))))));rw[hm.2];have re:∀{α:Type}{a b:Sem α}{Q:α->aG->Prop}{E:Value->aG->Prop}{s:aG}{M:jH}{A:bS},a=b->aO M A b Q E s->aO M A a Q E s:=λh w=>h▸w;refine re (b:=do
   let d <- alloc { cls:=.type "dict",data:=.dict #[] }
   update x λo=>{ o with dict:=aA d }
   dictMade (.ref C) x d) (by cases oda<;>first|rfl|(exact absurd hn dG)) ?_
 refine aL (wpAny_alloc' (aL (wpAny_update' hx1 (bH ?_))));have hgd:((s.heap.push { cls:=.type "dict",data:=.dict #[] }).update x λo=>{ o with dict:=aA s.heap.objs.size }).get? s.heap.objs.size=aA { cls:=.type "dict",data:=.dict #[] }:=
  (Cw _ _ _ _ tO.symm).trans (HU rfl rfl)
 have hnd:((s.heap.push { cls:=.type "dict",data:=.dict #[] }).update x λo=>{ o with dict:=aA s.heap.objs.size }).Ns s.heap.objs.size (λ_=>aD):=⟨_,#[],_,hgd,rfl,λe he=>absurd he (by simp),λ_=>rfl⟩;show aO _ _ (storeInDict s.heap.objs.size (.str name s.toks) name v) _ _ _;unfold storeInDict newKeyGuard;refine aL (bH (aL (wpAny_nsSet1 (Heap.Ns1.of_empty hnd) λh' hn' hs=>?_)));obtain⟨oD,esD,epD,hoD,hdD,hcD⟩:=hn'.count (Within.cons name v Within.nil);refine aL (wpAny_lookBehind hoD (by rw[hdD];exact pastItsLine_dict (eN hcD (by rw[hJ,sx,iB];omega))) ?_);refine bH (h h' ((hs.2 x tO).trans (rm _ hx1 ?_)) hn' λb o nb hb=>(hs.2 b (bU (cU hb))).trans ((Cw _ _ _ _ nb).trans (dH _ hb)));have hfr:=(Heap.get?_some_iff.mp hx).2;cases oda<;>first|rfl|exact hfr
theorem aIv{od:Obj}{expr:Bool}{Q:Value->aG->Prop}(X:K.In s.heap)(I:InstAt s.heap x ox C (aA od))(q:lA K C name=aB)(hl:lookIn name od=aA (aA v))(hv:handedIn v=aB)(h:Q v { s with toks:=s.toks+1 }) :
  aO (aS prog w) A (getAttr (.ref x) name expr) Q E s:=by
 simp only[lA,aY,beq_iff_eq]at q;obtain⟨⟨⟨⟨⟨⟨q1,q2⟩,q3⟩,q4⟩,q5⟩,q6⟩,q7⟩:=q;have hh:hasDictIn K C=aB:=by obtain⟨cd,hc,hm⟩:=any_some q1;rw[aY]at hm;unfold hasDictIn;rw[hc];exact hm.2
 have L0:∀M,pH M s.heap (uW (.ref x)) (.ref C):=λM=>I.type;have hf:=looks_find (M:=aS prog w) X I (findObj_own hh q2 rfl hl);obtain⟨hp,g,d,t,os⟩:=s;have L1:=ig (M:=aS prog w) X q5;have L2:=ig (M:=aS prog w) X q6;unfold getAttr getAttrBy;refine aL (MB (kG (aL ((L0 _).at (aL (L1.at ?_))))));show aO _ _ (Ej _ _ _ _ _ _) _ _ _;unfold Ej;refine aL (show aO _ _ (Es (.ref C) "__getattr__") _ _ _ from L2.at ?_);refine aL (ur (kG ?_));unfold callGetattribute;rw[if_neg (by rw[show onTheHeap (.builtin "BaseException.__getattribute__")=aF from rfl,Bool.and_false];exact dG)];unfold Pl;rw[PySem.F.excAttr_ValueError.ga.bind (.ref x)];refine aL (bH (ba (Eh PySem.F.excAttr_ValueError.ga.plain HN (GK X L0 q7 ?_))));unfold Builtin.«object.__getattribute__»;refine aL (bH (aL (bH (aL ((L0 _).at (aL (hf.at ?_)))))));refine bH ?_;dsimp only;rw[handedOut_of hv];exact bH h
end
end PySem.W
namespace L2
open PySem PySem.Spec PyProof.Rows
def kB(a C:Addr)(dx:Option Addr)(h:aQ):Prop:=∃t,h.get? a=aA { cls:=.ref C,dict:=dx,data:=.fields #[.ref t,.none,.none,.none,.bool aF,.none] }
theorem GP{P:bG}{w:bD}{H:Hp}{h:aQ}{a C:Addr}{dx:Option Addr}(x:kB a C dx h):eZ P w H h a (.ext (kB a C dx)):=
 ⟨x,let ⟨_,e⟩:=x;⟨_,e⟩,λ_ _ ⟨t,e⟩ k=>⟨t,k _ e⟩⟩
def Kz(K:aX)(nm:Str):Sp:=λvs H Q _=>∃a C i,vs=[.ref a,.int i]/\H a=aA (.ext (kB a C aD))/\W.lA K C nm=aB /\
 ∀d od,H d=aD->d≠a->Q .aK (aZ (aZ H a (.ext (kB a C (aA d)))) d (.dX od (.xd [(nm,.int i)])))
section
variable {X:Cx}{pins:List (Addr×Obj)}{σ:St}{H:Hp}{s:aG}{a C:Addr}{nm:Str}{i:Int}{u:Value}
theorem aJd{A:bS}{E:Value->aG->Prop}{Q:Unit->aG->Prop}(I:Inv X pins σ H s)(e:H a=aA (.ext (kB a C aD)))(q:W.lA X.K C nm=aB)(r:RelV (.int i) u)
  (h:∀d od s',H d=aD->d≠a->Inv X pins σ (aZ (aZ H a (.ext (kB a C (aA d)))) d (.dX od (.xd [(nm,.int i)]))) s'->Q () s'):aO (aS X.prog X.w) A (setAttr (.ref a) nm u) Q E s:=by
 obtain⟨⟨t,ha⟩,_,_⟩:=(show eZ X.prog X.w H s.heap a (.ext (kB a C aD)) from I.aR a _ e);have hd:=I.aR.fresh (cB s.heap.objs.size);have hne:s.heap.objs.size≠a:=λz=>by rw[z,e]at hd;cases hd
 refine W.aIu I.fW ⟨ha,rfl,rfl,trivial⟩ q λh' h1 h2 h3=>?_;obtain⟨od,es,ep,g1,g2⟩:=id h2;have up:(s.heap.update a λo=>{ o with dict:=aA s.heap.objs.size }).get? a=aA { cls:=.ref C,dict:=aA s.heap.objs.size,data:=.fields #[.ref t,.none,.none,.none,.bool aF,.none] }:=rm _ ha rfl;have I1:=I.write (x:=a) (e:=a) (o:=.ext (kB a C (aA s.heap.objs.size))) (h':=s.heap.update a λo=>{ o with dict:=aA s.heap.objs.size }) (t':=s.toks) (by rw[e];exact dJ) (.inl rfl)
  (λb v nb z=>(Cw _ _ _ _ nb).trans z) ⟨_,up⟩ (GP ⟨t,up⟩)
 refine h s.heap.objs.size od _ hd hne (I1.laid (a:=s.heap.objs.size) (h':=h') (t':=s.toks+2) (λb v z=>?_) (by simp[Heap.update]) ⟨g1,_,h2,λf=>?_⟩)
 .by_cases hb:b=a
  .subst hb;rw[up]at z;cases z;exact h1
  .rw[Cw _ _ _ _ hb]at z;exact h3 b v hb z
 .show lZ (Ob f [(nm,V.int i)]) (if f=nm then aA u else aD);by_cases hf:f=nm
  .rw[if_pos hf,gR,beq_iff_eq.mpr hf];exact r
  .rw[if_neg hf,gR,beq_eq_false_iff_ne.mpr hf];exact dJ
def aAh(K:aX)(ta tv:TE)(nm:Str):TS:=λD σ H=>tv σ H λy H1=>ta σ H1 λx H2=>∃a C i,y = .int i/\x = .ref a/\H2 a=aA (.ext (kB a C aD))/\W.lA K C nm=aB /\
 ∀d od,H2 d=aD->d≠a->D.nx σ (aZ (aZ H2 a (.ext (kB a C (aA d)))) d (.dX od (.xd [(nm,.int i)])))
theorem D6{o value:aJ}{ta tv:TE}{pos pos':Pos}(ha:PE X o ta)(hv:PE X value tv)(hs:ax value (aA (.Attribute o nm pos')) pos.line X.env=pure aF):PS X (.Assign [.Attribute o nm pos'] value pos) (aAh X.K ta tv nm):=by intro pins s σ H D I h;refine aMm (bM (hv pins s σ H _ I h) λu s1 ⟨y,H1,I1,ry,q⟩=>bM (ha pins s1 σ H1 _ I1 q) λov s2 ⟨x,H2,I2,rx,a,C,i,ey,ex,ea,c,q2⟩=>?_) hs;subst ex;subst ey;obtain rfl:ov=eX a:=rx;exact aJd I2 ea c ry λd od s' h1 h2 I3=>⟨σ,_,I3,q2 d od h1 h2⟩
def wM(H:Hp)(a:Addr):Hp:=λb=>if b=a then aD else H b
theorem Inv.aEx{φ:aQ->Prop}(I:Inv X pins σ H s)(e:H a=aA (.ext φ)):Inv X pins σ (wM H a) s:=by
 have ne:∀{b:Addr}{o:HO},H b=aA o->(∀ψ,o ≠ .ext ψ)->b≠a:=λ{b o} z n y=>by rw[y,e]at z;cases z;exact n _ rfl
 have un:∀{b:Addr},H b=aD->wM H a b=aD:=λ{b} z=>by unfold wM;split<;>first|rfl|exact z
 have kp:∀{b:Addr}{o:HO},H b=aA o->(∀ψ,o ≠ .ext ψ)->wM H a b=aA o:=λ{b o} z n=>by unfold wM;rw[if_neg (ne z n)];exact z
 refine⟨I.ok,I.os,I.bare,⟨I.base.keep,I.base.slot,λb o z n x=>un (I.base.free b o z n x),I.base.there,λb xs z=>kp (I.base.lT b xs z) (by intro ψ y;cases y),λb o v z=>kp (I.base.kO b o v z) (by intro ψ y;cases y),λb ps z=>?_⟩,I.loc,I.cell,un I.free,λy c z=>un (I.iW y c z),λp hp=>?_,λb o z=>?_,I.len⟩
 .obtain⟨m,z⟩:=I.base.lR b ps z;exact⟨m,kp z (by intro ψ y;cases y)⟩
 .obtain⟨h1,h2,h3⟩:=I.pin p hp;exact⟨h1,un h2,h3⟩
 .have z':H b=aA o:=by
   unfold wM at z;split at z
   .cases z
   .exact z
  exact(I.aR b o z').mP (λ_ _ _ q=>q) (λc q=>kp q (by intro ψ y;cases y)) λc xs q=>kp q (by intro ψ y;cases y)
end
def wU(K:aX)(C f:Addr)(bmB:List Value)(newId:String):Bool:=(match K.lookup C with
 |some ⟨.type "type",_,.cls cd,sl⟩=>(match cd.mro,sl.toList with
  |.ref C'::bm,[_,_,_,_,aA (.builtin n),_]=>C'==C&&n==newId && !cd.hasDel&&W.tailIn K bmB bm&&W.nsOkIn K cd.ns&&gS K cd.ns "__init__"==aA (aA (.ref f))
  |_,_=>aF)
 |_=>aF)&&W.isFn K (.ref f)
theorem ZW{K:aX}{h:aQ}{N:Addr}{m:Str->Option Value}{n:Str}{v:Value}(X:K.In h)(G:h.Ns N m)(e:gS K N n=aA (aA v)):m n=aA v:=by
 obtain⟨o,es,ep,ho,hd,_,hf⟩:=G;unfold gS at e;split at e
 .rename_i q;have:=X _ _ q;rw[ho]at this;cases this;cases hd;split at e
  .rename_i he;cases e;rw[<- hf];unfold nsFind findBy;rw[<- GU,he];rfl
  .split at e<;>cases e
 .cases e
theorem aJc{K:aX}{h₀:aQ}{C f:Addr}{bmB:List Value}{newId:String}(X:K.In h₀)(q:wU K C f bmB newId=aB) :
  ∃bm N nm q bs kQ sn sub ab col dd k0 k1 k2 k3 k5 mN oI,h₀.get? C=aA (xJ nm q C N bs bm kQ sn sub ab col dd k0 k1 k2 k3 k5 newId)/\h₀.Ns N mN/\mN "__init__"=aA (.ref f)/\OwnTail h₀ bmB bm/\h₀.get? f=aA oI/\oI.cls = .type "function":=by
 unfold wU at q;rw[aY]at q;obtain⟨q,qf⟩:=q;have fo:∃oI,h₀.get? f=aA oI/\oI.cls = .type "function":=let ⟨o,ho,hc⟩:=Option.map_eq_some_iff.mp (show(K.lookup f).map (·.cls)=aA (.type "function") from beq_iff_eq.mp qf);⟨o,X _ _ ho,hc⟩;obtain⟨oI,hI,cI⟩:=fo;split at q
 .rename_i dd cd sl ho;split at q
  .rename_i C' bm k0 k1 k2 k3 n k5 hm hs;simp only[aY,beq_iff_eq,qG]at q;obtain⟨⟨⟨⟨⟨rfl,rfl⟩,kb⟩,ht⟩,aR⟩,hni⟩:=q;obtain⟨nm,bs,mro,ns,qn,hd,sn,sub,ab,col,del⟩:=cd;dsimp only at hm kb aR hni;subst hm kb;have hsl:sl=#[k0,k1,k2,k3,aA (.builtin n),k5]:=by obtain⟨l⟩:=sl;simp only at hs;rw[hs]
   subst hsl;have N0:h₀.Ns ns _:=.of_isNs (W.isNs_of_in X aR);exact⟨bm,ns,nm,qn,bs,hd,sn,sub,ab,col,dd,k0,k1,k2,k3,k5,_,oI,X _ _ ho,N0,ZW X N0 hni,W.tail_of_in X ht,hI,cI⟩
  .cases q
 .cases q
section
variable {prog:bG}{w:bD}{A:bS}{E:Value->aG->Prop}{h:aQ}{g:Array Cu}{dr:Drawn}{t:Nat}{os:OsState}
variable {nm q:Str}{C N fI:Addr}{bs bm bmB:List Value}{kQ:Bool}{sn:List Str}{sub:List Value}{ab:Bool}{col:Option Bool}{dd:Option Addr}{k0 k1 k2 k3 k5:Option Value}{B newId mG:String}{mN:Str->Option Value}{rest:List Value}{oI:Obj}
theorem YG{Q:Value->aG->Prop} (F:zW B newId mG bmB) (T:OwnTail h bmB bm) (hC:h.get? C=aA (xJ nm q C N bs bm kQ sn sub ab col dd k0 k1 k2 k3 k5 newId)) (hn:h.Ns N mN) (hi:mN "__init__"=aA (.ref fI)) (hfI:h.get? fI=aA oI)
  (hfc:oI.cls = .type "function") (VM:rest.length<=sizeLine)
  (hq:∀h' e,h.objs.size<=e->Cv h h' e (.ref C) rest->sN (aS prog w) (A.under (.builtin "type.__call__" ⟨.ref C::rest,[]⟩)) (.call (.ref fI) ⟨.ref e::rest,[]⟩) (λr s'=>match r with | .ok (.ret u)=>u = .none/\Q (.ref e) s' | .ok _=>False | .error x=>E x s') ⟨h',g,dr,t,os⟩) :
  aO (aS prog w) A (call (.ref C) rest) Q E ⟨h,g,dr,t,os⟩:=by
 have f1:=tc_lookup;have f2:=tc_bind (.ref C);have hT:(⟨h,g,dr,t,os⟩:aG).TypeIs (.ref C) "type":=⟨_,hC,rfl⟩;refine ba (codeAny_of_tree ?_);show aO _ _ (callAny (.ref C) _) _ _ _;repeat (any_goals (first|assumption|with_reducible refine bc hC ?_|wp_step))
 have kp:∀b o,h.get? b=aA o->((h.push { cls:=.type "tuple",data:=.seq rest.toArray }).push { cls:=.ref C,data:=.fields #[.ref h.objs.size,.none,.none,.none,.bool aF,.none] }).get? b=aA o:=λb o z=>dH _ (dH _ z);have Va:((h.push { cls:=.type "tuple",data:=.seq rest.toArray }).push { cls:=.ref C,data:=.fields #[.ref h.objs.size,.none,.none,.none,.bool aF,.none] }).get? (h.objs.size+1)=aA { cls:=.ref C,data:=.fields #[.ref h.objs.size,.none,.none,.none,.bool aF,.none] }:=by heap_get
 have hcC:(eX C::bm).contains (.ref C)=aB:=by simp
 have key:∀{Q':Fin->aG->Prop} {E':Value->aG->Prop} {A':bS},(∀h' e,h.objs.size<=e->Cv h h' e (.ref C) rest->sN (aS prog w) A' (.call (.ref fI) ⟨.ref e::rest,[]⟩) (λr s'=>match r with | .ok (.ret u)=>u = .none/\Q' (.done (.ret (.ref e))) s' | .ok _=>False | .error x=>E' x s') ⟨h',g,dr,t,os⟩) ->
   aO (aS prog w) A' (Builtin.«type.__call__» ⟨.ref C::rest,[]⟩) Q' E' ⟨h,g,dr,t,os⟩:=by
  intro Q' E' A' hq;repeat (first|with_reducible refine bc hC ?_|with_reducible refine wpAny_madeBy_exc hC ?_|wp_step)
  refine codeAny_call_builtin_code (Ng _ F.quiet) (wpAny_check_new_subT F T hC (codeAny_exc_new_subT F T hC ?_ VM));show aO _ _ _ _ _ _;unfold El;repeat (first|with_reducible refine bc Va ?_|(with_reducible refine Eu (kp _ _ hC) ?_;rw[hcC])|wp_step)
  show aO _ _ (Es (.ref C) _) _ _ _;refine wpAny_typeLookup_tail (kp _ _ hC) (hn.keeps kp) (T.keeps kp) F.mroIs F.init.lookup ?_;rw[hi];refine kG (aL ?_);unfold bindSpecial;refine aL (MJ (T:="function") ⟨_,kp _ _ hfI,hfc⟩ ?_);rw[if_pos (by decide)];refine bH (aL (ba (ak (hq _ (h.objs.size+1) (xD _) ⟨kp,Nl (xD _),h.objs.size,Va,Nl (cB _),dH _ (HU rfl rfl)⟩) λr s' z=>?_)));rcases r with x|(_|_|_|u)
  .exact z
  .exact z.elim
  .exact z.elim
  .exact z.elim
  .obtain⟨rfl,z⟩:=z;wp_walk
   exact z
 exact⟨rfl,codeAny_call_builtin_at (Ng _ (by decide +kernel)) entry_typeCall (wpAny_check_type_call_sub hC (key hq))⟩
theorem X7{s:aG}{env:Env}{x:Str}{np kL pos:Pos}{args:List aJ}{Q:Flow->aG->Prop} (F:zW B newId mG bmB) (vO:bm.contains (.type "BaseException")=aB) (hh:A.handled=aD) (Hw:(nZ kL (eY args env)).any (·.1)=aF)
  (h:aO (aS prog w) A (eval (.Name x np) env) (λf s₁=>f = .ref C/\aO (aS prog w) A (evalArgs (.ref C) aB (nZ kL (eY args env)) [])
   (λa s₂=>a.kw=[]/\s₂.heap.get? C=aA (xJ nm q C N bs bm kQ sn sub ab col dd k0 k1 k2 k3 k5 newId)/\aO (aS prog w) A (call (.ref C) a.pos) (λv s₃=>∃e t dx,v = .ref e/\s₃.heap.get? C=aA (xJ nm q C N bs bm kQ sn sub ab col dd k0 k1 k2 k3 k5 newId) /\
    s₃.heap.get? e=aA { cls:=.ref C,dict:=dx,data:=.fields #[.ref t,.none,.none,.none,.bool aF,.none] }/\E (.ref e) s₃) E s₂) E s₁) E s) :
  aO (aS prog w) A (exec (.Raise (aA (.Call (.Name x np) args [] kL)) aD pos) env) Q E s:=by
 have hcB:(eX C::bm).contains (.type "BaseException")=aB:=by rw[IC,vO,Nb]
 rw[arm_exec_Raise];refine aL (iu ?_);unfold raiseStmt;refine aL (aL (kH (Q:=λv s₃=>∃e t dx,v = .ref e/\s₃.heap.get? C=aA (xJ nm q C N bs bm kQ sn sub ab col dd k0 k1 k2 k3 k5 newId) /\
    s₃.heap.get? e=aA { cls:=.ref C,dict:=dx,data:=.fields #[.ref t,.none,.none,.none,.bool aF,.none] }/\E (.ref e) s₃) (wpAny_Call_ofName (kH h (λf s₁ h₁=>?_) λ_ _ x=>x)) (λv s₃ h₃=>aL (iu (bH ?_))) λ_ _ x=>x))
 rotate_left
 .obtain⟨e,t,dx,rfl,hC,he,hE⟩:=h₃;obtain⟨hp,g,d,tk,os⟩:=s₃;repeat (first|with_reducible refine bc he ?_|with_reducible refine bc hC ?_|(with_reducible refine Eu hC ?_;rw[hcB])|wp_step)
  exact wpAny_raiseNew_none hh hE
 obtain⟨rfl,h₁⟩:=h₁;unfold callWith;refine aL (kG (kH h₁ (λa s₂ h₂=>aL (iu ?_)) λ_ _ x=>x));obtain⟨apos,akw⟩:=a;obtain⟨hkw,hC,h₂⟩:=h₂;obtain rfl:akw=[]:=hkw;obtain⟨hp,g,d,tk,os⟩:=s₂;simp only[Hw];refine aL (wpAny_keeperOf_exc hC (aL (kH h₂ (λv s₃ h₃=>aL (kG (wpAny_point (bH h₃)))) λ_ _ z=>z)))
end
section
variable {X:Cx}{x nm:Str}{C f:Addr}{bmB:List Value}{Bn newId mG:String}{np kL pos:Pos}{e₀:aJ}{ta:TA}{E:XK}{k:Nat}{fd:eW}{ps:List Str}
def vk(X:Cx)(E:XK):Prop:=∀(pins:List (Addr×Obj)) (σ:St) (H:Hp) (s:aG) (e d:Addr) (oe:Obj) (ws:Array Value) (a0:Value),Inv X pins σ H s->s.heap.get? e=aA oe->oe.dict=aA d->oe.data = .fields ws->ws[1]?=aA .none->ws[0]?=aA a0 ->
 H e=aD->X.s₀.heap.get? e=aD->E oe.cls (aA d) H->X.xe (.ref e) s
def aDc(C:Addr)(nm:Str)(E:XK)(ta:TA):TS:=λ_ σ H=>ta σ H λvs H1=>∃i,vs=[.int i]/\∀d od,H1 d=aD->E (.ref C) (aA d) (aZ H1 d (.dX od (.xd [(nm,.int i)])))
theorem D0(hc:X.calm=aB)(hx:X.ex=[])(hg:Gl X x)(hm:X.mg x=aA (.ref C))(q:wU X.K C f bmB newId=aB)(FB:zW Bn newId mG bmB)(xa:W.lA X.K C nm=aB)
  (F:iN X.prog X.w X.K X.mg X.base (dU X.prog X.w) k f fd ps (Kz X.K nm)) (hr:fL (k+1) X.A) (hb:Binds X.K fd ps []) (hX:vk X E) (ha:PA X [e₀] ta) (hdb:(x==("__debug__":Str))=aF)
  (he:eY [e₀] X.env=(aF,eval e₀ X.env)::eY [] X.env):PS X (.Raise (aA (.Call (.Name x np) [e₀] [] kL)) aD pos) (aDc C nm E ta):=by
 intro pins s σ H D I h;obtain⟨bm,N,cn,qn,bs,kQ,sn,sub,ab,col,dd,k0,k1,k2,k3,k5,mN,oI,hC,hN,hi,TL,hfI,hfc⟩:=aJc I.mod.kl q;refine X7 (C:=C) (nm:=cn) (q:=qn) (N:=N) (bs:=bs) (bm:=bm) (kQ:=kQ) (sn:=sn) (sub:=sub) (ab:=ab) (col:=col) (dd:=dd) (k0:=k0) (k1:=k1) (k2:=k2) (k3:=k3) (k5:=k5) FB (TL.hasType FB.hasBase) (I.ok.hd hc)
  (by rw[he];rfl) (da I hg hm ⟨rfl,?_⟩ hdb)
 have h2:=ha kL pins s σ H _ I h;rw[he]at h2 ⊢;refine HI (kH h2 (λus s2 ⟨vs,H1,I1,r,i,ev,z⟩=>⟨rfl,I1.bk _ _ hC,?_⟩) λ_ _ y=>y);subst ev;obtain⟨u,rfl,ru⟩:∃u,us=[u]/\RelV (.int i) u:=by
  cases r with
  |cons p t=>cases t;exact⟨_,rfl,p⟩
 refine YG FB (TL.keeps I1.bk) (I1.bk _ _ hC) (hN.keeps I1.bk) hi (I1.bk _ _ hfI) hfc (show 1<=sizeLine by decide) λh' e le m=>?_;obtain⟨t,het,_,_⟩:=m.there;have n1:H1 e=aD:=(I1.Jh hx m.new).1;have I2:=I1.laid (a:=e) (o:=.ext (kB e C aD)) (h':=h') (t':=s2.toks) m.keeps le (GP ⟨t,het⟩);have hl:([eX e,u]++[]).length=ps.length:=(F.len [.ref e,.int i] (aZ H1 e (.ext (kB e C aD))) (λ_ _=>True) (λ_ _ _=>True) ⟨e,C,i,rfl,gY,xa,λ_ _ _ _=>trivial⟩);have hb':=hb { s2 with heap:=h' } [.ref e,u] I2.fW hl;rw[iS]at hb';refine ak (F.run _ X.stack { s2 with heap:=h' } _ ⟨[.ref e,u],[]⟩ [.ref e,u] [.ref e,.int i] (λv H'=>v = .aK/\∃d od,H'=aZ (aZ (aZ H1 e (.ext (kB e C aD))) e (.ext (kB e C (aA d)))) d (.dX od (.xd [(nm,.int i)]))/\aZ H1 e (.ext (kB e C aD)) d=aD/\d≠e) E0
  (hr.make C [u] []) (I2.Gy.make C [u] []) hb' (.cons rfl (.cons ru .nil)) ⟨e,C,i,rfl,gY,xa,λd od h1 h2=>⟨rfl,d,od,rfl,h1,h2⟩⟩) λr s' hq=>?_
 cases r with
 |error y=>exact(wg hq).elim|ok fl=>
  cases fl with
  |next=>exact jT hq|brk=>exact jT hq|cont=>exact jT hq|ret u'=>
   obtain⟨v,H3,I3,rv,ev,d,od,e3,nd,ne⟩:=I2.after hq;subst ev;have hd1:H1 d=aD:=by rw[bW ne]at nd;exact nd
   have h3:H3 e=aA (.ext (kB e C (aA d))):=by rw[e3,bW (kE ne),gY]
   obtain⟨⟨t3,he3⟩,_,_⟩:=(show eZ X.prog X.w H3 s'.heap e (.ext (kB e C (aA d))) from I3.aR e _ h3);have I4:=I3.aEx h3;have hH:wM H3 e=aZ H1 d (.dX od (.xd [(nm,.int i)])):=funext λb=>by
    unfold wM;rw[e3];by_cases hb:b=e
    .rw[if_pos hb,hb,bW (kE ne)];exact n1.symm
    .rw[if_neg hb];by_cases hbd:b=d
     .rw[hbd,gY,gY]
     .rw[bW hbd,bW hbd,bW hb,bW hb]
   rw[hH]at I4;exact⟨rv,e,t3,aA d,rfl,I3.bk _ _ hC,he3,hX pins σ _ s' e d _ _ _ I4 he3 rfl rfl rfl rfl (by rw[bW (kE ne)];exact n1) (I1.Jh hx m.new).2 (z d od hd1)⟩
end
theorem X8{P:bG}{w:bD}{K:aX}{mg:Str->Option Value}{base:aQ}{N:List Str}{qual:Str}{scope:eU}{f:Addr}{cd:Value}{A:bS}{outer:List Env}{s:aG}{H:Hp}{E:XK} :
 vk (pS (dU P w) P w K mg base N qual scope f cd A outer s H E) E:=λpins σ H1 s1 e d oe ws a0 I he hd hdt h1 h0 n1 n2 q=>Uc I rfl rfl rfl he rfl hdt h1 h0 (λk z=>⟨oe,he,hd.trans z⟩) n1 n2 q
section
variable {X:Cx}{e:aJ}{ta:TE}{nm:Str}{pos:Pos}
def aDi(K:aX)(ta:TE)(nm:Str):TE:=λσ H Q=>ta σ H λx H1=>∃a C d od i,x = .ref a/\H1 a=aA (.ext (lB a (.ref C) (aA d)))/\H1 d=aA (.dX od (.xd [(nm,.int i)]))/\W.lA K C nm=aB/\Q (.int i) H1
theorem A2(he:PE X e ta)(hb:Eg e nm X.env (eval e X.env)=eval e X.env):PE X (.Attribute e nm pos) (aDi X.K ta nm):=by intro pins s σ H Q I h;refine MY hb (bM (he pins s σ H _ I h) λu s1 ⟨x,H1,I1,rx,a,C,d,od,i,ex,ea,ed,q,z⟩=>?_);subst ex;obtain rfl:u=eX a:=rx;obtain⟨⟨ob,h1,h2,⟨ws,h3⟩,h4⟩,_,_⟩:=(show eZ X.prog X.w H1 s1.heap a (.ext (lB a (.ref C) (aA d))) from I1.aR a _ ea);obtain⟨g1,mA,hN,hr⟩:=(show eZ X.prog X.w H1 s1.heap d (.dX od (.xd [(nm,.int i)])) from I1.aR d _ ed);obtain⟨od',g2,hl⟩:=YB hN;rw[g1]at g2;cases g2;obtain⟨v,hv,rv⟩:=lZ.some_of (v:=.int i) (o:=mA nm) (by have:=hr nm;rw[gR,beq_iff_eq.mpr rfl]at this;exact this);have kQ:ob.dict=aA d:=h4 d rfl;refine W.aIv I1.fW (od:=od) (ox:=ob) ⟨h1,h2,by unfold W.notCls;rw[h3],by rw[kQ];exact g1⟩ q (by rw[hl,hv]) (UR rv) ⟨.int i,H1,I1.tok _,rv,z⟩
end
end L2
namespace AM
open PySem PySem.Spec PyProof.Rows L2
def vS(K:aX)(H:Hp)(y:V):Prop:=kM y=aB\/∃a ys,y = .ref a/\dE K H a ys
section
variable {X:Cx}{pins:List (Addr×Obj)}{σ:L2.St}{H:Hp}{s:aG}
theorem ZH(I:Inv X pins σ H s){A:bS}(hu:A.units<cLine){u:Str}{t:Tok}{y:V}{w:Value}(r:RelV y w)(m:vS X.K H y):ie A s w (.str u t) (fB (.str u) w):=by
 rcases m with f|⟨a,ys,rfl,hq⟩
 .rw[xb r f];exact Ha r (x:=.str u) ⟨t,rfl⟩ f rfl
 .obtain⟨us,_,p⟩:=oZ I hq;cases r;exact SeqAt.EqAt.tuple_str u t p hu
theorem Yd{u:Str}{y:V}{w:Value}(r:RelV y w)(m:vS X.K H y):fB (.str u) w=jV y (.str u):=by
 rcases m with f|⟨a,ys,rfl,hq⟩
 .exact xb r f
 .cases r;rfl
theorem yo(I:Inv X pins σ H s){A:bS}(hu:A.units<cLine){u:Str}{t:Tok}:∀{xs:List V}{us:List Value},Vals xs us->(∀z∈xs,vS X.K H z)->∀w∈us,ie A s w (.str u t) (fB (.str u) w)
 |_,_,.nil,_=>λw hw=>by cases hw
 |y::xs,w::us,.cons r q,f=>λw' hw=>by
  rcases List.mem_cons.mp hw with rfl|hw
  .exact ZH I hu r (f _ (fU ..))
  .exact yo I hu q (λz hz=>f z (hV _ hz)) w' hw
theorem Je{u:Str}:∀{xs:List V}{us:List Value},Vals xs us->(∀z∈xs,vS X.K H z)->us.any (fB (.str u))=tP (.str u) xs
 |_,_,.nil,_=>rfl|y::xs,w::us,.cons r q,f=>by have ih:=Je (u:=u) q (λz hz=>f z (hV _ hz));unfold tP at ih ⊢;rw[kC,kC,Yd r (f _ (fU ..)),ih]
def W7(K:aX):R2:=λx y H Q=>∃p xs u,y = .ref p/\(cW K H p xs\/dE K H p xs)/\x = .str u/\(∀z∈xs,vS K H z)/\Q (.bl (tP (.str u) xs)) H
theorem d4(hu:X.A.units+1<cLine):cK X (dM .In) (W7 X.K):=by
 intro pins s σ H x y v u Q I rx ry h;obtain⟨p,xs,z,rfl,hq,rfl,fs,q⟩:=h;cases ry;obtain⟨t,rfl⟩:=rx;rcases hq with hq|hq
 .obtain⟨its,r,pl,hz⟩:=I.list hq;refine KZ (fB (.str z)) pl.isList (λw hw=>yo I (A:=X.A.in1) hu r fs w (by simpa using hw)) ⟨.bl _,H,I,rfl,?_⟩;rw[show its.toArray.any (fB (.str z))=its.any (fB (.str z)) by simp,Je r fs];exact q
 .obtain⟨its,r,pl,hz⟩:=I.tuple hq;refine LA (fB (.str z)) pl (λw hw=>yo I (A:=X.A.in1) hu r fs w (by simpa using hw)) ⟨.bl _,H,I,rfl,?_⟩;rw[show its.toArray.any (fB (.str z))=its.any (fB (.str z)) by simp,Je r fs];exact q
def X0(K:aX):R2:=λx y H Q=>∃a ys u,x = .ref a/\dE K H a ys/\y = .str u/\Q (.bl aB) H
theorem i6(hu:X.A.units<cLine):cK X (dM .NotEq) (X0 X.K):=by intro pins s σ H x y v u Q I rx ry h;obtain⟨a,ys,z,rfl,hq,rfl,q⟩:=h;cases rx;obtain⟨t,rfl⟩:=ry;obtain⟨us,_,p⟩:=oZ I hq;exact SeqAt.RcNeAt.tuple_str z t p hu _ _ _ _ ⟨.bl aB,H,I,rfl,q⟩
theorem EU:∀{xs:List V}{us:List Value}{j:Nat}{w:Value},Vals xs us->us[j]?=aA w->∃y,xs[j]?=aA y/\RelV y w
 |_,_,_,_,.nil,e=>by simp at e
 |y::xs,u::us,0,w,.cons r _,e=>by
  have:u=w:=by simpa using e
  subst this;exact⟨y,rfl,r⟩
 |y::xs,u::us,j+1,w,.cons _ q,e=>by obtain⟨y',e1,r1⟩:=EU (j:=j) q (by simpa using e);exact⟨y',by simpa using e1,r1⟩
def BF(K:aX):V->List V->Hp->VK->Prop:=λx vs H Q=>∃(a:Addr) (xs:List V) (u:Str) (j:Nat),x = .ref a/\cW K H a xs/\vs=[.str u]/\(∀z∈xs,vS K H z)/\xs.findIdx? (λy=>jV y (.str u))=aA j/\Q (.int (j:Nat)) H
theorem YW(hu:X.A.units+1<cLine):vd X "list.index" (BF X.K):=by
 intro pins s σ H x vs v us Q I rx rv h;obtain⟨a,xs,u,j,rfl,hq,rfl,fs,hj,q⟩:=h;cases rx;obtain⟨v,rfl,t,rfl⟩:=kX rv;obtain⟨its,r,pl,hz⟩:=I.list hq;obtain⟨⟨cls,dd,data,sl⟩,ho,hc,n,hd⟩:=id pl.isList;simp only at hc hd;subst hc hd;rw[IK]at hj;obtain⟨hl,h1,h2⟩:=hj;have hlen:its.length=xs.length:=r.length.symm;have get:∀(m:Nat) (hm:m<xs.length),fB (.str u) (its[m]'(by omega))=jV xs[m] (.str u):=λm hm=>by
  obtain⟨y,e1,r1⟩:=EU (j:=m) (w:=its[m]'(by omega)) r (cZ _);have e2:xs[m]=y:=by rw[cZ hm]at e1;exact dB e1
  rw[Yd r1 (fs y (by rw[<- e2];exact aa hm)),e2]
 refine xH KD ⟨_,ho,rfl⟩ aLd (aLa _ _)
  (SeqAt.list_indexAt a its.toArray n dd sl (.str u t) (fB (.str u)) j (by simp only[eM];omega) ?_ ?_ ?_) ⟨ho,λy hy=>yo I (A:=X.A.in1) hu r fs y (by simpa using hy),.int _,H,I.tok _,⟨_,rfl⟩,q⟩
 .have hb:sizeLine<2 ^ 62:=by decide
  have hx:xs.length<=sizeLine:=by first|exact hz|(rw[<- hlen];exact hz)|(rw[r.length];exact hz)|(simpa[hlen]using hz)
  omega
 .show fB (.str u) (its[j]'(by omega))=aB;rw[get j hl];exact h1
 .intro m hm hlt;show fB (.str u) (its[m]'(by simpa using hm))=aF;rw[get m (by omega)];exact Bool.eq_false_iff.mpr (by simpa using h2 m hlt)
end
inductive AV where
 |aK|bl (b:Bool)|int (i:Int)|str (x:Str)|tup (xs:List AV)|ref (n:Nat)|pV (aE:List (Str×Int))
 deriving Inhabited
inductive gN where
 |lst (mu:Bool) (xs:List AV)
 |bQ (aE:List (aU×AV))
 |ins (c:Nat) (fs:List (Str×AV))
 |xo (c:Nat)
def gN.mu:gN->Bool
 |.lst m _=>m
 |_=>aB
structure AH where
 nx:Nat
 ob:Nat->Option gN
def AH.put(h:AH)(n:Nat)(o:gN):AH:=⟨h.nx,λm=>if m=n then aA o else h.ob m⟩
def AH.new(h:AH)(o:gN):AH:=⟨h.nx+1,λm=>if m=h.nx then aA o else h.ob m⟩
inductive Res(α:Type) where
 |ok (a:α) (h:AH)
 |exc (c:Nat) (x:AV) (h:AH)
 |bad
abbrev M(α:Type):=AH->Res α
def M.ret{α:Type}(a:α):M α:=λh=>.ok a h
def M.bad{α:Type}:M α:=λ_=>.bad
def M.bind{α β:Type}(m:M α)(k:α->M β):M β:=λh=>match m h with
 |.ok a h'=>k a h'
 |.exc c x h'=>.exc c x h'
 |.bad=>.bad
def M.guard{α:Type}(p:Prop) [Decidable p] (m:M α):M α:=λh=>if p then m h else .bad
structure Tab where
 K:aX
 G:List (Str×Int)->Addr->Prop
 C:Nat->Option Addr
mutual
inductive aT(T:Tab)(ρ:List Addr)(H:Hp):AV->V->Prop where
 |aK:aT T ρ H .aK .aK
 |bl (b:Bool):aT T ρ H (.bl b) (.bl b)
 |int (i:Int):aT T ρ H (.int i) (.int i)
 |str (x:Str):aT T ρ H (.str x) (.str x)
 |tup {a:Addr}{xs:List AV}{ys:List V} (hq:dE T.K H a ys) (hr:bB T ρ H xs ys):aT T ρ H (.tup xs) (.ref a)
 |ref {n:Nat}{a:Addr} (e:ρ[n]?=aA a):aT T ρ H (.ref n) (.ref a)
 |pV {aE:List (Str×Int)}{a:Addr} (e:T.G aE a):aT T ρ H (.pV aE) (.ref a)
inductive bB(T:Tab)(ρ:List Addr)(H:Hp):List AV->List V->Prop where
 |nil:bB T ρ H [] []
 |cons {x:AV}{y:V}{xs:List AV}{ys:List V} (h:aT T ρ H x y) (hs:bB T ρ H xs ys):bB T ρ H (x::xs) (y::ys)
end
structure Ext(ρ:List Addr)(H:Hp)(ρ':List Addr)(H':Hp):Prop where
 pre:∀(n:Nat) a,ρ[n]?=aA a->ρ'[n]?=aA a
 tup:∀b xs,H b=aA (.tup xs)->H' b=aA (.tup xs)
 dX:∀b o u,H b=aA (.dX o u)->H' b=aA (.dX o u)
theorem Ext.refl{ρ:List Addr}{H:Hp}:Ext ρ H ρ H:=⟨λ_ _ e=>e,λ_ _ e=>e,λ_ _ _ e=>e⟩
theorem Ext.trans{ρ ρ1 ρ2:List Addr}{H H1 H2:Hp}(a:Ext ρ H ρ1 H1)(b:Ext ρ1 H1 ρ2 H2):Ext ρ H ρ2 H2:=
 ⟨λn x e=>b.pre n x (a.pre n x e),λn x e=>b.tup n x (a.tup n x e),λn x u e=>b.dX n x u (a.dX n x u e)⟩
theorem Ext.Le{K:aX}{ρ ρ':List Addr}{H H':Hp}(e:Ext ρ H ρ' H'){a:Addr}{xs:List V}(h:dE K H a xs):dE K H' a xs:=by
 rcases h with(h|⟨o,h⟩)|h
 .exact .inl (.inl (e.tup _ _ h))
 .exact .inl (.inr ⟨o,e.dX _ _ _ h⟩)
 .exact .inr h
mutual
theorem aT.ext{T:Tab}{ρ ρ':List Addr}{H H':Hp}(e:Ext ρ H ρ' H'):∀{x:AV}{y:V},aT T ρ H x y->aT T ρ' H' x y
 |_,_,.aK=>.aK
 |_,_,.bl b=>.bl b
 |_,_,.int i=>.int i
 |_,_,.str x=>.str x
 |_,_,.tup hq hr=>.tup (e.Le hq) (bB.ext e hr)
 |_,_,.ref q=>.ref (e.pre _ _ q)
 |_,_,.pV q=>.pV q
theorem bB.ext{T:Tab}{ρ ρ':List Addr}{H H':Hp}(e:Ext ρ H ρ' H'):∀{xs:List AV}{ys:List V},bB T ρ H xs ys->bB T ρ' H' xs ys
 |_,_,.nil=>.nil
 |_,_,.cons h hs=>.cons (aT.ext e h) (bB.ext e hs)
end
theorem bB.length{T:Tab}{ρ:List Addr}{H:Hp}:∀{xs:List AV}{ys:List V},bB T ρ H xs ys->xs.length=ys.length
 |_,_,.nil=>rfl|_,_,.cons _ hs=>congrArg (·+1) hs.length
theorem bB.get{T:Tab}{ρ:List Addr}{H:Hp}:∀{xs:List AV}{ys:List V}{i:Nat}{x:AV},bB T ρ H xs ys->xs[i]?=aA x->∃y,ys[i]?=aA y/\aT T ρ H x y
 |_,_,_,_,.nil,e=>by simp at e
 |_,_,0,_,.cons h _,e=>by simp at e;subst e;exact⟨_,rfl,h⟩
 |_,_,i+1,x,.cons _ hs,e=>by obtain⟨y,h1,h2⟩:=bB.get (i:=i) (x:=x) hs (by simpa using e);exact⟨y,by simpa using h1,h2⟩
theorem bB.append{T:Tab}{ρ:List Addr}{H:Hp}:∀{xs zs:List AV}{ys ws:List V},bB T ρ H xs ys->bB T ρ H zs ws->bB T ρ H (xs++zs) (ys++ws)
 |_,_,_,_,.nil,s=>s
 |_,_,_,_,.cons h hs,s=>.cons h (bB.append hs s)
theorem bB.set{T:Tab}{ρ:List Addr}{H:Hp}{x:AV}{y:V}(r:aT T ρ H x y):∀{xs:List AV}{ys:List V} (i:Nat),bB T ρ H xs ys->bB T ρ H (xs.set i x) (ys.set i y)
 |_,_,_,.nil=>.nil
 |_,_,0,.cons _ t=>.cons r t
 |_,_,i+1,.cons q t=>.cons q (bB.set r i t)
theorem bB.take{T:Tab}{ρ:List Addr}{H:Hp}:∀{xs:List AV}{ys:List V} (n:Nat),bB T ρ H xs ys->bB T ρ H (xs.take n) (ys.take n)
 |_,_,0,_=>.nil
 |_,_,_+1,.nil=>.nil
 |_,_,n+1,.cons r t=>.cons r (bB.take n t)
theorem bB.drop{T:Tab}{ρ:List Addr}{H:Hp}:∀{xs:List AV}{ys:List V} (n:Nat),bB T ρ H xs ys->bB T ρ H (xs.drop n) (ys.drop n)
 |_,_,0,r=>r
 |_,_,_+1,.nil=>.nil
 |_,_,n+1,.cons _ t=>bB.drop n t
theorem bB.ints{T:Tab}{ρ:List Addr}{H:Hp}:∀(ns:List Int),bB T ρ H (ns.map AV.int) (ns.map V.int)
 |[]=>.nil
 |n::ns=>.cons (.int n) (bB.ints ns)
def sQ(K:aX)(H:Hp)(a:Addr)(xs:List V):Prop:=
 (∃o,H a=aA (.dX o (.lst xs))) \/
  ∃(o:Obj) (its:Array Value) (n:Nat),K.lookup a=aA o/\o.cls = .type "list"/\o.dict=aD/\o.data = .seq its n/\its.size<=sizeLine/\Vals xs its.toList
theorem sQ.sq{K:aX}{H:Hp}{a:Addr}{xs:List V}(h:sQ K H a xs):cW K H a xs:=by
 rcases h with h|h
 .exact .inl (.inr h)
 .exact .inr h
theorem sQ.ext{K:aX}{ρ ρ':List Addr}{H H':Hp}{a:Addr}{xs:List V}(e:Ext ρ H ρ' H')(h:sQ K H a xs):sQ K H' a xs:=by
 rcases h with⟨o,h⟩|h
 .exact .inl ⟨o,e.dX _ _ _ h⟩
 .exact .inr h
def XD(H:Hp)(dx:Option Addr)(c:Nat):Prop:=c / 64≠0->∃d od,dx=aA d/\H d=aA (.dX od (.xd [("line",.int (c / 64-1:Nat))]))
theorem XD.ext{ρ ρ':List Addr}{H H':Hp}{dx:Option Addr}{c:Nat}(x:XD H dx c)(e:Ext ρ H ρ' H'):XD H' dx c:=λz=>let ⟨d,od,h1,h2⟩:=x z;⟨d,od,h1,e.dX _ _ _ h2⟩
def sS(T:Tab)(ρ:List Addr)(H:Hp)(a:Addr):gN->Prop
 |.lst aB xs=>∃ys,H a=aA (.lst ys)/\bB T ρ H xs ys
 |.lst aF xs=>∃ys,sQ T.K H a ys/\bB T ρ H xs ys
 |.bQ aE=>∃ks ys,H a=aA (.dK (ks.zip ys))/\ks=aE.map (·.1)/\bB T ρ H (aE.map (·.2)) ys
 |.ins c fs=>∃C dx ks ys,T.C c=aA C/\H a=aA (.ins C dx (ks.zip ys))/\ks=fs.map (·.1)/\bB T ρ H (fs.map (·.2)) ys
 |.xo c=>∃C dx,T.C (c%64)=aA C/\H a=aA (.ext (lB a (.ref C) dx))/\XD H dx c
theorem sS.ext{T:Tab}{ρ ρ':List Addr}{H H':Hp}{a:Addr}{o:gN}(r:sS T ρ H a o)(e:Ext ρ H ρ' H')(k:o.mu=aB->H' a=H a):sS T ρ' H' a o:=by
 cases o with
 |lst m xs=>
  cases m with
  |true=>obtain⟨ys,h,r⟩:=r;exact⟨ys,by rw[k rfl];exact h,r.ext e⟩|false=>obtain⟨ys,h,r⟩:=r;exact⟨ys,h.ext e,r.ext e⟩
 |bQ aE=>obtain⟨ks,ys,h,e1,r⟩:=r;exact⟨ks,ys,by rw[k rfl];exact h,e1,r.ext e⟩|ins c fs=>obtain⟨C,dx,ks,ys,hc,h,e1,r⟩:=r;exact⟨C,dx,ks,ys,hc,by rw[k rfl];exact h,e1,r.ext e⟩|xo c=>obtain⟨C,dx,hc,h,x⟩:=r;exact⟨C,dx,hc,by rw[k rfl];exact h,x.ext e⟩
structure bL(T:Tab)(ρ:List Addr)(h:AH)(H:Hp):Prop where
 len:ρ.length=h.nx
 vK:∀(n:Nat) o,h.ob n=aA o->n<h.nx
 obj:∀(n:Nat) o a,h.ob n=aA o->ρ[n]?=aA a->sS T ρ H a o
 inj:∀(n m:Nat) a o u,h.ob n=aA o->h.ob m=aA u->o.mu=aB->u.mu=aB->ρ[n]?=aA a->ρ[m]?=aA a->n=m
section
variable {T:Tab}{ρ:List Addr}{h:AH}{H H':Hp}
theorem Jd{a:Addr}{o:gN}(r:sS T ρ H a o)(m:o.mu=aB):∃u,H a=aA u:=by
 cases o with
 |lst k xs=>
  cases k with
  |true=>obtain⟨ys,h,_⟩:=r;exact⟨_,h⟩|false=>cases m
 |bQ aE=>obtain⟨ks,ys,h,_⟩:=r;exact⟨_,h⟩|ins c fs=>obtain⟨C,dx,ks,ys,_,h,_⟩:=r;exact⟨_,h⟩|xo c=>obtain⟨C,_,_,h,_⟩:=r;exact⟨_,h⟩
theorem Ext.jR{a:Addr}{o:HO}(hn:H a=aD):Ext ρ H ρ (aZ H a o):=
 ⟨λ_ _ e=>e,λb xs e=>by rw[bW (gW e hn)];exact e,λb u xs e=>by rw[bW (gW e hn)];exact e⟩
theorem bL.keep(R:bL T ρ h H){a:Addr}{o:HO}(hn:H a=aD):bL T ρ h (aZ H a o):=
 ⟨R.len,R.vK,λn u b e q=>(R.obj n u b e q).ext (.jR hn) λm=>by obtain⟨w,hw⟩:=Jd (R.obj n u b e q) m;rw[bW (gW hw hn)],R.inj⟩
theorem bL.alloc(R:bL T ρ h H){a:Addr}{o:gN}{O:HO}(hn:H a=aD)(ho:sS T (ρ++[a]) (aZ H a O) a o):bL T (ρ++[a]) (h.new o) (aZ H a O)/\Ext ρ H (ρ++[a]) (aZ H a O):=by
 have ex:Ext ρ H (ρ++[a]) (aZ H a O):=⟨λn x e=>by have hl:=(List.getElem?_eq_some_iff.mp e).1;rw[uL hl];exact e,(Ext.jR (ρ:=ρ) hn).tup,(Ext.jR (ρ:=ρ) hn).dX⟩
 have old:∀{n:Nat}{b:Addr},n<h.nx->(ρ++[a])[n]?=aA b->ρ[n]?=aA b:=λ{n b} hl e=>by rw[uL (by rw[R.len];exact hl)]at e;exact e
 have at_:∀{b:Addr},(ρ++[a])[h.nx]?=aA b->b=a:=λ{b} e=>by rw[<- R.len]at e;simp at e;exact e.symm
 refine⟨⟨by simp[AH.new,R.len],λn u e=>?_,λn u b e q=>?_,λn m b u v e1 e2 m1 m2 q1 q2=>?_⟩,ex⟩
 .simp only[AH.new]at e ⊢;by_cases hx:n=h.nx
  .omega
  .rw[if_neg hx]at e;have:=R.vK n u e;omega
 .simp only[AH.new]at e;by_cases hx:n=h.nx
  .rw[if_pos hx]at e;cases e;subst hx;rw[at_ q];exact ho
  .rw[if_neg hx]at e;have q':=old (R.vK n u e) q;refine(R.obj n u b e q').ext ex λm=>?_;obtain⟨w,hw⟩:=Jd (R.obj n u b e q') m;rw[bW (gW hw hn)]
 .simp only[AH.new]at e1 e2;have no:∀{k:Nat}{y:gN},h.ob k=aA y->y.mu=aB->(ρ++[a])[k]?=aA b->b≠a:=λ{k y} e m q=>by obtain⟨w,hw⟩:=Jd (R.obj k y b e (old (R.vK k y e) q)) m;exact gW hw hn
  by_cases hx:n=h.nx
  .subst hx;by_cases hy:m=h.nx
   .exact hy.symm
   .rw[if_neg hy]at e2;exact absurd (at_ q1) (no e2 m2 q2)
  .rw[if_neg hx]at e1;by_cases hy:m=h.nx
   .subst hy;exact absurd (at_ q2) (no e1 m1 q1)
   .rw[if_neg hy]at e2;exact R.inj n m b u v e1 e2 m1 m2 (old (R.vK n u e1) q1) (old (R.vK m v e2) q2)
theorem bL.write(R:bL T ρ h H){n:Nat}{a:Addr}{o o':gN}{O O':HO}(e:h.ob n=aA o)(m:o.mu=aB)(m':o'.mu=aB)(q:ρ[n]?=aA a)(hO:H a=aA O)(nt:∀xs,O ≠ .tup xs)(nf:∀x u,O ≠ .dX x u)
  (ho:sS T ρ (aZ H a O') a o'):bL T ρ (h.put n o') (aZ H a O')/\Ext ρ H ρ (aZ H a O'):=by
 have ex:Ext ρ H ρ (aZ H a O'):=⟨λ_ _ z=>z,λb xs z=>by
   rw[bW (tS z hO λw=>nt xs w.symm)];exact z,λb x u z=>by
   rw[bW (tS z hO λw=>nf x u w.symm)];exact z⟩
 refine⟨⟨R.len,λk u z=>?_,λk u b z w=>?_,λk l b u v z1 z2 m1 m2 w1 w2=>?_⟩,ex⟩
 .simp only[AH.put]at z;by_cases hx:k=n
  .subst hx;exact R.vK _ _ e
  .rw[if_neg hx]at z;exact R.vK k u z
 .simp only[AH.put]at z;by_cases hx:k=n
  .rw[if_pos hx]at z;cases z;subst hx;rw[q]at w;cases w;exact ho
  .rw[if_neg hx]at z;refine(R.obj k u b z w).ext ex λmu=>?_;rw[bW];rintro rfl
   exact hx (R.inj k n b u o z e mu m w q)
 .simp only[AH.put]at z1 z2;have back:∀{j:Nat}{y:gN},(if j=n then aA o' else h.ob j)=aA y->y.mu=aB->∃y',h.ob j=aA y'/\y'.mu=aB:=λ{j y} z mu=>by
   by_cases hx:j=n
   .subst hx;exact⟨o,e,m⟩
   .rw[if_neg hx]at z;exact⟨y,z,mu⟩
  obtain⟨u',g1,k1⟩:=back z1 m1;obtain⟨v',g2,k2⟩:=back z2 m2;exact R.inj k l b u' v' g1 g2 k1 k2 w1 w2
end
abbrev Rl(α β:Type):=List Addr->Hp->α->β->Prop
def W{α β:Type}(T:Tab)(Rp:Rl α β)(r:Res α)(ρ:List Addr)(H:Hp)(Q:β->Hp->Prop)(E:XK):Prop:=match r with
 |.ok a h=>∀ρ' b H',Ext ρ H ρ' H'->bL T ρ' h H'->Rp ρ' H' a b->Q b H'
 |.exc c _ h=>∀ρ' H',Ext ρ H ρ' H'->bL T ρ' h H'->∃C,T.C (c%64)=aA C/\∀dx,XD H' dx c->E (.ref C) dx H'
 |.bad=>False
section
variable {T:Tab}{α β γ δ:Type}{Rp:Rl α β}{Rq:Rl γ δ}{ρ ρ':List Addr}{H H':Hp}{E:XK}{Q:β->Hp->Prop}{h:AH}
theorem W.ext{r:Res α}(w:W T Rp r ρ H Q E)(e:Ext ρ H ρ' H'):W T Rp r ρ' H' Q E:=by
 cases r with
 |ok a h=>exact λρ2 b H2 x R q=>w ρ2 b H2 (e.trans x) R q|exc c x h=>exact λρ2 H2 x R=>w ρ2 H2 (e.trans x) R|bad=>exact w
theorem W.bind{m:M α}{k:α->M γ}{Q2:δ->Hp->Prop}(w:W T Rq (M.bind m k h) ρ H Q2 E)
  (f:∀ρ1 x y h1 H1,Ext ρ H ρ1 H1->bL T ρ1 h1 H1->Rp ρ1 H1 x y->W T Rq (k x h1) ρ1 H1 Q2 E->Q y H1):W T Rp (m h) ρ H Q E:=by
 unfold M.bind at w;cases e:m h with
 |ok a h1=>rw[e]at w;exact λρ1 y H1 x R q=>f ρ1 a y h1 H1 x R q (w.ext x)
 |exc c x h1=>rw[e]at w;exact w|bad=>rw[e]at w;exact w
theorem W.ok{a:α}{b:β}(w:W T Rp (.ok a h) ρ H Q E)(e:Ext ρ H ρ' H')(R:bL T ρ' h H')(q:Rp ρ' H' a b):Q b H':=w ρ' b H' e R q
theorem W.here{a:α}{b:β}(w:W T Rp (.ok a h) ρ H Q E)(R:bL T ρ h H)(q:Rp ρ H a b):Q b H:=w ρ b H .refl R q
end
abbrev aH:=List (Option AV)
def cT(T:Tab)(ρ:List Addr)(H:Hp)(σ:aH)(σ':L2.St):Prop:=σ.length=σ'.length/\∀(i:Nat) v,σ[i]?=aA (aA v)->∃v',σ'[i]?=aA (aA v')/\aT T ρ H v v'
theorem cT.ext{T:Tab}{ρ ρ':List Addr}{H H':Hp}{σ:aH}{σ':L2.St}(S:cT T ρ H σ σ')(e:Ext ρ H ρ' H'):cT T ρ' H' σ σ':=
 ⟨S.1,λi v q=>let ⟨v',a,b⟩:=S.2 i v q;⟨v',a,b.ext e⟩⟩
theorem cT.set{T:Tab}{ρ:List Addr}{H:Hp}{σ:aH}{σ':L2.St}(S:cT T ρ H σ σ'){v:AV}{v':V}(r:aT T ρ H v v')(i:Nat):cT T ρ H (σ.set i (aA v)) (σ'.set i (aA v')):=by
 refine⟨by simp[S.1],λj u q=>?_⟩;by_cases hj:i=j
 .subst hj;by_cases hl:i<σ.length
  .rw[gu hl]at q;cases q;exact⟨v',gu (by rw[<- S.1];exact hl),r⟩
  .rw[sv (by simpa using hl)]at q;cases q
 .rw[gr hj]at q;obtain⟨w,a,b⟩:=S.2 j u q;exact⟨w,by rw[gr hj];exact a,b⟩
def QE(X:Cx)(T:Tab)(E:XK)(e:aJ)(m:aH->M AV):Prop:=
 ∃t,PE X e t/\∀ρ σ σ' h H Q,bL T ρ h H->cT T ρ H σ σ'->W T (aT T) (m σ h) ρ H Q E->t σ' H Q
def QA(X:Cx)(T:Tab)(E:XK)(es:List aJ)(m:aH->M (List AV)):Prop:=
 ∃t,PA X es t/\∀ρ σ σ' h H Q,bL T ρ h H->cT T ρ H σ σ'->W T (bB T) (m σ h) ρ H Q E->t σ' H Q
abbrev RB:Rl Bool Bool:=λ_ _ a b=>a=b
def QT(X:Cx)(T:Tab)(E:XK)(e:aJ)(m:aH->M Bool):Prop:=
 ∃t,PT X e t/\∀ρ σ σ' h H Q,bL T ρ h H->cT T ρ H σ σ'->W T RB (m σ h) ρ H Q E->t σ' H Q
def QW(X:Cx)(T:Tab)(E:XK)(e:aJ)(m:aH->M Bool):Prop:=
 ∃t,PW X e t/\∀ρ σ σ' h H Q,bL T ρ h H->cT T ρ H σ σ'->W T RB (m σ h) ρ H Q E->t σ' H Q
theorem QW.qt{X:Cx}{T:Tab}{E:XK}{e:aJ}{m:aH->M Bool}(h:QW X T E e m):QT X T E e m:=let ⟨t,a,b⟩:=h;⟨t,a.pt,b⟩
def eC(X:Cx)(T:Tab)(E:XK)(f:Value->Value->Sem Value)(g:AV->AV->M AV):Prop:=
 ∃r,cK X f r/\∀ρ h H x y x' y' Q,bL T ρ h H->aT T ρ H x x'->aT T ρ H y y'->W T (aT T) (g x y h) ρ H Q E->r x' y' H Q
def Qo(X:Cx)(T:Tab)(E:XK)(f:Value->Sem Value)(g:AV->M AV):Prop:=
 ∃r,vo X f r/\∀ρ h H x x' Q,bL T ρ h H->aT T ρ H x x'->W T (aT T) (g x h) ρ H Q E->r x' H Q
def vc(X:Cx)(T:Tab)(E:XK)(g:AV->AV->M AV):Prop:=
 ∃r,oF X r/\∀ρ h H x y x' y' Q,bL T ρ h H->aT T ρ H x x'->aT T ρ H y y'->W T (aT T) (g x y h) ρ H Q E->r x' y' H Q
def bg(X:Cx)(T:Tab)(E:XK)(f:Value)(g:List AV->M AV):Prop:=
 ∃r,jJ X f r/\∀ρ h H xs dF Q,bL T ρ h H->bB T ρ H xs dF->W T (aT T) (g xs h) ρ H Q E->r dF H Q
def rL(i j:Int):Bool:=decide (i.natAbs<2 ^ 64)||decide (j.natAbs<2 ^ 64)||(decide (i.natAbs<2 ^ 1000)&&decide (j.natAbs<2 ^ 1000))
def tD(j:Int):Bool:=decide (0<j)&&decide (j<2 ^ 1000)
def lq(i j:Int):Bool:=decide (0<=j)&&decide (j<=1000000)&&decide (i.natAbs<2 ^ 64)
def lM:AV->AV->M AV
 |.int i,.int j=>M.ret (.int (i+j))
 |.str i,.str j=>M.guard (i.length+j.length<=sizeLine) (M.ret (.str (i++j)))
 |.tup xs,.tup ys=>M.guard (xs.length+ys.length<=sizeLine) (M.ret (.tup (xs++ys)))
 |.ref n,.ref m=>λh=>match h.ob n,h.ob m with
  |some (.lst aB xs),aA (.lst aB ys)=>if xs.length+ys.length<=sizeLine then .ok (.ref h.nx) (h.new (.lst aB (xs++ys))) else .bad
  |_,_=>.bad
 |_,_=>M.bad
def lN(p:Int->Int->Bool)(f:Int->Int->Int):AV->AV->M AV
 |.int i,.int j=>λh=>if p i j=aB then .ok (.int (f i j)) h else .bad
 |_,_=>M.bad
def xm:AV->AV->M AV:=lN (λ_ _=>aB) HSub.hSub
def cq(x y:AV):M AV:=match x with
 |.str z=>match y with
  |.int k=>λh=>if z.length<=1000/\0<=k/\k<=1000/\(sM z k).length<=sizeLine then .ok (.str (sM z k)) h else .bad
  |_=>M.bad
 |.ref n=>match y with
  |.int k=>λh=>match h.ob n with
   |some (.lst aB xs)=>if 0<=k/\xs.length*k.toNat<=sizeLine/\k<2 ^ 63 then .ok (.ref h.nx) (h.new (.lst aB (cJ k.toNat xs).flatten)) else .bad
   |_=>.bad
  |_=>M.bad
 |_=>lN rL HMul.hMul x y
def Um:AV->AV->M AV:=lN (λ_ j=>tD j) HDiv.hDiv
def Us:AV->AV->M AV:=lN (λ_ j=>decide (0<j)) HMod.hMod
def Uu:AV->AV->M AV:=lN lq λi j=>i ^ j.toNat
def Uv:AV->AV->M AV:=lN lq λi j=>i*2 ^ j.toNat
def Uw:AV->AV->M AV:=lN (λ_ j=>decide (0<=j)) λi j=>i / 2 ^ j.toNat
def Ul:AV->AV->M AV:=lN (λ_ _=>aB) HE
def Ut:AV->AV->M AV:=lN (λ_ _=>aB) HF
def Ux:AV->AV->M AV:=lN (λ_ _=>aB) HG
def jq(f:Int->Int->Bool):AV->AV->M AV
 |.int i,.int j=>M.ret (.bl (f i j))
 |_,_=>M.bad
def Ur:AV->AV->M AV:=jq λi j=>decide (i<j)
def Uq:AV->AV->M AV:=jq λi j=>decide (i<=j)
def Up:AV->AV->M AV:=jq λi j=>decide (j<i)
def Uo:AV->AV->M AV:=jq λi j=>decide (j<=i)
def tE:AV->AV->Option Bool
 |.aK,.aK=>aA aB | .aK,.int _=>aA aF | .int _,.aK=>aA aF | .aK,.bl _=>aA aF | .bl _,.aK=>aA aF | .aK,.str _=>aA aF | .str _,.aK=>aA aF
 |.int i,.int j=>aA (decide (i=j)) | .bl i,.bl j=>aA (decide (i=j)) | .str i,.str j=>aA (decide (i=j))
 |.int _,.str _=>aA aF | .str _,.int _=>aA aF | .bl _,.str _=>aA aF | .str _,.bl _=>aA aF
 |_,_=>aD
def eR:AV->Bool
 |.aK=>aB | .bl _=>aB | .int _=>aB | .str _=>aB
 |_=>aF
def iT:AV->AV->Bool
 |.aK,.aK=>aB
 |.bl a,.bl b=>a==b
 |.bl a,.int b=>(if a then 1 else 0)==b
 |.int a,.bl b=>a==(if b then 1 else 0)
 |.int a,.int b=>a==b
 |.str a,.str b=>a==b
 |_,_=>aF
def gJ(h:AH):AV->Option (Bool×List AV)
 |.tup xs=>aA (aF,xs)
 |.ref n=>match h.ob n with
  |some (.lst _ xs)=>aA (aB,xs)
  |_=>aD
 |_=>aD
def oP(f:AV->AV->Option Bool):List AV->List AV->Option Bool
 |[],_=>aA aB
 |_::_,[]=>aA aB
 |x::xs,y::ys=>match f x y,oP f xs ys with
  |some a,aA b=>aA (a&&b)
  |_,_=>aD
def yr:AV->AV->Bool
 |.aK,.tup _=>aB
 |.tup _,.aK=>aB
 |_,_=>aF
def iG(h:AH):Nat->AV->AV->Option Bool
 |0,_,_=>aD
 |n+1,x,y=>if eR x=aB/\eR y=aB then aA (iT x y) else
  if yr x y=aB then aA aF else
  match gJ h x,gJ h y with
  |some (k,xs),aA (k',ys)=>if k=k' then
    if k=aB/\xs.length≠ys.length then aA aF else(oP (iG h n) xs ys).map λb=>b&&decide (xs.length=ys.length)
   else aA aF
  |_,_=>aD
def oQ(h:AH)(x y:AV):Option Bool:=match gJ h x,gJ h y with
 |some _,aA _=>iG h 12 x y
 |_,_=>aD
def js(x y:AV):M AV:=λh=>match tE x y with
 |some b=>.ok (.bl b) h
 |none=>match oQ h x y with
  |some b=>.ok (.bl b) h
  |none=>.bad
def nK:AV->Bool
 |.tup _=>aB
 |x=>eR x
def Lf:AV->Bool
 |.str _=>aB
 |_=>aF
def EJ:AV->AV->Bool
 |.tup _,.str _=>aB
 |_,_=>aF
def tK(x y:AV):M AV:=λh=>match tE x y with
 |some b=>.ok (.bl (!b)) h
 |none=>match oQ h x y with
  |some b=>.ok (.bl (!b)) h
  |none=>if EJ x y=aB then .ok (.bl aB) h else .bad
def fV:AV->Bool
 |.aK=>aB
 |_=>aF
def Hg(x y:AV):M AV:=if fV y=aB then M.ret (.bl (fV x)) else M.bad
def Hh(x y:AV):M AV:=if fV y=aB then M.ret (.bl (!fV x)) else M.bad
def jN(x:AV)(xs:List AV):Bool:=xs.any λy=>iT y x
def eD(h:AH):AV->Option (List AV)
 |.tup xs=>aA xs
 |.ref n=>match h.ob n with
  |some (.lst _ xs)=>aA xs
  |_=>aD
 |_=>aD
def iY:AV->Option aU
 |.int i=>aA (.inl i)
 |.str s=>aA (.inr s)
 |_=>aD
def fG(h:AH):AV->Option (List (aU×AV))
 |.ref n=>match h.ob n with
  |some (.bQ aE)=>aA aE
  |_=>aD
 |_=>aD
def bT(aE:List (aU×AV))(k:aU):Option AV:=(aE.find? λkv=>decide (kv.1=k)).map (·.2)
def jP(aE:List (aU×AV))(k:aU)(v:AV):List (aU×AV):=
 if(aE.any λkv=>decide (kv.1=k))=aB then aE.map (λkv=>if kv.1=k then(kv.1,v) else kv) else aE++[(k,v)]
def Ic(neg:Bool)(x y:AV):M AV:=λh=>match x,y with
 |.str a,.str b=>if neg=aB then .bad else .ok (.bl (xy a b)) h
 |_,_=>.bad
def pU(neg:Bool)(x y:AV):M AV:=λh=>match eD h y with
 |some xs=>if(eR x&&xs.all eR)=aB then .ok (.bl (if neg then !jN x xs else jN x xs)) h else
  if(!neg&&Lf x&&xs.all nK)=aB then .ok (.bl (jN x xs)) h else
  .bad
 |none=>Ic neg x y h
def jM(neg:Bool)(x y:AV):M AV:=λh=>match fG h y with
 |some aE=>match iY x with
  |some k=>.ok (.bl (if neg then !(bT aE k).isSome else(bT aE k).isSome)) h
  |none=>.bad
 |none=>pU neg x y h
def jv:AV->M AV
 |.int i=>M.ret (.int (-i))
 |_=>M.bad
def yF(x y:AV):M AV:=λh=>match y with
 |.int i=>match x with
  |.str z=>if z.length<=sizeLine then match eP z.cps.toList i with
   |some c=>.ok (.str ⟨#[c]⟩) h
   |none=>.bad
   else .bad
  |x=>match (eD h x).bind λxs=>eP xs i with
   |some v=>.ok v h
   |none=>.bad
 |_=>.bad
noncomputable abbrev Hj:=yF
def tJ(x y:AV):M AV:=λh=>match fG h x with
 |some aE=>match (iY y).bind (bT aE) with
  |some v=>.ok v h
  |none=>.bad
 |none=>Hj x y h
def fu(h:AH):AV->Option Bool
 |.aK=>aA aF
 |.bl b=>aA b
 |.int i=>aA (i != 0)
 |.str y=>if y.length<=sizeLine then aA ((y.length:Int) != 0) else aD
 |.tup xs=>aA (!xs.isEmpty)
 |.ref n=>match h.ob n with
  |some (.lst _ xs)=>aA (!xs.isEmpty)
  |some (.bQ aE)=>aA (!aE.isEmpty)
  |_=>aD
 |_=>aD
def cV(x:AV):M Bool:=λh=>match fu h x with
 |some b=>.ok b h
 |none=>.bad
section
variable {X:Cx}{T:Tab}{E:XK}(hK:X.K=T.K)
theorem cv{α β:Type}{Rp:Rl α β}{p:Prop} [Decidable p] {m:M α}{ρ:List Addr}{H:Hp}{h:AH}{Q:β->Hp->Prop}(w:W T Rp (M.guard p m h) ρ H Q E):p/\W T Rp (m h) ρ H Q E:=by
 unfold M.guard at w;by_cases hp:p
 .rw[if_pos hp]at w;exact⟨hp,w⟩
 .rw[if_neg hp]at w;exact w.elim
theorem rN{f:Value->Value->Sem Value}{C:Int->Int->Prop}{p:Int->Int->Bool}{g:Int->Int->Int}(ho:cK X f (rI C λi j=>.int (g i j)))(hc:∀i j,p i j=aB->C i j):eC X T E f (lN p g):=by
 refine⟨_,ho,λρ h H x y x' y' Q R rx ry w=>?_⟩;cases x with
 |int i=>
  cases y with
  |int j=>
   cases rx;cases ry;simp only[lN]at w;by_cases hp:p i j=aB
   .rw[if_pos hp]at w;exact⟨i,j,rfl,rfl,hc i j hp,w.here R (.int _)⟩
   .rw[if_neg hp]at w;exact w.elim
  |_=>exact w.elim
 |_=>exact w.elim
theorem yv{f:Value->Value->Sem Value}{g:Int->Int->Bool}(ho:cK X f (nU λi j=>.bl (g i j))):eC X T E f (jq g):=by
 refine⟨_,ho,λρ h H x y x' y' Q R rx ry w=>?_⟩;cases x with
 |int i=>
  cases y with
  |int j=>cases rx;cases ry;exact⟨i,j,rfl,rfl,W.here w R (.bl _)⟩
  |_=>exact w.elim
 |_=>exact w.elim
theorem Aj{f:Value->Value->Sem Value}{g:Int->Int->V}(h:cK X f (nU g)):cK X f (rI (λ_ _=>True) g):=
 λpins s σ H x y v u Q I rx ry ⟨i,j,a,b,_,q⟩=>h pins s σ H x y v u Q I rx ry ⟨i,j,a,b,q⟩
theorem t8:eC X T E (eI .Sub) xm:=rN (Aj k8) λ_ _ _=>trivial
theorem l6:eC X T E (eI .BitAnd) Ul:=rN (Aj b9) λ_ _ _=>trivial
theorem t4:eC X T E (eI .BitOr) Ut:=rN (Aj j6) λ_ _ _=>trivial
theorem t9:eC X T E (eI .BitXor) Ux:=rN (Aj k9) λ_ _ _=>trivial
theorem p8:eC X T E (eI .Mod) Us:=rN g6 λ_ _ h=>of_decide_eq_true h
theorem Zf{i j:Int}(h:lq i j=aB):Fb i j:=by simp only[lq,aY,decide_eq_true_eq]at h;exact⟨h.1.1,h.1.2,h.2⟩
theorem t5:eC X T E (eI .Pow) Uu:=rN j7 λ_ _ h=>Zf h
theorem t6:eC X T E (eI .LShift) Uv:=rN j9 λ_ _ h=>Zf h
theorem t7:eC X T E (eI .RShift) Uw:=rN k7 λ_ _ h=>of_decide_eq_true h
theorem ZE{i j:Int}(h:rL i j=aB):IntMulOk i j:=by
 simp only[rL,uK,aY,decide_eq_true_eq]at h;rcases h with(h|h)|⟨h1,h2⟩
 .exact .of_left (Ek h)
 .exact .of_right (Ek h)
 .exact .of_bits (eN (Ek h1) (by decide)) (eN (Ek h2) (by decide))
theorem g9:cK X (eI .Mult) (rI IntMulOk λi j=>.int (i*j)):=dy λ_ _ _ _ _ _ _ hc q=>mul_int q hc
theorem log2_lt{j:Int}(h:j<2 ^ 1000)(h0:0<j):j.natAbs.log2<9000:=by
 have hn:j.natAbs<2 ^ 1000:=by omega
 have:j.natAbs.log2<1000:=(JN (by omega)).mpr hn;omega
theorem c9:cK X (eI .FloorDiv) (rI (λ_ j=>0<j/\j<2 ^ 1000) λi j=>.int (i / j)):=dy λi j _ _ _ _ _ hc q=>by have h1:(0:Int)<j:=hc.1;exact floordiv_int (by omega) (by rw[HX i (by omega)];exact q) (.inl (aKb (log2_lt hc.2 hc.1)))
theorem QZ{j:Int}(h:tD j=aB):0<j/\j<2 ^ 1000:=by simp only[tD,aY,decide_eq_true_eq]at h;exact h
theorem m9:eC X T E (eI .FloorDiv) Um:=rN c9 λ_ _ h=>QZ h
theorem p7:eC X T E (dM .Lt) Ur:=yv f9
theorem p6:eC X T E (dM .LtE) Uq:=yv f7
theorem n8:eC X T E (dM .Gt) Up:=yv d3
theorem n6:eC X T E (dM .GtE) Uo:=yv d0
theorem Tn{ρ:List Addr}{H:Hp}{x y:AV}{x' y':V}{b:Bool}(rx:aT T ρ H x x')(ry:aT T ρ H y y')(e:tE x y=aA b):As x' y'=aB/\decide (x'=y')=b:=by cases rx<;>cases ry<;>simp[tE]at e<;>(subst e)<;>simp[As]
theorem jn{ρ:List Addr}{H:Hp}{x:AV}{x':V}(r:aT T ρ H x x')(f:eR x=aB):kM x'=aB:=by cases r<;>first|rfl|cases f
theorem Hb{ρ:List Addr}{H:Hp}:∀{xs:List AV}{ys:List V},bB T ρ H xs ys->xs.all eR=aB->ys.all kM=aB
 |_,_,.nil,_=>rfl|_,_,.cons h hs,f=>by rw[hG,aY]at f ⊢;exact⟨jn h f.1,Hb hs f.2⟩
theorem Tj{ρ:List Addr}{H:Hp}{x y:AV}{x' y':V}(rx:aT T ρ H x x')(ry:aT T ρ H y y')(fx:eR x=aB)(fy:eR y=aB):jV x' y'=iT x y:=by
 cases rx<;>first|cases fx;done|skip
 all_goals (cases ry<;>first|rfl|cases fy)
theorem fi(hK:X.K=T.K){ρ:List Addr}{h:AH}{H:Hp}{x:AV}{x':V}{k:Bool}{xs:List AV}(R:bL T ρ h H)(r:aT T ρ H x x')(e:gJ h x=aA (k,xs)):∃a ys,x' = .ref a/\bB T ρ H xs ys/\(k=aB->cW X.K H a ys)/\(k=aF->dE X.K H a ys):=by
 cases r with
 |tup hq hr=>cases e;exact⟨_,_,rfl,hr,(λz=>by cases z),λ_=>by rw[hK];exact hq⟩
 |@ref n a q=>
  simp only[gJ]at e;cases o:h.ob n with
  |none=>rw[o]at e;cases e|some u=>
   rw[o]at e;cases u with
   |lst m ys=>
    cases e;cases m with
    |true=>obtain⟨zs,h1,h2⟩:=R.obj n _ a o q;exact⟨_,_,rfl,h2,λ_=>.inl (.inl h1),λz=>by cases z⟩|false=>obtain⟨zs,h1,h2⟩:=R.obj n _ a o q;exact⟨_,_,rfl,h2,λ_=>by rw[hK];exact h1.sq,λz=>by cases z⟩
   |_=>cases e
 |_=>cases e
theorem Ti{f:AV->AV->Option Bool}:∀{xs ys:List AV}{b:Bool},oP f xs ys=aA b->∃e:Nat->Bool,(∀j x y,xs[j]?=aA x->ys[j]?=aA y->f x y=aA (e j))/\b=(gL (min xs.length ys.length)).all e
 |[],_,b,h=>by cases h;exact⟨λ_=>aB,λj x y z=>by simp at z,by simp⟩
 |_::_,[],b,h=>by cases h;exact⟨λ_=>aB,λj x y _ z=>by simp at z,by simp⟩
 |x::xs,y::ys,b,h=>by
  simp only[oP]at h;cases h1:f x y with
  |none=>rw[h1]at h;cases h|some a=>
   cases h2:oP f xs ys with
   |none=>rw[h1,h2]at h;cases h|some c=>
    rw[h1,h2]at h;cases h;obtain⟨e,g1,g2⟩:=Ti h2;refine⟨λj=>match j with|0=>a|j+1=>e j,λj p q z1 z2=>?_,?_⟩
    .cases j with
     |zero=>cases z1;cases z2;exact h1|succ j=>exact g1 j p q z1 z2
    .rw[g2,hJ,hJ,Nat.succ_min_succ,JH,hG,List.all_map];rfl
theorem Ks{ρ:List Addr}{H:Hp}:∀{xs:List AV}{ys:List V}{j:Nat}{y:V},bB T ρ H xs ys->ys[j]?=aA y->∃x,xs[j]?=aA x/\aT T ρ H x y
 |_,_,_,_,.nil,e=>by simp at e
 |_,_,0,_,.cons h _,e=>by cases e;exact⟨_,rfl,h⟩
 |_,_,j+1,y,.cons _ hs,e=>by obtain⟨x,h1,h2⟩:=Ks (j:=j) (y:=y) hs (by simpa using e);exact⟨x,by simpa using h1,h2⟩
theorem Th(hK:X.K=T.K){ρ:List Addr}{h:AH}{H:Hp}(R:bL T ρ h H):∀{n:Nat}{x y:AV} {x' y':V}{b:Bool},aT T ρ H x x'->aT T ρ H y y'->iG h n x y=aA b->iD X.K H n x' y' b
 |0,_,_,_,_,_,_,_,e=>by cases e
 |n+1,x,y,x',y',b,rx,ry,e=>by
  simp only[iG]at e;by_cases hf:eR x=aB/\eR y=aB
  .rw[if_pos hf]at e;cases e;exact .inl ⟨jn rx hf.1,jn ry hf.2,(Tj rx ry hf.1 hf.2).symm⟩
  .rw[if_neg hf]at e;by_cases hn:yr x y=aB
   .rw[if_pos hn]at e;cases e;refine .inr (.inl ⟨rfl,?_⟩);cases x with
    |aK=>cases y with
     |tup ys=>obtain⟨c,vs,rfl,r2,l2,t2⟩:=fi hK R ry (show gJ h (.tup ys)=aA (aF,ys) from rfl);cases rx;exact⟨c,vs,t2 rfl,.inl ⟨rfl,rfl⟩⟩
     |_=>cases hn
    |tup xs=>cases y with
     |aK=>obtain⟨c,vs,rfl,r2,l2,t2⟩:=fi hK R rx (show gJ h (.tup xs)=aA (aF,xs) from rfl);cases ry;exact⟨c,vs,t2 rfl,.inr ⟨rfl,rfl⟩⟩
     |_=>cases hn
    |_=>cases hn
   rw[if_neg hn]at e;cases h1:gJ h x with
   |none=>rw[h1]at e;cases e|some p=>
    obtain⟨k,xs⟩:=p;cases h2:gJ h y with
    |none=>rw[h1,h2]at e;cases e|some q=>
     obtain⟨k',ys⟩:=q;rw[h1,h2]at e;dsimp only at e;obtain⟨a,us,rfl,r1,l1,t1⟩:=fi hK R rx h1;obtain⟨c,vs,rfl,r2,l2,t2⟩:=fi hK R ry h2;refine .inr (.inr ⟨a,c,us,vs,rfl,rfl,?_⟩);have items:∀{b:Bool},oP (iG h n) xs ys=aA b->∃f:Nat->Bool,(∀j p q,us[j]?=aA p->vs[j]?=aA q->iD X.K H n p q (f j))/\b=(gL (min us.length vs.length)).all f:=λ{b} he=>by obtain⟨f,g1,g2⟩:=Ti he;refine⟨f,λj p q z1 z2=>?_,by rw[<- r1.length,<- r2.length];exact g2⟩;obtain⟨x1,w1,w2⟩:=Ks r1 z1;obtain⟨y1,w3,w4⟩:=Ks r2 z2;exact Th hK R w2 w4 (g1 j x1 y1 w1 w3)
     by_cases hk:k=k'
     .subst hk;rw[if_pos rfl]at e;by_cases hl:k=aB/\xs.length≠ys.length
      .rw[if_pos hl]at e;cases e;exact .inl ⟨l1 hl.1,l2 hl.1,.inl ⟨by rw[<- r1.length,<- r2.length];exact hl.2,rfl⟩⟩
      .rw[if_neg hl]at e;cases he:oP (iG h n) xs ys with
       |none=>rw[he]at e;cases e|some d=>
        rw[he]at e;cases e;obtain⟨f,g1,g2⟩:=items he;cases k with
        |true=>
         have hz:xs.length=ys.length:=HJ λz=>hl ⟨rfl,z⟩;have hz':us.length=vs.length:=by rw[<- r1.length,<- r2.length];exact hz
         refine .inl ⟨l1 rfl,l2 rfl,.inr ⟨hz',f,g1,?_⟩⟩;rw[g2,<- hz',Dt,decide_eq_true hz];exact GY _
        |false=>refine .inr (.inl ⟨t1 rfl,t2 rfl,f,g1,?_⟩);rw[g2,<- r1.length,<- r2.length];congr 1
     .rw[if_neg hk]at e;cases e;cases k with
      |true=>
       cases k' with
       |true=>exact absurd rfl hk|false=>exact .inr (.inr (.inl ⟨l1 rfl,t2 rfl,rfl⟩))
      |false=>
       cases k' with
       |true=>exact .inr (.inr (.inr ⟨t1 rfl,l2 rfl,rfl⟩))|false=>exact absurd rfl hk
theorem To(hK:X.K=T.K){ρ:List Addr}{h:AH}{H:Hp}(R:bL T ρ h H){x y:AV}{x' y':V}{b:Bool}(rx:aT T ρ H x x')(ry:aT T ρ H y y')(e:oQ h x y=aA b):∃a c,x' = .ref a/\y' = .ref c/\iD X.K H 12 x' y' b:=by
 unfold oQ at e;cases h1:gJ h x with
 |none=>rw[h1]at e;cases e|some p=>
  cases h2:gJ h y with
  |none=>rw[h1,h2]at e;cases e|some q=>rw[h1,h2]at e;obtain⟨a,us,e1,_⟩:=fi hK R rx h1;obtain⟨c,vs,e2,_⟩:=fi hK R ry h2;exact⟨a,c,e1,e2,Th hK R rx ry e⟩
theorem m6(hK:X.K=T.K)(hu:X.A.units+12<cLine):eC X T E (dM .Eq) js:=by
 refine⟨_,c8 hu,λρ h H x y x' y' Q R rx ry w=>?_⟩;unfold js at w;cases e:tE x y with
 |none=>
  simp only[e]at w;cases e2:oQ h x y with
  |none=>simp only[e2]at w;exact w.elim|some b=>simp only[e2]at w;obtain⟨a,c,e3,e4,q⟩:=To hK R rx ry e2;exact .inr ⟨b,a,c,e3,e4,q,W.here w R (.bl _)⟩
 |some b=>simp only[e]at w;obtain⟨h1,h2⟩:=Tn rx ry e;exact .inl ⟨h1,by rw[h2];exact W.here w R (.bl _)⟩
theorem q9(hK:X.K=T.K)(hu:X.A.units+12<cLine):eC X T E (dM .NotEq) tK:=by
 refine⟨_,(i5 hu).or (i6 (by omega)),λρ h H x y x' y' Q R rx ry w=>?_⟩;unfold tK at w;cases e:tE x y with
 |none=>
  simp only[e]at w;cases e2:oQ h x y with
  |none=>
   simp only[e2]at w;by_cases ts:EJ x y=aB
   .rw[if_pos ts]at w;cases x<;>cases y<;>first|cases ts;done|skip
    cases ry;cases rx with
    |tup hq hr=>exact .inr ⟨_,_,_,rfl,by rw[hK];exact hq,rfl,W.here w R (.bl _)⟩
   .rw[if_neg ts]at w;exact w.elim
  |some b=>simp only[e2]at w;obtain⟨a,c,e3,e4,q⟩:=To hK R rx ry e2;exact .inl (.inr ⟨b,a,c,e3,e4,q,W.here w R (.bl _)⟩)
 |some b=>simp only[e]at w;obtain⟨h1,h2⟩:=Tn rx ry e;exact .inl (.inl ⟨h1,by rw[h2];exact W.here w R (.bl _)⟩)
theorem ya{ρ:List Addr}{H:Hp}{x:AV}{x':V}(r:aT T ρ H x x'):decide (x' = .aK)=fV x:=by cases r<;>simp[fV]
theorem o9:eC X T E (dM .Is) Hg:=by
 refine⟨_,e9,λρ h H x y x' y' Q R rx ry w=>?_⟩;unfold Hg at w;by_cases e:fV y=aB
 .rw[if_pos e]at w;rw[<- ya ry]at e;exact⟨of_decide_eq_true e,by rw[ya rx];exact W.here w R (.bl _)⟩
 .rw[if_neg e]at w;exact w.elim
theorem p5:eC X T E (dM .IsNot) Hh:=by
 refine⟨_,j4,λρ h H x y x' y' Q R rx ry w=>?_⟩;unfold Hh at w;by_cases e:fV y=aB
 .rw[if_pos e]at w;rw[<- ya ry]at e;exact⟨of_decide_eq_true e,by rw[ya rx];exact W.here w R (.bl _)⟩
 .rw[if_neg e]at w;exact w.elim
theorem aEy:Qo X T E (Et .USub) jv:=by
 refine⟨_,aEv,λρ h H x x' Q R rx w=>?_⟩;cases x with
 |int i=>cases rx;exact⟨i,rfl,W.here w R (.int _)⟩|_=>exact w.elim
theorem Hz{ρ:List Addr}{H:Hp}{x:AV}{x':V}(rx:aT T ρ H x x')(fx:eR x=aB):∀{xs:List AV}{ys:List V},bB T ρ H xs ys->xs.all eR=aB->tP x' ys=jN x xs
 |_,_,.nil,_=>rfl|_,_,.cons h hs,f=>by rw[hG,aY]at f;have:=Hz rx fx hs f.2;unfold tP jN at this ⊢;rw[kC,kC,this,Tj h rx f.1 fx]
theorem mK{ρ:List Addr}{h:AH}{H:Hp}{n:Nat}{m:Bool}{xs:List AV}{a:Addr}(R:bL T ρ h H)(e:h.ob n=aA (.lst m xs))(q:ρ[n]?=aA a):∃ys,cW T.K H a ys/\bB T ρ H xs ys:=by
 have r:=R.obj n _ a e q;cases m with
 |true=>obtain⟨ys,h1,h2⟩:=r;exact⟨ys,.of h1,h2⟩|false=>obtain⟨ys,h1,h2⟩:=r;exact⟨ys,h1.sq,h2⟩
theorem zJ{ρ:List Addr}{h:AH}{H:Hp}{x:AV}{x':V}{xs:List AV}(R:bL T ρ h H)(r:aT T ρ H x x')(e:eD h x=aA xs):∃p ys,x' = .ref p/\(cW T.K H p ys\/dE T.K H p ys)/\bB T ρ H xs ys:=by
 cases r with
 |tup hq hr=>cases e;exact⟨_,_,rfl,.inr hq,hr⟩|@ref n a q=>
  simp only[eD]at e;cases o:h.ob n with
  |none=>rw[o]at e;cases e|some u=>
   rw[o]at e;cases u with
   |lst m ys=>cases e;obtain⟨zs,h1,h2⟩:=mK R o q;exact⟨_,zs,rfl,.inl h1,h2⟩
   |bQ aE=>cases e|ins c fs=>cases e|xo c=>cases e
 |_=>cases e
inductive iO(T:Tab)(ρ:List Addr)(H:Hp):List (aU×AV)->List (aU×V)->Prop where
 |nil:iO T ρ H [] []
 |cons {k:aU}{v:AV}{y:V}{xs:List (aU×AV)}{ys:List (aU×V)} (h:aT T ρ H v y) (t:iO T ρ H xs ys):iO T ρ H ((k,v)::xs) ((k,y)::ys)
theorem BO{ρ:List Addr}{H:Hp}:∀{aE:List (aU×AV)}{ys:List V},bB T ρ H (aE.map (·.2)) ys->iO T ρ H aE ((aE.map (·.1)).zip ys)
 |[],_,.nil=>.nil
 | (k,v)::aE,_,.cons h t=>.cons h (BO t)
theorem Z7{ρ:List Addr}{H:Hp}{aE:List (aU×AV)}{us:List (aU×V)}(r:iO T ρ H aE us):∃ys,us=(aE.map (·.1)).zip ys/\bB T ρ H (aE.map (·.2)) ys:=by
 induction r with
 |nil=>exact⟨[],rfl,.nil⟩|cons h t ih=>obtain⟨ys,e,r⟩:=ih;exact⟨_::ys,by rw[e];rfl,.cons h r⟩
theorem Z8{ρ:List Addr}{H:Hp}{aE:List (aU×AV)}{us:List (aU×V)}(r:iO T ρ H aE us):aE.length=us.length:=by
 induction r with
 |nil=>rfl|cons h t ih=>rw[hJ,hJ,ih]
theorem Ku{ρ:List Addr}{H:Hp}{aE:List (aU×AV)}{us:List (aU×V)}{k:aU}(r:iO T ρ H aE us):(∀v,bT aE k=aA v->∃y,jD us k=aA y/\aT T ρ H v y)/\(bT aE k=aD->jD us k=aD):=by
 induction r with
 |nil=>exact⟨(λv h=>by cases h),λ_=>rfl⟩|@cons k' v y xs ys h t ih=>
  by_cases e:k'=k
  .subst e;refine⟨λv' h'=>?_,λh'=>?_⟩
   .simp[bT]at h';subst h';exact⟨y,by simp[jD],h⟩
   .simp[bT]at h'
  .have e1:bT ((k',v)::xs) k=bT xs k:=by simp[bT,e]
   have e2:jD ((k',y)::ys) k=jD ys k:=by simp[jD,e]
   rw[e1,e2];exact ih
theorem BN{ρ:List Addr}{H:Hp}{aE:List (aU×AV)}{us:List (aU×V)}{k:aU}(r:iO T ρ H aE us):(jD us k).isSome=(bT aE k).isSome:=by
 obtain⟨h1,h2⟩:=Ku (k:=k) r;cases e:bT aE k with
 |none=>rw[h2 e];rfl|some v=>obtain⟨y,e2,_⟩:=h1 v e;rw[e2];rfl
theorem Z5{ρ:List Addr}{H:Hp}{aE:List (aU×AV)}{us:List (aU×V)}{k:aU}(r:iO T ρ H aE us):(aE.any λkv=>decide (kv.1=k))=us.any λkv=>decide (kv.1=k):=by
 induction r with
 |nil=>rfl|cons h t ih=>rw[kC,kC,ih]
theorem Z6{ρ:List Addr}{H:Hp}{aE:List (aU×AV)}{us:List (aU×V)}{k:aU}{v:AV}{y:V}(r:iO T ρ H aE us)(h:aT T ρ H v y):iO T ρ H (aE++[(k,v)]) (us++[(k,y)]):=by
 induction r with
 |nil=>exact .cons h .nil|cons h' t ih=>exact .cons h' ih
theorem Z9{ρ:List Addr}{H:Hp}{aE:List (aU×AV)}{us:List (aU×V)}{k:aU}{v:AV}{y:V}(r:iO T ρ H aE us)(h:aT T ρ H v y):iO T ρ H (aE.map λkv=>if kv.1=k then(kv.1,v) else kv) (us.map λkv=>if kv.1=k then(kv.1,y) else kv):=by
 induction r with
 |nil=>exact .nil|@cons k' v' y' xs ys h' t ih=>
  by_cases e:k'=k
  .simp only[dS,e,if_true];exact .cons h ih
  .simp only[dS,e,if_false];exact .cons h' ih
theorem aAa{ρ:List Addr}{H:Hp}{aE:List (aU×AV)}{us:List (aU×V)}{k:aU}{v:AV}{y:V}(r:iO T ρ H aE us)(h:aT T ρ H v y):iO T ρ H (jP aE k v) (lP us k y):=by
 unfold jP lP;rw[Z5 r];split
 .exact Z9 r h
 .exact Z6 r h
theorem iO.ext{ρ ρ':List Addr}{H H':Hp}{aE:List (aU×AV)}{us:List (aU×V)}(r:iO T ρ H aE us)(e:Ext ρ H ρ' H'):iO T ρ' H' aE us:=by
 induction r with
 |nil=>exact .nil|cons h t ih=>exact .cons (h.ext e) ih
theorem bz{ρ:List Addr}{h:AH}{H:Hp}{x:AV}{x':V}{aE:List (aU×AV)}(R:bL T ρ h H)(r:aT T ρ H x x')(e:fG h x=aA aE):∃n a us,x = .ref n/\ρ[n]?=aA a/\h.ob n=aA (.bQ aE)/\x' = .ref a/\H a=aA (.dK us)/\iO T ρ H aE us:=by
 cases r with
 |@ref n a q=>
  simp only[fG]at e;cases o:h.ob n with
  |none=>rw[o]at e;cases e|some u=>
   rw[o]at e;cases u with
   |bQ kvs'=>cases e;obtain⟨ks,ys,h1,rfl,h3⟩:=R.obj n _ a o q;exact⟨n,a,_,rfl,q,o,rfl,h1,BO h3⟩
   |_=>cases e
 |_=>cases e
theorem QQ{ρ:List Addr}{H:Hp}{a:Addr}{aE:List (aU×AV)}{us:List (aU×V)}(e:H a=aA (.dK us))(r:iO T ρ H aE us):sS T ρ H a (.bQ aE):=by obtain⟨ys,e2,r2⟩:=Z7 r;subst e2;exact⟨_,ys,e,rfl,r2⟩
theorem cy{ρ:List Addr}{H:Hp}{x:AV}{x':V}{k:aU}(r:aT T ρ H x x')(e:iY x=aA k):x'=kV k:=by cases r<;>simp[iY]at e<;>(subst e)<;>rfl
theorem ZG{ρ:List Addr}{H:Hp}{x:AV}{x':V}(r:aT T ρ H x x')(f:nK x=aB):vS T.K H x':=by
 cases r with
 |tup hq hr=>exact .inr ⟨_,_,rfl,hq⟩|ref=>cases f|pV=>cases f|_=>exact .inl rfl
theorem Jg{ρ:List Addr}{H:Hp}:∀{xs:List AV}{ys:List V},bB T ρ H xs ys->xs.all nK=aB->∀z∈ys,vS T.K H z
 |_,_,.nil,_=>λz hz=>by cases hz
 |_,_,.cons h hs,f=>λz hz=>by
  rw[hG,aY]at f;rcases List.mem_cons.mp hz with rfl|hz
  .exact ZG h f.1
  .exact Jg hs f.2 z hz
theorem Ya{ρ:List Addr}{H:Hp}{x:AV}{x':V}{u:Str}(r:aT T ρ H x x')(f:nK x=aB):jV x' (.str u)=iT x (.str u):=by
 cases r with
 |ref=>cases f|pV=>cases f|_=>rfl
theorem Yc{ρ:List Addr}{H:Hp}{u:Str}:∀{xs:List AV}{ys:List V},bB T ρ H xs ys->xs.all nK=aB->tP (.str u) ys=jN (.str u) xs
 |_,_,.nil,_=>rfl|_,_,.cons h hs,f=>by rw[hG,aY]at f;have:=Yc (u:=u) hs f.2;unfold tP jN at this ⊢;rw[kC,kC,this,Ya h f.1]
theorem Yb{ρ:List Addr}{H:Hp}{u:Str}:∀{xs:List AV}{ys:List V},bB T ρ H xs ys->xs.all nK=aB->ys.findIdx? (λy=>jV y (.str u))=xs.findIdx? (λy=>iT y (.str u))
 |_,_,.nil,_=>rfl|_,_,.cons h hs,f=>by rw[hG,aY]at f;rw[Nw,Nw,Yb (u:=u) hs f.2,Ya h f.1]
include hK in
theorem o8
    (hu:X.A.units+1<cLine)
   :eC X T E (dM .In) (pU aF):=by
  refine⟨_,e8.or (d6.or (d4 hu)),λρ h H x y x' y' Q R rx ry w=>?_⟩;unfold pU at w;cases e:eD h y with
  |none=>
    rw[e]at w;cases x with
    |str a=>
      cases y with
      |str b=>cases rx;cases ry;refine .inr (.inl ?_);exact⟨a,b,rfl,rfl,w.here R (.bl _)⟩
      |_=>exact w.elim
    |_=>exact w.elim
  |some xs=>
    rw[e]at w;by_cases f:(eR x&&xs.all eR)=aB
    · simp only[if_pos f]at w
      rw[aY]at f;obtain⟨p,ys,e1,h1,h2⟩:=zJ R ry e;refine .inl ?_;refine⟨p,ys,e1,by rw[hK];exact h1,jn rx f.1,Hb h2 f.2,?_⟩;rw[Hz rx f.1 h2 f.2];exact w.here R (.bl _)
    · simp only[if_neg f]at w
      by_cases m:(!aF&&Lf x&&xs.all nK)=aB
      · rw[if_pos m]at w
        rw[aY,aY]at m;obtain⟨p,ys,e1,h1,h2⟩:=zJ R ry e;cases x<;>first|cases m.1.2;done|skip
        rename_i u;cases rx;refine .inr (.inr ⟨p,ys,u,e1,by rw[hK];exact h1,rfl,by rw[hK];exact Jg h2 m.2,?_⟩);rw[Yc h2 m.2];exact w.here R (.bl _)
      rw[if_neg m]at w;exact w.elim
include hK in
theorem r9:eC X T E (dM .NotIn) (pU aB):=by
 refine⟨_,i9,λρ h H x y x' y' Q R rx ry w=>?_⟩;unfold pU at w;cases e:eD h y with
 |none=>rw[e]at w;unfold Ic at w;cases x<;>cases y<;>exact w.elim
 |some xs=>
  rw[e]at w;by_cases f:(eR x&&xs.all eR)=aB
  .simp only[if_pos f]at w;rw[aY]at f;obtain⟨p,ys,e1,h1,h2⟩:=zJ R ry e;refine⟨p,ys,e1,by rw[hK];exact h1,jn rx f.1,Hb h2 f.2,?_⟩;rw[Hz rx f.1 h2 f.2];exact w.here R (.bl _)
  .simp only[if_neg f]at w;exact w.elim
theorem MV{ρ:List Addr}{H:Hp}{xs:List AV}{ys:List V}{i:Int}{v:AV}(r:bB T ρ H xs ys)(e:eP xs i=aA v):∃v',eP ys i=aA v'/\aT T ρ H v v':=by
 unfold eP at e ⊢;rw[<- r.length];cases q:kR xs.length i with
 |none=>rw[q]at e;cases e|some j=>rw[q]at e;exact r.get e
include hK in
theorem WX:vc X T E yF:=by
 refine⟨_,WS,λρ h H x y x' y' Q R rx ry w=>?_⟩;cases y with
 |int i=>
  cases ry;have seqc:∀(xs:List AV) (v:AV),eD h x=aA xs->eP xs i=aA v->(W T (aT T) (.ok v h) ρ H Q E)->Km X.K x' (.int i) H Q:=λxs v e1 e2 w=>by
   obtain⟨p,ys,rfl,hq,hr⟩:=zJ R rx e1;obtain⟨v',e3,rv⟩:=MV hr e2;rcases hq with hq|hq
   .exact .inl ⟨p,ys,i,v',rfl,rfl,by rw[hK];exact hq,e3,w.here R rv⟩
   .exact .inr (.inl ⟨p,ys,i,v',rfl,rfl,by rw[hK];exact hq,e3,w.here R rv⟩)
  have go:(match (eD h x).bind λxs=>eP xs i with
   |some v=>Res.ok v h
   |none=>Res.bad)=yF x (.int i) h->Km X.K x' (.int i) H Q:=λe=>by
    rw[<- e]at w;cases s:eD h x with
    |none=>rw[s]at w;exact w.elim|some xs=>
     rw[s]at w;simp only[qR]at w;cases q:eP xs i with
     |none=>rw[q]at w;exact w.elim|some v=>rw[q]at w;exact seqc xs v s q w
  cases x with
  |str z=>
   cases rx;simp only[yF]at w;by_cases hz:z.length<=sizeLine
   .rw[if_pos hz]at w;cases q:eP z.cps.toList i with
    |none=>rw[q]at w;exact w.elim|some c=>rw[q]at w;exact .inr (.inr ⟨z,i,c,rfl,rfl,hz,q,w.here R (.str _)⟩)
   .rw[if_neg hz]at w;exact w.elim
  |aK=>exact go rfl|bl b=>exact go rfl|int j=>exact go rfl|tup xs=>exact go rfl|ref n=>exact go rfl|pV n=>exact go rfl
 |_=>exact w.elim
include hK in
theorem n9(hu:X.A.units+1<cLine):eC X T E (dM .In) (jM aF):=by
 obtain⟨r0,p0,q0⟩:=(o8 hK hu:eC X T E (dM .In) (pU aF));refine⟨_,p0.or (d9 hu),λρ h H x y x' y' Q R rx ry w=>?_⟩;unfold jM at w;cases d:fG h y with
 |none=>simp only[d]at w;exact .inl (q0 ρ h H _ _ _ _ Q R rx ry w)|some aE=>
  simp only[d]at w;cases k:iY x with
  |none=>simp only[k]at w;exact w.elim|some k'=>simp only[k]at w;obtain⟨n,a,us,rfl,_,_,rfl,g,r⟩:=bz R ry d;refine .inr ⟨a,_,rfl,(cy rx k)▸kI.k g,?_⟩;rw[BN r];exact W.here w R (.bl _)
include hK in
theorem r6(hu:X.A.units+1<cLine):eC X T E (dM .NotIn) (jM aB):=by
 obtain⟨r0,p0,q0⟩:=(r9 hK:eC X T E (dM .NotIn) (pU aB));refine⟨_,p0.or (i8 hu),λρ h H x y x' y' Q R rx ry w=>?_⟩;unfold jM at w;cases d:fG h y with
 |none=>simp only[d]at w;exact .inl (q0 ρ h H _ _ _ _ Q R rx ry w)|some aE=>
  simp only[d]at w;cases k:iY x with
  |none=>simp only[k]at w;exact w.elim|some k'=>simp only[k]at w;obtain⟨n,a,us,rfl,_,_,rfl,g,r⟩:=bz R ry d;refine .inr ⟨a,_,rfl,(cy rx k)▸kI.k g,?_⟩;rw[BN r];exact W.here w R (.bl _)
include hK in
theorem WW(hu:X.A.units+1<cLine):vc X T E tJ:=by
 obtain⟨r0,p0,q0⟩:=(WX hK:vc X T E yF);refine⟨_,p0.or (WQ hu),λρ h H x y x' y' Q R rx ry w=>?_⟩;unfold tJ at w;cases d:fG h x with
 |none=>simp only[d]at w;exact .inl (q0 ρ h H _ _ _ _ Q R rx ry w)|some aE=>
  simp only[d]at w;cases k:iY y with
  |none=>simp only[k,Option.bind_none]at w;exact w.elim|some k'=>
   simp only[k,qR]at w;cases l:bT aE k' with
   |none=>simp only[l]at w;exact w.elim|some v=>simp only[l]at w;obtain⟨n,a,us,rfl,_,_,rfl,g,r⟩:=bz R rx d;obtain⟨y1,l2,ry2⟩:=(Ku (k:=k') r).1 v l;refine .inr ⟨a,y1,rfl,?_,W.here w R ry2⟩;rw[cy ry k,<- l2];exact kI.k g
def W5(K:aX):R2:=λx y H Q=>∃a b ys,x = .ref a/\y = .ref b/\dE K H a []/\dE K H b ys/\Q (.ref b) H
theorem c6:cK X (eI .Add) (W5 X.K):=by
 intro pins s σ H x y v u Q I rx ry h;obtain⟨a,b,ys,rfl,rfl,ha,hb,q⟩:=h;cases rx;cases ry;obtain⟨its,r1,p1,_⟩:=I.tuple ha;obtain⟨tR,r2,p2,_⟩:=I.tuple hb;cases r1;obtain⟨⟨cls,dd,data,sl⟩,ho,hc,n,hd⟩:=id p1;obtain⟨⟨cls2,dd2,data2,sl2⟩,ho2,hc2,n2,hd2⟩:=id p2;simp only at hc hd hc2 hd2;subst hc hd hc2 hd2;exact Pp ⟨_,ho,rfl⟩ ⟨_,ho2,rfl⟩ Pt Pw Oy Ow (Ov _ _)
  (tuple_addW0 a b _ _ n n2 dd dd2 sl sl2 (by simp)) ⟨ho,ho2,⟨.ref b,H,I,rfl,q⟩⟩
include hK in
theorem l0:eC X T E (eI .Add) lM:=by
 refine⟨_,b7.or (b8.or (c5.or (c6.or c4))),λρ h H x y x' y' Q R rx ry w=>?_⟩;cases x with
 |int i=>
  cases y with
  |int j=>cases rx;cases ry;exact .inl ⟨i,j,rfl,rfl,W.here w R (.int _)⟩|_=>exact w.elim
 |str i=>
  cases y with
  |str j=>cases rx;cases ry;obtain⟨hz,w⟩:=cv w;exact .inr (.inl ⟨i,j,rfl,rfl,hz,W.here w R (.str _)⟩)
  |_=>exact w.elim
 |tup xs=>
  cases y with
  |tup ys=>
   obtain⟨h2,w⟩:=cv w;cases rx with
   |@tup a _ dF hq hr=>
    cases ry with
    |@tup b _ ys' hq2 hr2=>
     have l1:=hr.length;have l2:=hr2.length;by_cases h1:xs.length=0
     .have e0:xs=[]:=zY h1;subst e0;have e0:dF=[]:=zY l1.symm;subst e0;exact .inr (.inr (.inr (.inl ⟨a,b,ys',rfl,rfl,by rw[hK];exact hq,by rw[hK];exact hq2,W.here w R (.tup hq2 hr2)⟩)))
     refine .inr (.inr (.inl ⟨a,b,dF,ys',rfl,rfl,by rw[hK];exact hq,by rw[hK];exact hq2,λz=>?_,by omega,λz=>?_,λz p hp=>?_⟩))
     .rw[z]at l1;exact h1 l1
     .subst z;have e0:ys=[]:=by cases ys with|nil=>rfl|cons _ _=>cases l2
      subst e0;rw[iS]at w;exact W.here w R (.tup hq hr)
     .refine W.ok w (.jR hp) (R.keep hp) (.tup (.of gY) ?_);exact((hr.append hr2).ext (.jR hp))
  |_=>exact w.elim
 |ref n=>
  cases y with
  |ref m=>
   cases rx with
   |@ref _ a q=>
    cases ry with
    |@ref _ b q2=>
     have go:∀xs ys,h.ob n=aA (.lst aB xs)->h.ob m=aA (.lst aB ys)->AX (.ref a) (.ref b) H Q:=λxs ys e1 e2=>by
      simp only[lM,e1,e2]at w;by_cases hz:xs.length+ys.length<=sizeLine
      .rw[if_pos hz]at w;obtain⟨dF,g1,r1⟩:=R.obj n _ a e1 q;obtain⟨ys',g2,r2⟩:=R.obj m _ b e2 q2;have l1:=r1.length;have l2:=r2.length;refine⟨a,b,dF,ys',rfl,rfl,g1,g2,by omega,λp hp=>?_⟩;have ho:sS T (ρ++[p]) (aZ H p (.lst (dF++ys'))) p (.lst aB (xs++ys)):=⟨_,gY,(r1.append r2).ext ⟨λk z e=>by have hl:=(List.getElem?_eq_some_iff.mp e).1;rw[uL hl];exact e,(Ext.jR (ρ:=ρ) hp).tup,(Ext.jR (ρ:=ρ) hp).dX⟩⟩
       obtain⟨R',ex⟩:=R.alloc hp ho;exact W.ok w ex R' (.ref (by rw[<- R.len];simp))
      .rw[if_neg hz]at w;exact w.elim
     refine .inr (.inr (.inr (.inr ?_)));cases e1:h.ob n with
     |none=>simp only[lM,e1]at w;exact w.elim|some u=>
      cases e2:h.ob m with
      |none=>simp only[lM,e1,e2]at w;cases u with
       |lst k xs=>cases k<;>exact w.elim|_=>exact w.elim
      |some v=>
       cases u with
       |lst k xs=>
        cases v with
        |lst k2 ys=>
         cases k with
         |true=>
          cases k2 with
          |true=>exact go xs ys e1 e2|false=>simp only[lM,e1,e2]at w;exact w.elim
         |false=>simp only[lM,e1,e2]at w;exact w.elim
        |bQ _=>simp only[lM,e1,e2]at w;cases k<;>exact w.elim|ins _ _=>simp only[lM,e1,e2]at w;cases k<;>exact w.elim|xo _=>simp only[lM,e1,e2]at w;cases k<;>exact w.elim
       |bQ _=>simp only[lM,e1,e2]at w;exact w.elim|ins _ _=>simp only[lM,e1,e2]at w;exact w.elim|xo _=>simp only[lM,e1,e2]at w;exact w.elim
  |_=>exact w.elim
 |_=>exact w.elim
theorem EH(hK:X.K=T.K){ρ:List Addr}{h:AH}{H:Hp}{x:AV}{x':V}{b:Bool}(R:bL T ρ h H)(r:aT T ρ H x x')(e:fu h x=aA b):xU X.K x' H b:=by
 have emp:∀{xs:List AV}{ys:List V},bB T ρ H xs ys->(!xs.isEmpty) = !ys.isEmpty:=λr=>by cases r<;>rfl
 cases r with
 |aK=>cases e;rfl|bl c=>cases e;rfl|int i=>cases e;rfl|str y=>
  simp only[fu]at e;by_cases hy:y.length<=sizeLine
  .rw[if_pos hy]at e;cases e;exact⟨hy,rfl⟩
  .rw[if_neg hy]at e;cases e
 |tup hq hr=>cases e;exact .inr (.inl ⟨_,by rw[hK];exact hq,emp hr⟩)|@ref n a q=>
  simp only[fu]at e;cases o:h.ob n with
  |none=>rw[o]at e;cases e|some u=>
   rw[o]at e;cases u with
   |lst m ys=>cases e;obtain⟨zs,h1,h2⟩:=mK R o q;exact .inl ⟨zs,by rw[hK];exact h1,emp h2⟩
   |bQ aE=>
    cases e;obtain⟨ks,ys,h1,h2,h3⟩:=R.obj n _ a o q;refine .inr (.inr ⟨_,h1,?_⟩);subst h2;cases aE with
    |nil=>rfl|cons p r=>cases h3;rfl
   |ins c fs=>cases e|xo c=>cases e
 |pV q=>cases e
end
def yK(i:Nat):aH->M AV:=λσ h=>match σ[i]? with
 |some (aA v)=>.ok v h
 |_=>.bad
def Qt(m k:M AV):M AV:=m.bind λx=>(cV x).bind λb=>if b=aB then k else M.ret x
def Ys(m k:M AV):M AV:=m.bind λx=>(cV x).bind λb=>if b=aB then M.ret x else k
def Qs(m k:M Bool):M Bool:=m.bind λb=>if b=aB then k else M.ret aF
def Yr(m k:M Bool):M Bool:=m.bind λb=>if b=aB then M.ret aB else k
def yb{α:Type}(c:M Bool)(a b:M α):M α:=c.bind λt=>if t=aB then a else b
def qZ:AV->Option Bool
 |.bl b=>aA b
 |_=>aD
def Rt(g g':AV->AV->M AV)(a b c:M AV):M AV:=a.bind λx=>b.bind λy=>(g x y).bind λz h=>match qZ z with
 |some aB=>(c.bind λw=>g' y w) h
 |some aF=>.ok (.bl aF) h
 |none=>.bad
def Xj(g:AV->AV->M AV)(x:AV)(b:M AV)(k:AV->M AV):M AV:=b.bind λy=>(g x y).bind λz h=>match qZ z with
 |some aB=>k y h
 |some aF=>.ok (.bl aF) h
 |none=>.bad
def Rr(g g' g'':AV->AV->M AV)(a b c d:M AV):M AV:=a.bind λx=>Xj g x b λy=>Xj g' y c λu=>d.bind λv=>g'' u v
def Sh(a:M AV)(r:M (List AV)):M (List AV):=a.bind λx=>r.bind λxs=>M.ret (x::xs)
def Ls(r:M (List AV)):M AV:=r.bind λxs=>M.guard (xs.length<=sizeLine) (M.ret (.tup xs))
def mL(xs:List AV):M AV:=λh=>.ok (.ref h.nx) (h.new (.lst aB xs))
def vQ(r:M (List AV)):M AV:=r.bind λxs=>M.guard (xs.length<=sizeLine) (mL xs)
def tT(g:AV->AV->M AV)(a b:M AV):M AV:=a.bind λx=>b.bind λy=>g x y
def bP:aJ->Bool
 |.Name ..=>aB | .Constant ..=>aB | .BinOp ..=>aB | .UnaryOp ..=>aB | .Compare ..=>aB | .BoolOp ..=>aB | .IfExp ..=>aB
 |.Tuple ..=>aB | .List ..=>aB | .Subscript ..=>aB | .Call ..=>aB | .Attribute ..=>aB | .ListComp ..=>aB
 |.Dict ..=>aB
 |_=>aF
def rJ:aJ->Bool
 |.ListComp ..=>aB
 |_=>aF
def lp:aJ->Bool
 |.Name ..=>aB | .Constant ..=>aB | .BinOp ..=>aB | .Subscript ..=>aB | .Call ..=>aB | .Attribute ..=>aB | .Tuple ..=>aB | .List ..=>aB | .ListComp ..=>aB
 |.Dict ..=>aB
 |_=>aF
theorem dY{e:aJ}{es:List aJ}{env:Env}(h:bP e=aB):eY (e::es) env=(aF,eval e env)::eY es env:=by cases e<;>first|rfl|cases h
theorem BV{e:aJ}(h:bP e=aB):vj e:=λo i=>by cases e<;>first|rfl|cases h
theorem pz{e:aJ}{t:Option aJ}{n:Nat}{env:Env}(h:bP e=aB)(hl:rJ e=aF):ax e t n env=pure aF:=by cases e<;>first|rfl|(cases hl;done)|(cases h;done)
theorem Kx{e:aJ}{env:Env}{x:Value}(h:bP e=aB):Ei e env x=pure x:=by cases e<;>first|rfl|cases h
theorem BW{e:aJ}{op:sH}(h:bP e=aB):uh op e=aF:=by cases e<;>first|rfl|cases h
theorem B7{e:aJ}{env:Env}(h:lp e=aB):∀whole,isTrue e env whole=(do let v <- whole;standAt e.pos;uk [v] (truthy v)):=λ_=>by cases e<;>first|rfl|cases h
theorem zK{es:List aJ}{pos:Pos}{env:Env}(h:es.all bP=aB):(nZ pos (eY es env)).any (·.1)=aF:=by
 induction es with
 |nil=>rfl|cons e es ih=>rw[hG,aY]at h;rw[dY h.1];have:=ih h.2;simp only[nZ,dS,kC]at this ⊢;rw[Mz];exact this
section
variable {X:Cx}{T:Tab}{E:XK}{a b c e:aJ}{es:List aJ}{ma mb mc m:aH->M AV}{mr:aH->M (List AV)}{mt mu:aH->M Bool}{pos:Pos}
theorem Zo{i:Nat}{x:Str} (hN:X.N[i]?=aA x) (hv:xV X.env.scope x) (hd:(x==("__debug__":Str))=aF) (hcd:(x==("__classdict__":Str))=aF):QE X T E (.Name x pos) (yK i):=by
 refine⟨_,Jt hN hv hd hcd,λρ σ σ' h H Q R S w=>?_⟩;unfold yK at w;cases q:σ[i]? with
 |none=>rw[q]at w;exact w.elim|some o=>
  cases o with
  |none=>rw[q]at w;exact w.elim|some v=>rw[q]at w;obtain⟨v',e1,r⟩:=S.2 i v q;exact⟨v',e1,w.here R r⟩
theorem nO{v:AV}{v':V}(hp:PE X e (tC v'))(r:∀ρ H,aT T ρ H v v'):QE X T E e (λ_=>M.ret v):=
 ⟨_,hp,λρ _ _ h H Q R _ w=>W.here w R (r ρ H)⟩
theorem mm:QE X T E e (λ_=>M.bad):=⟨λ_ _ _=>False,λ_ _ _ _ _ _ h=>h.elim,λ_ _ _ _ _ _ _ _ w=>w⟩
theorem Ki:QT X T E e (λ_=>M.bad):=⟨λ_ _ _=>False,λ_ _ _ _ _ _ h=>h.elim,λ_ _ _ _ _ _ _ _ w=>w⟩
theorem qz{α β:Type}{Rp:Rl α β}{ta tb:TE}(ra:∀ρ σ σ' h H Q,bL T ρ h H->cT T ρ H σ σ'->W T (aT T) (ma σ h) ρ H Q E->ta σ' H Q)(rb:∀ρ σ σ' h H Q,bL T ρ h H->cT T ρ H σ σ'->W T (aT T) (mb σ h) ρ H Q E->tb σ' H Q)
  {ρ:List Addr}{σ:aH} {σ':L2.St}{h:AH}{H:Hp}{g:AV->AV->M α}{Q:β->Hp->Prop}{F:V->V->Hp->Prop} (R:bL T ρ h H) (S:cT T ρ H σ σ') (w:W T Rp ((ma σ).bind (λx=>(mb σ).bind λy=>g x y) h) ρ H Q E)
  (f:∀ρ2 x y x' y' h2 H2,Ext ρ H ρ2 H2->bL T ρ2 h2 H2->aT T ρ2 H2 x x'->aT T ρ2 H2 y y'->cT T ρ2 H2 σ σ'->W T Rp (g x y h2) ρ2 H2 Q E->F x' y' H2):ta σ' H λx H1=>tb σ' H1 λy H2=>F x y H2:=
 ra ρ σ σ' h H _ R S (W.bind w λρ1 x x' h1 H1 e1 R1 q1 w1=>rb ρ1 σ σ' h1 H1 _ R1 (S.ext e1) (W.bind w1 λρ2 y y' h2 H2 e2 R2 q2 w2=>f ρ2 x y x' y' h2 H2 (e1.trans e2) R2 (q1.ext e2) q2 ((S.ext e1).ext e2) w2))
theorem I0{op:uO}{g:AV->AV->M AV}(ho:eC X T E (eI op) g)(ha:QE X T E a ma)(hb:QE X T E b mb):QE X T E (.BinOp a op b pos) (λσ=>tT g (ma σ) (mb σ)):=by obtain⟨r,hr,hg⟩:=ho;obtain⟨ta,pa,ra⟩:=ha;obtain⟨tb,pb,rb⟩:=hb;exact⟨_,y9 hr pa pb,λρ σ σ' h H Q R S w=>qz ra rb R S w λρ2 x y x' y' h2 H2 _ R2 q1 q2 _ w2=>hg ρ2 h2 H2 x y x' y' Q R2 q1 q2 w2⟩
theorem G6{g:AV->AV->M AV}(ho:vc X T E g)(ha:QE X T E a ma)(hb:QE X T E b mb)(hs:vj b):QE X T E (.Subscript a b pos) (λσ=>tT g (ma σ) (mb σ)):=by obtain⟨r,hr,hg⟩:=ho;obtain⟨ta,pa,ra⟩:=ha;obtain⟨tb,pb,rb⟩:=hb;exact⟨_,Zb hr pa pb hs,λρ σ σ' h H Q R S w=>qz ra rb R S w λρ2 x y x' y' h2 H2 _ R2 q1 q2 _ w2=>hg ρ2 h2 H2 x y x' y' Q R2 q1 q2 w2⟩
theorem F7{op:sH}{g:AV->AV->M AV}(ho:eC X T E (dM op) g)(ha:QE X T E a ma)(hb:QE X T E b mb)(hm:uh op b=aF):QE X T E (.Compare a [op] [b] pos) (λσ=>tT g (ma σ) (mb σ)):=by obtain⟨r,hr,hg⟩:=ho;obtain⟨ta,pa,ra⟩:=ha;obtain⟨tb,pb,rb⟩:=hb;exact⟨_,Za hr pa pb hm,λρ σ σ' h H Q R S w=>qz ra rb R S w λρ2 x y x' y' h2 H2 _ R2 q1 q2 _ w2=>hg ρ2 h2 H2 x y x' y' Q R2 q1 q2 w2⟩
theorem J8{op:PySem.UnaryOp}{g:AV->M AV}(ho:Qo X T E (Et op) g)(ha:QE X T E a ma):QE X T E (.UnaryOp op a pos) (λσ=>(ma σ).bind g):=by obtain⟨r,hr,hg⟩:=ho;obtain⟨ta,pa,ra⟩:=ha;exact⟨_,A1 hr pa,λρ σ σ' h H Q R S w=>ra ρ σ σ' h H _ R S (W.bind w λρ1 x x' h1 H1 e1 R1 q1 w1=>hg ρ1 h1 H1 x x' Q R1 q1 w1)⟩
theorem Hk(hK:X.K=T.K){γ δ:Type}{Rq:Rl γ δ}{ρ:List Addr}{h:AH}{H:Hp}{x:AV}{x':V}{k:Bool->M γ}{Q:δ->Hp->Prop}(R:bL T ρ h H)(r:aT T ρ H x x')(w:W T Rq ((cV x).bind k h) ρ H Q E) :
  ∃d,xU X.K x' H d/\W T Rq (k d h) ρ H Q E:=by
 unfold M.bind cV at w;cases e:fu h x with
 |none=>rw[e]at w;exact w.elim|some d=>rw[e]at w;exact⟨d,EH hK R r e,w⟩
theorem G1(hc:QT X T E c mt)(ha:QE X T E a ma)(hb:QE X T E b mb):QE X T E (.IfExp c a b pos) (λσ=>yb (mt σ) (ma σ) (mb σ)):=by
 obtain⟨tc,pc,rc⟩:=hc;obtain⟨ta,pa,ra⟩:=ha;obtain⟨tb,pb,rb⟩:=hb;refine⟨_,x9 pc pa pb,λρ σ σ' h H Q R S w=>rc ρ σ σ' h H _ R S (W.bind w λρ1 d d' h1 H1 e1 R1 q1 w1=>?_)⟩;have q1':d=d':=q1;subst q1';cases d with
 |true=>exact ra ρ1 σ σ' h1 H1 Q R1 (S.ext e1) w1|false=>exact rb ρ1 σ σ' h1 H1 Q R1 (S.ext e1) w1
def aCm(K:aX)(ta tb:TE):TE:=λσ H Q=>ta σ H λx H1=>∃c,xU K x H1 c/\if c=aB then tb σ H1 Q else Q x H1
def aDa(K:aX)(ta tb:TE):TE:=λσ H Q=>ta σ H λx H1=>∃c,xU K x H1 c/\if c=aB then Q x H1 else tb σ H1 Q
def aCz(K:aX)(ta:TE):TE:=λσ H Q=>ta σ H λx H1=>∃c,xU K x H1 c/\Q (.bl (!c)) H1
variable {ta tb:TE}{rest:List aJ}
theorem u9(ha:PE X a ta)(hb:PE X (.BoolOp .And (b::rest) pos) tb):PE X (.BoolOp .And (a::b::rest) pos) (aCm X.K ta tb):=by
 intro pins s σ H Q I h;refine BoolOp_and (bM (ha pins s σ H _ I h) λv s1 ⟨x,H1,I1,r1,c,ht,q1⟩=>?_);refine bM (Br pins s1 σ H1 x v (λd H2=>d=c/\H2=H1) I1 r1 ⟨c,ht,rfl,rfl⟩) λd s2 ⟨H2,I2,e1,e2⟩=>?_;subst e1;subst e2;cases d with
 |true=>exact hb pins s2 σ H2 Q I2 q1|false=>exact⟨x,H2,I2,r1,q1⟩
theorem z7(ha:PE X a ta)(hb:PE X (.BoolOp .Or (b::rest) pos) tb):PE X (.BoolOp .Or (a::b::rest) pos) (aDa X.K ta tb):=by
 intro pins s σ H Q I h;refine BoolOp_or (bM (ha pins s σ H _ I h) λv s1 ⟨x,H1,I1,r1,c,ht,q1⟩=>?_);refine bM (Br pins s1 σ H1 x v (λd H2=>d=c/\H2=H1) I1 r1 ⟨c,ht,rfl,rfl⟩) λd s2 ⟨H2,I2,e1,e2⟩=>?_;subst e1;subst e2;cases d with
 |false=>exact hb pins s2 σ H2 Q I2 q1|true=>exact⟨x,H2,I2,r1,q1⟩
theorem y7(ha:PE X a ta):PE X (.UnaryOp .Not a pos) (aCz X.K ta):=by intro pins s σ H Q I h;refine UnaryOp_ (bM (ha pins s σ H _ I h) λv s1 ⟨x,H1,I1,r1,c,ht,q1⟩=>?_);refine not_of (bM (Br pins s1 σ H1 x v (λd H2=>d=c/\H2=H1) I1 r1 ⟨c,ht,rfl,rfl⟩) λd s2 ⟨H2,I2,e1,e2⟩=>?_);subst e1;subst e2;exact⟨.bl (!d),H2,I2,rfl,q1⟩
theorem Zm{op:PySem.BoolOp}(ha:QE X T E a ma):QE X T E (.BoolOp op [a] pos) ma:=let ⟨t,p,r⟩:=ha;⟨t,y8 p,r⟩
theorem F1(hK:X.K=T.K)(ha:QE X T E a ma)(hb:QE X T E (.BoolOp .And (b::rest) pos) mb):QE X T E (.BoolOp .And (a::b::rest) pos) (λσ=>Qt (ma σ) (mb σ)):=by
 obtain⟨ta,pa,ra⟩:=ha;obtain⟨tb,pb,rb⟩:=hb;refine⟨_,u9 pa pb,λρ σ σ' h H Q R S w=>ra ρ σ σ' h H _ R S (W.bind w λρ1 x x' h1 H1 e1 R1 q1 w1=>?_)⟩;obtain⟨d,td,w2⟩:=Hk hK R1 q1 w1;refine⟨d,td,?_⟩;cases d with
 |true=>exact rb ρ1 σ σ' h1 H1 Q R1 (S.ext e1) w2|false=>exact W.here w2 R1 q1
theorem I9(hK:X.K=T.K)(ha:QE X T E a ma)(hb:QE X T E (.BoolOp .Or (b::rest) pos) mb):QE X T E (.BoolOp .Or (a::b::rest) pos) (λσ=>Ys (ma σ) (mb σ)):=by
 obtain⟨ta,pa,ra⟩:=ha;obtain⟨tb,pb,rb⟩:=hb;refine⟨_,z7 pa pb,λρ σ σ' h H Q R S w=>ra ρ σ σ' h H _ R S (W.bind w λρ1 x x' h1 H1 e1 R1 q1 w1=>?_)⟩;obtain⟨d,td,w2⟩:=Hk hK R1 q1 w1;refine⟨d,td,?_⟩;cases d with
 |false=>exact rb ρ1 σ σ' h1 H1 Q R1 (S.ext e1) w2|true=>exact W.here w2 R1 q1
theorem H9(hK:X.K=T.K)(ha:QE X T E a ma):QE X T E (.UnaryOp .Not a pos) (λσ=>(ma σ).bind λx=>(cV x).bind λb=>M.ret (.bl (!b))):=by obtain⟨ta,pa,ra⟩:=ha;refine⟨_,y7 pa,λρ σ σ' h H Q R S w=>ra ρ σ σ' h H _ R S (W.bind w λρ1 x x' h1 H1 e1 R1 q1 w1=>?_)⟩;obtain⟨d,td,w2⟩:=Hk hK R1 q1 w1;exact⟨d,td,W.here w2 R1 (.bl _)⟩
theorem pZ(hK:X.K=T.K)(ha:QE X T E a ma)(he:lp a=aB):QT X T E a (λσ=>(ma σ).bind cV):=by
 obtain⟨ta,pa,ra⟩:=ha;refine⟨_,D8 pa (B7 he),λρ σ σ' h H Q R S w=>ra ρ σ σ' h H _ R S (W.bind w λρ1 x x' h1 H1 e1 R1 q1 w1=>?_)⟩;unfold cV at w1;cases e:fu h1 x with
 |none=>rw[e]at w1;exact w1.elim|some d=>rw[e]at w1;exact⟨d,EH hK R1 q1 e,w1.here R1 rfl⟩
theorem Rb{ρ:List Addr}{h:AH}{H:Hp}{z:AV}{z':V}{Q:Bool->Hp->Prop}(R:bL T ρ h H)(r:aT T ρ H z z')(w:W T RB (match qZ z with
  |some d=>Res.ok d h
  |none=>.bad) ρ H Q E):∃k,z' = .bl k/\Q k H:=by
 cases z with
 |bl d=>cases r;exact⟨d,rfl,W.here w R rfl⟩|_=>exact w.elim
def cm(z:AV):M Bool:=λh=>match qZ z with
 |some d=>.ok d h
 |none=>.bad
theorem U9{op:sH}{g:AV->AV->M AV}(ho:eC X T E (dM op) g)(ha:QE X T E a ma)(hb:QE X T E b mb)(hm:uh op b=aF):QT X T E (.Compare a [op] [b] pos) (λσ=>(tT g (ma σ) (mb σ)).bind cm):=by obtain⟨r,hr,hg⟩:=ho;obtain⟨ta,pa,ra⟩:=ha;obtain⟨tb,pb,rb⟩:=hb;refine⟨_,Zj hr pa pb hm,λρ σ σ' h H Q R S w=>?_⟩;have w':W T (aT T) (tT g (ma σ) (mb σ) h) ρ H (λx H'=>∃k,x = .bl k/\Q k H') E:=W.bind w λρ1 z z' h1 H1 e1 R1 q1 w1=>Rb R1 q1 w1;exact qz ra rb R S w' λρ2 x y x' y' h2 H2 _ R2 q1 q2 _ w2=>hg ρ2 h2 H2 x y x' y' _ R2 q1 q2 w2
theorem V0(ha:QT X T E a mt):QT X T E (.UnaryOp .Not a pos) (λσ=>(mt σ).bind λb=>M.ret (!b)):=by obtain⟨ta,pa,ra⟩:=ha;refine⟨_,D7 pa,λρ σ σ' h H Q R S w=>ra ρ σ σ' h H _ R S (W.bind w λρ1 x x' h1 H1 e1 R1 q1 w1=>?_)⟩;have q1':x=x':=q1;subst q1';exact W.here w1 R1 rfl
theorem V3(ha:QT X T E a mt):QW X T E (.BoolOp .And [a] pos) mt:=let ⟨t,p,r⟩:=ha;⟨t,E4 p,r⟩
theorem V5(ha:QT X T E a mt):QW X T E (.BoolOp .Or [a] pos) mt:=let ⟨t,p,r⟩:=ha;⟨t,E6 p,r⟩
theorem V2(ha:QT X T E a mt)(hb:QW X T E (.BoolOp .And (b::rest) pos) mu):QW X T E (.BoolOp .And (a::b::rest) pos) (λσ=>Qs (mt σ) (mu σ)):=by
 obtain⟨ta,pa,ra⟩:=ha;obtain⟨tb,pb,rb⟩:=hb;refine⟨_,E3 pa pb,λρ σ σ' h H Q R S w=>ra ρ σ σ' h H _ R S (W.bind w λρ1 x x' h1 H1 e1 R1 q1 w1=>?_)⟩;have q1':x=x':=q1;subst q1';cases x with
 |true=>exact rb ρ1 σ σ' h1 H1 Q R1 (S.ext e1) w1|false=>exact W.here w1 R1 rfl
theorem V4(ha:QT X T E a mt)(hb:QW X T E (.BoolOp .Or (b::rest) pos) mu):QW X T E (.BoolOp .Or (a::b::rest) pos) (λσ=>Yr (mt σ) (mu σ)):=by
 obtain⟨ta,pa,ra⟩:=ha;obtain⟨tb,pb,rb⟩:=hb;refine⟨_,E5 pa pb,λρ σ σ' h H Q R S w=>ra ρ σ σ' h H _ R S (W.bind w λρ1 x x' h1 H1 e1 R1 q1 w1=>?_)⟩;have q1':x=x':=q1;subst q1';cases x with
 |true=>exact W.here w1 R1 rfl|false=>exact rb ρ1 σ σ' h1 H1 Q R1 (S.ext e1) w1
theorem E8:QA X T E [] (λ_=>M.ret []):=⟨_,oW,λρ _ _ h H Q R _ w=>W.here w R .nil⟩
theorem E7(ha:QE X T E e m)(hr:QA X T E es mr)(hs:bP e=aB):QA X T E (e::es) (λσ=>Sh (m σ) (mr σ)):=by obtain⟨ta,pa,ra⟩:=ha;obtain⟨tr,pr,rr⟩:=hr;refine⟨_,mM pa pr (dY hs),λρ σ σ' h H Q R S w=>ra ρ σ σ' h H _ R S (W.bind w λρ1 x x' h1 H1 e1 R1 q1 w1=>?_)⟩;exact rr ρ1 σ σ' h1 H1 _ R1 (S.ext e1) (W.bind w1 λρ2 xs dF h2 H2 e2 R2 q2 w2=>W.here w2 R2 (.cons (q1.ext e2) q2))
theorem C2{ρ:List Addr}{p:Addr}{H:Hp}{O:HO}(hp:H p=aD):Ext ρ H (ρ++[p]) (aZ H p O):=⟨λk z e=>by have hl:=(List.getElem?_eq_some_iff.mp e).1;rw[uL hl];exact e,(Ext.jR (ρ:=ρ) hp).tup,(Ext.jR (ρ:=ρ) hp).dX⟩
theorem kq{ρ:List Addr}{h:AH}{H:Hp}{xs:List AV}{dF:List V}{Q:VK}{p:Addr}(R:bL T ρ h H)(r:bB T ρ H xs dF)(hp:H p=aD)(w:W T (aT T) (mL xs h) ρ H Q E):Q (.ref p) (aZ H p (.lst dF)):=by obtain⟨R',ex⟩:=R.alloc (o:=.lst aB xs) (O:=.lst dF) hp ⟨_,gY,r.ext (C2 hp)⟩;exact W.ok w ex R' (.ref (by rw[<- R.len];simp))
theorem yq{ρ:List Addr}{h:AH}{H:Hp}{xs:List AV}{dF:List V}{Q:VK}{p:Addr}(R:bL T ρ h H)(r:bB T ρ H xs dF)(hp:H p=aD)(w:W T (aT T) (.ok (.tup xs) h) ρ H Q E):Q (.ref p) (aZ H p (.tup dF)):=
 W.ok w (.jR hp) (R.keep hp) (.tup (.of gY) (r.ext (.jR hp)))
theorem J4{k:Nat}(h:QA X T E es mr):QE X T E (.Tuple es k pos) (λσ=>Ls (mr σ)):=by obtain⟨tr,pr,rr⟩:=h;refine⟨_,A0 pr,λρ σ σ' h H Q R S w=>rr ρ σ σ' h H _ R S (W.bind w λρ1 xs dF h1 H1 e1 R1 q1 w1=>?_)⟩;obtain⟨hz,w1⟩:=cv w1;exact⟨by rw[<- q1.length];exact hz,λp hp=>yq R1 q1 hp w1⟩
theorem G9(h:QA X T E es mr):QE X T E (.List es pos) (λσ=>vQ (mr σ)):=by obtain⟨tr,pr,rr⟩:=h;refine⟨_,y6 pr,λρ σ σ' h H Q R S w=>rr ρ σ σ' h H _ R S (W.bind w λρ1 xs dF h1 H1 e1 R1 q1 w1=>?_)⟩;obtain⟨hz,w1⟩:=cv w1;exact⟨by rw[<- q1.length];exact hz,λp hp=>kq R1 q1 hp w1⟩
def CH(T:Tab)(g:List AV->M AV):Sp:=λvs H Q E=>∃ρ h args,bL T ρ h H/\bB T ρ H args vs/\W T (aT T) (g args h) ρ H Q E
structure Fn(X:Cx)(T:Tab)(E:XK)(x:Str)(g:List AV->M AV):Prop where
 ex:∃(k:Nat) (f:Addr) (fd:eW) (ps:List Str),iN X.prog X.w X.K X.mg X.base (dU X.prog X.w) k f fd ps (CH T g)/\fL (k+1) X.A/\X.mg x=aA (.ref f)/\ic X.K (.ref f)=aB/\Binds X.K fd ps []/\jc (dU X.prog X.w) X E
theorem F5{x:Str}{p:Pos}{g:List AV->M AV} (F:Fn X T E x g) (hg:Gl X x) (hd:(x==("__debug__":Str))=aF):QE X T E (.Call (.Name x p) [] [] pos) (λ_=>g []):=by obtain⟨k,f,fd,ps,F,hr,hm,hk,hb,hx⟩:=F.ex;exact⟨_,v9 F (hr.mono (xD _)) hg hm hk hb .nil hx hd,λρ σ σ' h H Q R S w=>⟨ρ,h,[],R,.nil,w⟩⟩
theorem F4{x:Str}{p:Pos}{g:List AV->M AV} (F:Fn X T E x g) (hg:Gl X x) (ha:QA X T E (e::es) mr) (hs:(e::es).all bP=aB) (hd:(x==("__debug__":Str))=aF):QE X T E (.Call (.Name x p) (e::es) [] pos) (λσ=>(mr σ).bind g):=by obtain⟨k,f,fd,ps,F,hr,hm,hk,hb,hx⟩:=F.ex;obtain⟨tr,pr,rr⟩:=ha;rw[hG,aY]at hs;refine⟨_,v8 F (hr.mono (xD _)) hg hm hk hb .nil hx pr hd (dY hs.1) (zK hs.2),λρ σ σ' h H Q R S w=>rr ρ σ σ' h H _ R S (W.bind w λρ1 xs dF h1 H1 e1 R1 q1 w1=>?_)⟩;rw[iS];exact⟨ρ1,h1,xs,R1,q1,w1⟩
theorem bB.flat{ρ:List Addr}{H:Hp}{xs:List AV}{ys:List V}(r:bB T ρ H xs ys):∀(k:Nat),bB T ρ H (cJ k xs).flatten (cJ k ys).flatten
 |0=>.nil
 |k+1=>by rw[pG,pG,gq,gq];exact r.append (bB.flat r k)
theorem p9:eC X T E (eI .Mult) cq:=by
 obtain⟨r0,p0,q0⟩:=(rN g9 λ_ _ h=>ZE h:eC X T E (eI .Mult) (lN rL (·*·)));refine⟨_,p0.or (j8.or g7),λρ h H x y x' y' Q R rx ry w=>?_⟩;cases x with
 |str z=>
  cases y with
  |int k=>
   cases rx;cases ry;simp only[cq]at w;by_cases hz:z.length<=1000/\0<=k/\k<=1000/\(sM z k).length<=sizeLine
   .rw[if_pos hz]at w;exact .inr (.inr ⟨z,k,rfl,rfl,hz.1,hz.2.1,hz.2.2.1,hz.2.2.2,W.here w R (.str _)⟩)
   .rw[if_neg hz]at w;exact w.elim
  |_=>exact w.elim
 |ref n=>
  refine .inr ?_;refine .inl ?_;cases y with
  |int k=>
   cases ry;cases rx with
   |@ref _ a q=>
    simp only[cq]at w;cases o:h.ob n with
    |none=>simp only[o]at w;exact w.elim|some u=>
     simp only[o]at w;cases u with
     |lst m xs=>
      cases m with
      |false=>exact w.elim|true=>
       dsimp only at w;by_cases hz:0<=k/\xs.length*k.toNat<=sizeLine/\k<2 ^ 63
       .rw[if_pos hz]at w;obtain⟨ys,h1,h2⟩:=R.obj n _ a o q;refine⟨a,k,ys,rfl,rfl,h1,by omega,hz.2.2,by rw[<- h2.length];exact hz.2.1,λp hp=>?_⟩;exact kq R (h2.flat _) hp w
       .rw[if_neg hz]at w;exact w.elim
     |_=>exact w.elim
  |_=>exact w.elim
 |_=>exact .inl (q0 ρ h H _ _ _ _ Q R rx ry w)
end
inductive Out where
 |nx (σ:aH)|ret (v:AV)|brk (σ:aH)|cnt (σ:aH)
inductive gB where
 |nx (σ:L2.St)|ret (v:V)|brk (σ:L2.St)|cnt (σ:L2.St)
def RO(T:Tab):Rl Out gB:=λρ H a b=>match a,b with
 |.nx σ,.nx σ'=>cT T ρ H σ σ'
 |.ret v,.ret v'=>aT T ρ H v v'
 |.brk σ,.brk σ'=>cT T ρ H σ σ'
 |.cnt σ,.cnt σ'=>cT T ρ H σ σ'
 |_,_=>False
def iK(D:Ends):gB->Hp->Prop
 |.nx σ=>D.nx σ
 |.ret v=>D.rt v
 |.brk σ=>D.bk σ
 |.cnt σ=>D.ct σ
def QS(X:Cx)(T:Tab)(E:XK)(st:Stmt)(m:aH->M Out):Prop:=
 ∃t,PS X st t/\∀ρ σ σ' h H D,bL T ρ h H->cT T ρ H σ σ'->W T (RO T) (m σ h) ρ H (iK D) E->t D σ' H
def uY(X:Cx)(T:Tab)(E:XK)(st:List Stmt)(m:aH->M Out):Prop:=
 ∃t,oH X st t/\∀ρ σ σ' h H D,bL T ρ h H->cT T ρ H σ σ'->W T (RO T) (m σ h) ρ H (iK D) E->t D σ' H
def QG(X:Cx)(T:Tab)(E:XK)(tg:aJ)(g:AV->aH->M aH):Prop:=
 ∃t,PG X tg t/\∀ρ v v' σ σ' h H Q,bL T ρ h H->cT T ρ H σ σ'->aT T ρ H v v'->W T (cT T) (g v σ h) ρ H Q E->t v' σ' H Q
def bj(X:Cx)(T:Tab)(E:XK)(qp:List aJ)(g:List AV->aH->M aH):Prop:=
 ∃t,jb X qp t/\∀ρ vs vs' σ σ' h H Q,bL T ρ h H->cT T ρ H σ σ'->bB T ρ H vs vs'->W T (cT T) (g vs σ h) ρ H Q E->t vs' σ' H Q
def BU(m:M Out)(k:aH->M Out):M Out:=m.bind λo=>match o with
 |.nx σ=>k σ
 |.ret v=>M.ret (.ret v)
 |.brk σ=>M.ret (.brk σ)
 |.cnt σ=>M.ret (.cnt σ)
section
variable {X:Cx}{T:Tab}{E:XK}{a b c e tg:aJ}{es:List aJ}{ma mb mc m:aH->M AV}{mt:aH->M Bool}{ms mk:aH->M Out}{pos:Pos}{st:Stmt}{sts rest:List Stmt}{g:AV->aH->M aH}{gs:List AV->aH->M aH}
theorem fS:QS X T E st (λ_=>M.bad):=⟨_,C8,λ_ _ _ _ _ _ _ _ w=>w⟩
theorem U8:uY X T E [] (λσ=>M.ret (.nx σ)):=⟨_,lx,λρ σ σ' h H D R S w=>W.here (b:=gB.nx σ') w R S⟩
theorem U7(h1:QS X T E st ms)(h2:uY X T E rest mk):uY X T E (st::rest) (λσ=>BU (ms σ) mk):=by
 obtain⟨t,p,r⟩:=h1;obtain⟨u,q,s⟩:=h2;refine⟨_,lu p q,λρ σ σ' h H D R S w=>r ρ σ σ' h H _ R S (W.bind w λρ1 o o' h1 H1 e1 R1 q1 w1=>?_)⟩;cases o with
 |nx σ1=>cases o' with
  |nx σ1'=>exact s ρ1 σ1 σ1' h1 H1 D R1 q1 w1|_=>exact q1.elim
 |ret v=>cases o' with
  |ret v'=>exact(W.here (Q:=iK D) (b:=gB.ret v') w1 R1 q1:D.rt v' H1)|_=>exact q1.elim
 |brk σ1=>cases o' with
  |brk σ1'=>exact(W.here (Q:=iK D) (b:=gB.brk σ1') w1 R1 q1:D.bk σ1' H1)|_=>exact q1.elim
 |cnt σ1=>cases o' with
  |cnt σ1'=>exact(W.here (Q:=iK D) (b:=gB.cnt σ1') w1 R1 q1:D.ct σ1' H1)|_=>exact q1.elim
theorem AN:QS X T E (.Pass pos) (λσ=>M.ret (.nx σ)):=⟨_,C9,λρ σ σ' h H D R S w=>W.here (b:=gB.nx σ') w R S⟩
theorem U0:QS X T E (.Break pos) (λσ=>M.ret (.brk σ)):=⟨_,C4,λρ σ σ' h H D R S w=>W.here (b:=gB.brk σ') w R S⟩
theorem U1:QS X T E (.Continue pos) (λσ=>M.ret (.cnt σ)):=⟨_,C5,λρ σ σ' h H D R S w=>W.here (b:=gB.cnt σ') w R S⟩
theorem U2(he:QE X T E e m)(hs:bP e=aB)(hlc:rJ e=aF):QS X T E (.Expr e pos) (λσ=>(m σ).bind λ_=>M.ret (.nx σ)):=by obtain⟨t,p,r⟩:=he;exact⟨_,Zh p (pz hs hlc),λρ σ σ' h H D R S w=>r ρ σ σ' h H _ R S (W.bind w λρ1 x x' h1 H1 e1 R1 q1 w1=>W.here (b:=gB.nx σ') w1 R1 (S.ext e1))⟩
theorem AO(he:QE X T E e m):QS X T E (.Return (aA e) pos) (λσ=>(m σ).bind λv=>M.ret (.ret v)):=by obtain⟨t,p,r⟩:=he;exact⟨_,Zi p,λρ σ σ' h H D R S w=>r ρ σ σ' h H _ R S (W.bind w λρ1 x x' h1 H1 e1 R1 q1 w1=>W.here (b:=gB.ret x') w1 R1 q1)⟩
theorem AQ:QS X T E (.Return aD pos) (λ_=>M.ret (.ret .aK)):=⟨_,D1,λρ σ σ' h H D R S w=>W.here (b:=gB.ret .aK) w R .aK⟩
theorem U4(hc:QT X T E c mt)(ha:uY X T E sts ms)(hb:uY X T E rest mk):QS X T E (.If c sts rest pos) (λσ=>yb (mt σ) (ms σ) (mk σ)):=by
 obtain⟨tc,pc,rc⟩:=hc;obtain⟨ta,pa,ra⟩:=ha;obtain⟨tb,pb,rb⟩:=hb;refine⟨_,C7 pc pa pb,λρ σ σ' h H D R S w=>rc ρ σ σ' h H _ R S (W.bind w λρ1 d d' h1 H1 e1 R1 q1 w1=>?_)⟩;have q1':d=d':=q1;subst q1';cases d with
 |true=>exact ra ρ1 σ σ' h1 H1 D R1 (S.ext e1) w1|false=>exact rb ρ1 σ σ' h1 H1 D R1 (S.ext e1) w1
theorem tW:QG X T E tg (λ_ _=>M.bad):=⟨λ_ _ _ _=>False,λ_ _ _ _ _ _ _ _ _ h=>h.elim,λ_ _ _ _ _ _ _ _ _ _ _ w=>w⟩
theorem yz{i:Nat}{x:Str}(hN:X.N.Nodup)(hi:X.N[i]?=aA x)(hx:oG X.env.scope x)(hf:X.fn x=aB\/X.env.scope.names.lookup x=aA .local):QG X T E (.Name x pos) (λv σ=>M.ret (σ.set i (aA v))):=
 ⟨_,A3 hN hi hx hf,λρ v v' σ σ' h H Q R S r w=>W.here w R (S.set r i)⟩
def Ho(vs:List AV)(σ:aH):M aH:=match vs with
 |[]=>M.ret σ
 |_=>M.bad
def Hn(g:AV->aH->M aH)(gs:List AV->aH->M aH)(vs:List AV)(σ:aH):M aH:=match vs with
 |v::r=>(g v σ).bind λσ1=>gs r σ1
 |[]=>M.bad
theorem Zr:bj X T E [] Ho:=⟨_,A7,λρ vs vs' σ σ' h H Q R S r w=>by
 cases r with
 |nil=>exact⟨rfl,W.here w R S⟩|cons _ _=>exact w.elim⟩
def nV:aJ->Bool
 |.Name ..=>aB | .Tuple ..=>aB | .Subscript ..=>aB | .Attribute ..=>aB
 |_=>aF
theorem Bh{t:aJ}{ts:List aJ}{env:Env}(h:nV t=aB):qU (t::ts) env=(aF,uS t env)::qU ts env:=by cases t<;>first|rfl|cases h
theorem Zq(h1:QG X T E tg g)(h2:bj X T E es gs)(ht:nV tg=aB):bj X T E (tg::es) (Hn g gs):=by
 obtain⟨t,p,r⟩:=h1;obtain⟨u,q,s⟩:=h2;refine⟨_,A6 p q (by rw[Bh ht];rfl),λρ vs vs' σ σ' h H Q R S rv w=>?_⟩;cases rv with
 |nil=>exact w.elim|cons r1 rs=>exact⟨_,_,rfl,r ρ _ _ σ σ' h H _ R S r1 (W.bind w λρ1 σ1 σ1' h1 H1 e1 R1 q1 w1=>s ρ1 _ _ σ1 σ1' h1 H1 Q R1 q1 (rs.ext e1) w1)⟩
theorem RH{ts:List aJ}{env:Env}(h:ts.all nV=aB):(qU ts env).length=ts.length/\(qU ts env).findIdx? (·.1)=aD:=by
 induction ts with
 |nil=>exact⟨rfl,rfl⟩|cons t ts ih=>rw[hG,aY]at h;rw[Bh h.1];obtain⟨h1,h2⟩:=ih h.2;refine⟨by rw[hJ,hJ,h1],?_⟩;rw[Nw,h2];rfl
end
section
variable {prog:bG}{w:bD}{A:bS}{E:Value->aG->Prop}{s:aG}
theorem Ta{it l:Addr}{items:Array Value}(hne:l≠it):∀(n i:Nat) (s:aG) (Q:List Value->aG->Prop),s.heap.IsListIter it l i->s.heap.IsList l items->i+n<=items.size ->
  (∀h',h'.IsListIter it l (i+n)->zX it s.heap h'->Q ((items.toList.drop i).take n) { s with heap:=h' })->aO (aS prog w) A (draw (.ref it) n) Q E s
 |0,i,s,Q,hit,_,_,hQ=>by show aO _ _ (pure []) Q E s;exact bH (by simpa using hQ s.heap hit (Heap.SameBut.refl ..))
 |n+1,i,s,Q,hit,ht,hle,hQ=>by
  have hlt:i<items.size:=by omega
  show aO _ _ (xK (.ref it)>>=_) Q E s;refine aL (MH hit ht (x:=items[i]) (by simp[hlt]) λh₁ hit₁ hs₁=>?_);refine aL (kG (Ta hne n (i+1) _ _ hit₁ (ht.extBut hs₁.extBut hne) (by omega) λh₂ hit₂ hs₂=>bH ?_));have hd:items.toList.drop i=items[i]::items.toList.drop (i+1):=by simp[Np,hlt]
  have:=hQ h₂ (by rw[show i+(n+1)=i+1+n by omega];exact hit₂) (hs₁.trans hs₂);rw[hd,af]at this;exact this
theorem aEw{t:Addr}{items:Array Value}{Q:List Value->aG->Prop}(hh:A.handled=aD)(ht:s.heap.IsList t items)
  (hQ:∀h',rj s.heap.objs.size s.heap h'->Q items.toList { s with heap:=h' }):aO (aS prog w) A (unpackItems (.ref t) items.size aD) Q E s:=by
 have hlt:t≠s.heap.objs.size:=by obtain⟨o,ho,_⟩:=ht;exact bU (cU ho)
 unfold unpackItems;refine aL ?_
 .unfold notIterableAtAll;refine aL (MI ht.typeIs PySem.slot_list_iter.lookup ?_);refine bH ?_;simp only[Ck,if_false];refine aL (kG (uw ht ?_));have ht0:(s.heap.push { cls:=.type "list_iterator",data:=.fields #[.ref t,.int 0 0] }).IsList t items:=ht.at λo e=>dH _ e;refine aL (kG (Ta hlt items.size 0 _ _ ⟨_,iM _ rfl,rfl,rfl⟩ ht0 (by omega) λh₁ hit₁ hs₁=>?_));have oS:List.take items.size (List.drop 0 items.toList)=items.toList:=by rw[xB];exact qQ (by simp)
  rw[oS];rw[if_neg (by simp)];have ht₁:h₁.IsList t items:=ht0.extBut hs₁.extBut hlt;refine aL (kG (MG hh hit₁ ht₁ (by simp) λh₂ he₂=>?_));simp only[Option.isSome_none,Ck,if_false];refine bH (hQ h₂ λb o hb e=>he₂ b o hb (hs₁.extBut b o hb (dH _ e)))
theorem MT{env:Env}{elts:List aJ}{x1}{pos:Pos}{t:Addr}{items:Array Value}{Q:Unit->aG->Prop}(hh:A.handled=aD)(ht:s.heap.IsList t items)
  (hn:(qU elts env).length=items.size) (VO:(qU elts env).findIdx? (·.1)=aD)
  (h:∀h',rj s.heap.objs.size s.heap h'->aO (aS prog w) A (LH ((qU elts env).map (·.2)) items.toList) Q E { s with heap:=h' }) :
  aO (aS prog w) A (uS (.Tuple elts x1 pos) env (.ref t)) Q E s:=by
 rw[assign_Tuple];refine aL (iu ?_);unfold unpack;rw[hn,VO];exact aL (kG (aEw hh ht h))
end
section
variable {X:Cx}{T:Tab}{E:XK}{a b c e tg:aJ}{es:List aJ}{ma mb mc m:aH->M AV}{mt:aH->M Bool}{ms mk:aH->M Out}{pos:Pos}{st:Stmt}{sts rest:List Stmt}{g:AV->aH->M aH}{gs:List AV->aH->M aH}
def UJ(K:aX)(n:Nat)(t:xT):TG:=λv σ H Q=>∃a xs,v = .ref a/\(cW K H a xs\/dE K H a xs)/\xs.length=n/\t xs σ H Q
theorem A4{k:Nat}{t:xT}(hc:X.calm=aB)(h:jb X es t)(hs:es.all nV=aB):PG X (.Tuple es k pos) (UJ X.K es.length t):=by
 obtain⟨hn,hst⟩:=RH (env:=X.env) hs;intro pins s σ H v u Q I r hw;obtain⟨a,xs,e1,hq,hl,hw⟩:=hw;subst e1;cases r;rcases hq with hq|hq
 .obtain⟨its,rv,ht,hz⟩:=I.list hq;refine MT (I.ok.hd hc) ht.isList (by simp[hn,<- hl,rv.length]) hst λh' hx=>?_;have I1:Inv X pins σ H { s with heap:=h' }:=I.kept (t':=s.toks) λb o e=>hx b o (bU (cU e)) e;exact h pins _ σ H xs _ Q I1 (by simpa using rv) hw
 .obtain⟨its,rv,ht,hz⟩:=I.tuple hq;refine assign_Tuple_tuple (I.ok.hd hc) ht (by simp[hn,<- hl,rv.length]) hst λh' hx=>?_;have I1:Inv X pins σ H { s with heap:=h' }:=I.kept (t':=s.toks) λb o e=>hx b o (bU (cU e)) e;exact h pins _ σ H xs _ Q I1 (by simpa using rv) hw
def tL(n:Nat)(gs:List AV->aH->M aH)(v:AV)(σ:aH):M aH:=λh=>match eD h v with
 |some xs=>if xs.length=n then gs xs σ h else .bad
 |none=>.bad
theorem Zp(hK:X.K=T.K)(hc:X.calm=aB){k:Nat}(h:bj X T E es gs)(hs:es.all nV=aB):QG X T E (.Tuple es k pos) (tL es.length gs):=by
 obtain⟨t,p,r⟩:=h;refine⟨_,A4 hc p hs,λρ v v' σ σ' h H Q R S rv w=>?_⟩;unfold tL at w;cases q:eD h v with
 |none=>rw[q]at w;exact w.elim|some xs=>
  rw[q]at w;by_cases hl:xs.length=es.length
  .simp only[if_pos hl]at w;obtain⟨p,ys,rfl,hq,hr⟩:=zJ R rv q;exact⟨p,ys,rfl,by rw[hK];exact hq,by rw[<- hr.length];exact hl,r ρ xs ys σ σ' h H Q R S hr w⟩
  .simp only[if_neg hl]at w;exact w.elim
def rG(o i v:AV):M Unit:=λh=>match o,i with
 |.ref n,.int k=>match h.ob n with
  |some (.lst aB xs)=>match kR xs.length k with
   |some j=>.ok () (h.put n (.lst aB (xs.set j v)))
   |none=>.bad
  |_=>.bad
 |_,_=>.bad
def vM(o i v:AV):M Unit:=λh=>match fG h o with
 |some aE=>match o,iY i with
  |.ref n,aA k=>if aE.length<sizeLine then .ok () (h.put n (.bQ (jP aE k v))) else .bad
  |_,_=>.bad
 |none=>rG o i v h
theorem K1(hu:X.A.units+1<cLine)(ha:QE X T E a ma)(hb:QE X T E b mb)(hs:bP b=aB):QG X T E (.Subscript a b pos) (λv σ=>(ma σ).bind λo=>(mb σ).bind λi=>(vM o i v).bind λ_=>M.ret σ):=by
 obtain⟨ta,pa,ra⟩:=ha;obtain⟨tb,pb,rb⟩:=hb;refine⟨_,A5 pa pb (aAj hu) (by intro v;cases b<;>first|rfl|cases hs),λρ v v' σ σ' h H Q R S rv w=>?_⟩;refine qz ra rb R S w λρ2 x y x' y' h2 H2 e2 R2 q1 q2 S2 w2=>?_;have rv2:=rv.ext e2;cases d:fG h2 x with
 |some aE=>
  refine .inr ?_;obtain⟨n,a,us,rfl,q,o,rfl,g,r⟩:=bz R2 q1 d;cases k:iY y with
  |none=>simp only[M.bind,vM,d,k]at w2;exact w2.elim|some k'=>
   by_cases hz:aE.length<sizeLine
   .simp only[M.bind,vM,d,k,if_pos hz]at w2;have ex:Ext ρ2 H2 ρ2 (aZ H2 a (.dK (lP us k' v'))):=⟨λ_ _ z=>z,λb xs z=>by
     rw[bW (tS z g λw=>by cases w)];exact z,λb x u z=>by
     rw[bW (tS z g λw=>by cases w)];exact z⟩
    obtain⟨R3,e3⟩:=R2.write (o':=.bQ (jP aE k' v)) (O':=.dK (lP us k' v')) o rfl rfl q g (λ_ z=>by cases z) (λ_ _ z=>by cases z) (QQ gY ((aAa r rv2).ext ex));refine⟨a,_,rfl,?_,W.ok w2 e3 R3 (S2.ext e3)⟩;rw[cy q2 k];exact iw.k g (by rw[<- Z8 r];exact hz)
   .simp only[M.bind,vM,d,k,if_neg hz]at w2;exact w2.elim
 |none=>
 refine .inl ?_;have w2:W T (cT T) (((rG x y v).bind λ_=>M.ret σ) h2) ρ2 H2 Q E:=by
  have e:(vM x y v) h2=rG x y v h2:=by simp only[vM,d]
  simp only[M.bind,e]at w2 ⊢;exact w2
 cases x with
 |ref n=>
  cases y with
  |int k=>
   cases q2;cases q1 with
   |@ref _ p q=>
    cases o:h2.ob n with
    |none=>simp only[M.bind,rG,o]at w2;exact w2.elim|some u=>
     cases u with
     |lst mu xs=>
      cases mu with
      |true=>
       obtain⟨ys,g1,r1⟩:=R2.obj n _ p o q;cases j:kR xs.length k with
       |none=>simp only[M.bind,rG,o,j]at w2;exact w2.elim|some jj=>
        simp only[M.bind,rG,o,j]at w2;obtain⟨R3,e3⟩:=R2.write (o':=.lst aB (xs.set jj v)) (O':=.lst (ys.set jj v')) o rfl rfl q g1 (λ_ z=>by cases z) (λ_ _ z=>by cases z) ⟨_,gY,by
         have:Ext ρ2 H2 ρ2 (aZ H2 p (.lst (ys.set jj v'))):=⟨λ_ _ z=>z,λb xs z=>by
          rw[bW (tS z g1 λw=>by cases w)];exact z,λb x u z=>by
          rw[bW (tS z g1 λw=>by cases w)];exact z⟩
         exact(bB.set rv2 jj r1).ext this⟩
        exact⟨p,ys,k,jj,rfl,rfl,g1,by rw[<- r1.length];exact j,W.ok w2 e3 R3 (S2.ext e3)⟩
      |false=>simp only[M.bind,rG,o]at w2;exact w2.elim
     |bQ _=>simp only[M.bind,rG,o]at w2;exact w2.elim|ins _ _=>simp only[M.bind,rG,o]at w2;exact w2.elim|xo _=>simp only[M.bind,rG,o]at w2;exact w2.elim
  |_=>exact w2.elim
 |_=>exact w2.elim
theorem aCc{env:Env}{tg:aJ}(h:∀es k p,tg = .Tuple es k p->∀vs k2 p2,e ≠ .Tuple vs k2 p2)(h2:nV tg=aB):Er [tg] e env=pure aD:=by
 cases tg with
 |Tuple es k p=>
  cases e with
  |Tuple vs k2 p2=>exact absurd rfl (h es k p rfl vs k2 p2)|_=>rfl
 |_=>first|cases h2;done|(cases e<;>rfl)
theorem T8(he:QE X T E e m)(hg:QG X T E tg g)(hs:bP e=aB)(hlc:rJ e=aF)(ht:nV tg=aB)(hw:Er [tg] e X.env=pure aD):QS X T E (.Assign [tg] e pos) (λσ=>(m σ).bind λv=>(g v σ).bind λσ1=>M.ret (.nx σ1)):=by obtain⟨te,p,r⟩:=he;obtain⟨t,q,s⟩:=hg;refine⟨_,Zg p q (pz hs hlc) hw (by rw[Bh ht];rfl),λρ σ σ' h H D R S w=>r ρ σ σ' h H _ R S (W.bind w λρ1 x x' h1 H1 e1 R1 q1 w1=>?_)⟩;exact s ρ1 x x' σ σ' h1 H1 _ R1 (S.ext e1) q1 (W.bind w1 λρ2 σ2 σ2' h2 H2 e2 R2 q2 w2=>W.here (Q:=iK D) (b:=gB.nx σ2') w2 R2 q2)
theorem T9(he:QE X T E e m)(hg:QG X T E tg g)(hs:LQ [tg] e pos.line X.env=pure aF)(ht:nV tg=aB)(hw:Er [tg] e X.env=pure aD):QS X T E (.Assign [tg] e pos) (λσ=>(m σ).bind λv=>(g v σ).bind λσ1=>M.ret (.nx σ1)):=by obtain⟨te,p,r⟩:=he;obtain⟨t,q,s⟩:=hg;refine⟨_,Zg p q hs hw (by rw[Bh ht];rfl),λρ σ σ' h H D R S w=>r ρ σ σ' h H _ R S (W.bind w λρ1 x x' h1 H1 e1 R1 q1 w1=>?_)⟩;exact s ρ1 x x' σ σ' h1 H1 _ R1 (S.ext e1) q1 (W.bind w1 λρ2 σ2 σ2' h2 H2 e2 R2 q2 w2=>W.here (Q:=iK D) (b:=gB.nx σ2') w2 R2 q2)
theorem AK(he:QE X T E e m)(hg:QG X T E tg g)(hs:bP e=aB)(hlc:rJ e=aF)(ht:nV tg=aB)(hw:∀es k p,tg = .Tuple es k p->∀vs k2 p2,e ≠ .Tuple vs k2 p2):QS X T E (.Assign [tg] e pos) (λσ=>(m σ).bind λv=>(g v σ).bind λσ1=>M.ret (.nx σ1)):=T8 he hg hs hlc ht (aCc hw ht)
abbrev fR:=Nat->AH->Option (Option AV)
def RI(T:Tab):Rl fR It:=λρ H it J=>∀ρ' h' H' i,Ext ρ H ρ' H'->bL T ρ' h' H' ->
 (it i h'=aA aD->J.stop i H')/\∀v,it i h'=aA (aA v)->J.go i H'/\∀x H2,J.rg i H' x H2->∃ρ2,Ext ρ' H' ρ2 H2/\bL T ρ2 h' H2/\aT T ρ2 H2 v x
def QI(X:Cx)(T:Tab)(E:XK)(tg cO:aJ)(mi:aH->M fR):Prop:=
 ∃wi,PI X tg cO wi/\∀ρ σ σ' h H R,bL T ρ h H->cT T ρ H σ σ'->W T (RI T) (mi σ h) ρ H R E->wi σ' H R
def kN(it:fR)(g:AV->aH->M aH)(body:aH->M Out):Nat->Nat->aH->M Out
 |0,_,_=>M.bad
 |f+1,i,σ=>λh=>match it i h with
  |none=>.bad
  |some aD=>.ok (.nx σ) h
  |some (aA v)=>((g v σ).bind λσ1=>(body σ1).bind λo=>match o with
   |.nx σ2=>kN it g body f (i+1) σ2
   |.cnt σ2=>kN it g body f (i+1) σ2
   |.brk σ2=>M.ret (.nx σ2)
   |.ret v=>M.ret (.ret v)) h
theorem Qh:∃n:Nat,n=1000000:=⟨_,rfl⟩
def FU:Nat:=Qh.choose
theorem fF:FU=1000000:=Qh.choose_spec
theorem U3{cO:aJ}{mi:aH->M fR}(hp:Ot (aS X.prog X.w) X.A X.env X.xe)(hc:X.calm=aB)(hi:QI X T E tg cO mi)(hg:QG X T E tg g)(hb:uY X T E sts ms)(hs:bP cO=aB) :
  QS X T E (.For tg cO sts [] pos) (λσ=>(mi σ).bind λit=>kN it g ms FU 0 σ):=by
 obtain⟨wi,pi,ri⟩:=hi;obtain⟨t,q,s⟩:=hg;obtain⟨u,pb,rb⟩:=hb;refine⟨_,C6 hp hc pi q pb (λx=>Kx hs),λρ0 σ0 σ0' h0 H0 D R0 S0 w0=>ri ρ0 σ0 σ0' h0 H0 _ R0 S0 (W.bind w0 λρ1 it J h1 H1 e1 R1 q1 w1=>?_)⟩;refine⟨λi m σ' H=>∃ρ σ h,Ext ρ1 H1 ρ H/\bL T ρ h H/\cT T ρ H σ σ'/\W T (RO T) (kN it g ms m i σ h) ρ H (iK D) E,⟨FU,ρ1,σ0,h1,.refl,R1,S0.ext e1,w1⟩,?_⟩;rintro i m σ' H ⟨ρ,σ,h,e,R,S,w⟩
 cases m with
 |zero=>exact w.elim|succ f=>
  simp only[kN]at w;cases hit:it i h with
  |none=>rw[hit]at w;exact w.elim|some o=>
   cases o with
   |none=>rw[hit]at w;exact .inl ⟨(q1 ρ h H i e R).1 hit,W.here (Q:=iK D) (b:=gB.nx σ') w R S⟩
   |some v=>
    rw[hit]at w;obtain⟨go,yl⟩:=(q1 ρ h H i e R).2 v hit;refine .inr ⟨go,λσ2' H2=>∃ρ2 σ2 h2,Ext ρ1 H1 ρ2 H2/\bL T ρ2 h2 H2/\cT T ρ2 H2 σ2 σ2'/\W T (RO T) (kN it g ms f (i+1) σ2 h2) ρ2 H2 (iK D) E,λσ2' H2 z=>⟨f,cQ f,z⟩,λx H2 y=>?_⟩;obtain⟨ρ2,e2,R2,rv⟩:=yl x H2 y;refine s ρ2 v x σ σ' h H2 _ R2 (S.ext e2) rv (W.bind (w.ext e2) λρ3 σ3 σ3' h3 H3 e3 R3 S3 w3=>?_);refine rb ρ3 σ3 σ3' h3 H3 _ R3 S3 (W.bind w3 λρ4 o o' h4 H4 e4 R4 q4 w4=>?_);have eE:=((e.trans e2).trans e3).trans e4;cases o with
    |nx σ4=>cases o' with
     |nx σ4'=>exact⟨ρ4,σ4,h4,eE,R4,q4,w4⟩|_=>exact q4.elim
    |cnt σ4=>cases o' with
     |cnt σ4'=>exact⟨ρ4,σ4,h4,eE,R4,q4,w4⟩|_=>exact q4.elim
    |brk σ4=>cases o' with
     |brk σ4'=>exact(W.here (Q:=iK D) (b:=gB.nx σ4') w4 R4 q4:D.nx σ4' H4)|_=>exact q4.elim
    |ret v=>cases o' with
     |ret v'=>exact(W.here (Q:=iK D) (b:=gB.ret v') w4 R4 q4:D.rt v' H4)|_=>exact q4.elim
end
section
variable {prog:bG}{w:bD}{A:bS}{E:Value->aG->Prop}{s:aG}
theorem D9{it t:Addr}{i:Nat}{items:Array Value}{x:Value}{Q:Value->aG->Prop}(hit:s.heap.IsTupleIter it t i)(ht:s.heap.IsTuple t items)(hx:items[i]?=aA x)
  (hQ:∀h',h'.IsTupleIter it t (i+1)->zX it s.heap h'->Q x { s with heap:=h' }):aO (aS prog w) A (sG (.ref it)) Q E s:=by
 obtain⟨o,ho,hc,hd⟩:=id hit;obtain⟨ol,hol,_,nl,hdl⟩:=ht;unfold sG;refine aL (uu (name:=uf "__next__") hit.typeIs Cs (ik Cs hit.typeIs HP ?_ (HL _)));show aO _ _ (sO (.ref it) 0>>=_) _ _ s;refine aL (jI ho hd (x:=.ref t) rfl ?_);show aO _ _ (if(eX t==lW)=aB then _ else _) _ _ s;rw[if_neg (show¬((eX t==lW)=aB) from dG)];show aO _ _ (sO (.ref it) 1>>=_) _ _ s;refine aL (jI ho hd (x:=.int i 0) rfl ?_);show aO _ _ (seqItems? (.ref t)>>=_) _ _ s;refine aL (xM hol hdl ?_);simp only[gm,hx];refine aL (Ey ho hd (by simp) (bH ⟨x,rfl,bH (hQ _ ?_ (HS ..))⟩));exact⟨_,rm _ ho (JU (Du hd _)),(Obj.cls_mapFields ..).trans hc,by rw[Du hd];simp[qW]⟩
theorem E2{it t:Addr}{i:Nat}{items:Array Value}{Q:Value->aG->Prop}(hh:A.handled=aD)(hit:s.heap.IsTupleIter it t i)(ht:s.heap.IsTuple t items)(hx:items[i]?=aD)
  (hE:∀h' e,rj it s.heap h'->(∃o,h'.get? e=aA o/\o.cls = .type "StopIteration")->E (.ref e) { s with heap:=h' }):aO (aS prog w) A (sG (.ref it)) Q E s:=by
 obtain⟨o,ho,hc,hd⟩:=id hit;obtain⟨ol,hol,_,nl,hdl⟩:=ht;unfold sG;refine aL (uu (name:=uf "__next__") hit.typeIs Cs (ik Cs hit.typeIs HP ?_ (HL _)));show aO _ _ (sO (.ref it) 0>>=_) _ _ s;refine aL (jI ho hd (x:=.ref t) rfl ?_);show aO _ _ (if(eX t==lW)=aB then _ else _) _ _ s;rw[if_neg (show¬((eX t==lW)=aB) from dG)];show aO _ _ (sO (.ref it) 1>>=_) _ _ s;refine aL (jI ho hd (x:=.int i 0) rfl ?_);show aO _ _ (seqItems? (.ref t)>>=_) _ _ s;refine aL (xM hol hdl ?_);simp only[gm,hx];refine aL (Qf (aL (Ey ho hd (by simp) ?_)));show aO _ _ (newExc (.type "StopIteration") []>>=_) _ _ _;refine aL ?_;simp only[newExc,newTuple];refine aL (bf ?_ (by size_fits));refine aL (m:=LM _ _) (wpAny_of_eq (a:=lW) (by first|rfl|(simp only[LM];rfl)) ?_);refine bf ?_ (by size_fits);simp only[raiseNew];refine aL (wpAny_handled ?_);first|rw[show A.in1.handled=aD from hh] | rw[hh]
 refine aL (bH (wpAny_throw ?_));exact hE _ _ (((HS ..).extBut.push _).push _) ⟨_,iM _ rfl,rfl⟩
end
structure iE(prog:bG)(w:bD)(A:bS)(it l:Addr)(S:Nat->aQ->Prop)(items:Array Value):Prop where
 keep:∀k h h',S k h->(∀b,b=it\/b=l->∀o,h.get? b=aA o->h'.get? b=aA o)->S k h'
 live:∀k h,S k h->∃o,h.get? it=aA o/\o.cls ≠ .type "zip"/\(∀v,o.data ≠ .cell v)
 item:∀k x (s:aG) (Q:Value->aG->Prop) (E:Value->aG->Prop),S k s.heap->items[k]?=aA x->(∀h',S (k+1) h'->zX it s.heap h'->Q x { s with heap:=h' })->aO (aS prog w) A (sG (.ref it)) Q E s
 done:∀k (s:aG) (Q:Value->aG->Prop) (E:Value->aG->Prop),S k s.heap->items[k]?=aD->(∀h' e,rj it s.heap h'->(∃o,h'.get? e=aA o/\o.cls = .type "StopIteration")->E (.ref e) { s with heap:=h' })->aO (aS prog w) A (sG (.ref it)) Q E s
theorem iE.list{prog:bG}{w:bD}{A:bS}(hh:A.handled=aD){it l:Addr}(hne:l≠it)(items:Array Value):iE prog w A it l (λk h=>h.IsListIter it l k/\h.IsList l items) items where
 keep:=λk h h' st hk=>⟨st.1.at λo e=>hk it (.inl rfl) o e,st.2.at λo e=>hk l (.inr rfl) o e⟩
 live:=λk h st=>let ⟨o,ho,hc,hd⟩:=st.1;⟨o,ho,by rw[hc];decide,λv z=>by rw[hd]at z;cases z⟩
 item:=λk x s Q E st hx hQ=>wpAny_nextOf_list_item st.1 st.2 hx λh' hit' hs'=>hQ h' ⟨hit',st.2.extBut hs'.extBut hne⟩ hs'
 done:=λk s Q E st hx hE=>wpAny_nextOf_list_end hh st.1 st.2 hx hE
theorem iE.tuple{prog:bG}{w:bD}{A:bS}(hh:A.handled=aD){it l:Addr}(hne:l≠it)(items:Array Value):iE prog w A it l (λk h=>h.IsTupleIter it l k/\h.IsTuple l items) items where
 keep:=λk h h' st hk=>⟨st.1.at λo e=>hk it (.inl rfl) o e,let ⟨o,e,r⟩:=st.2;⟨o,hk l (.inr rfl) o e,r⟩⟩
 live:=λk h st=>let ⟨o,ho,hc,hd⟩:=st.1;⟨o,ho,by rw[hc];decide,λv z=>by rw[hd]at z;cases z⟩
 item:=λk x s Q E st hx hQ=>D9 st.1 st.2 hx λh' hit' hs'=>hQ h' ⟨hit',let ⟨o,e,r⟩:=st.2;⟨o,hs'.extBut _ _ hne e,r⟩⟩ hs'
 done:=λk s Q E st hx hE=>E2 hh st.1 st.2 hx hE
section
variable {prog:bG}{w:bD}{A:bS}{E:Value->aG->Prop}{s:aG}{z TI TO i1 i2 l1 l2:Addr}{S1 S2:Nat->aQ->Prop}{xs ys:Array Value}{k:Nat}{a b x y:Value}
theorem oJ(P:iE prog w A i1 l1 S1 xs){h h':aQ}{c:Addr}(st:S1 k h)(e:rj c h h')(n1:i1≠c)(n2:l1≠c):S1 k h':=P.keep k h h' st λb hb o q=>e b o (by rcases hb with rfl|rfl<;>assumption) q
theorem aJf{Q:Value->aG->Prop}(D:aj z TI TO i1 i2 l1 l2)(P1:iE prog w A i1 l1 S1 xs)(P2:iE prog w A i2 l2 S2 ys)(hz:lC s.heap z TI TO .none)(hTI:gA s.heap TI (.ref i1) (.ref i2))(hTO:gA s.heap TO a b)
  (h1:S1 k s.heap) (h2:S2 k s.heap) (hx:xs[k]?=aA x) (hy:ys[k]?=aA y)
  (hQ:∀h',lC h' z TI TO (qW s.heap.objs.size)->gA h' TO x y->S1 (k+1) h'->S2 (k+1) h'->gA h' s.heap.objs.size x y ->
   (∀c o,c≠z->c≠TO->c≠i1->c≠i2->s.heap.get? c=aA o->h'.get? c=aA o)->Q (.ref s.heap.objs.size) { s with heap:=h' }) :
  aO (aS prog w) A (Builtin.«zip.__next__» ⟨[.ref z],[]⟩) (λfin s'=>∃v,fin = .done (.ret v)/\Q v s') E s:=by
 show aO _ _ (sO (.ref z) 2>>=_) _ _ _;refine aL (jI hz rfl (x:=.bool aF) rfl ?_);show aO _ _ (sO (.ref z) 3>>=_) _ _ _;refine aL (jI hz rfl (x:=.ref TI) rfl (aL (xM hTI rfl ?_)));show aO _ _ (Co (.ref z)>>=_) _ _ _;refine aL ?_;unfold Co;refine aL (jI hz rfl (x:=.none) rfl (bH ?_));simp only[if_true];refine aL (Qf (aL (jI hz rfl (x:=.ref TO) rfl (aL (iq hz (by simp) λha za sa=>?_)))));replace za:lC ha z TI TO .ellipsis:=za
 refine aL ?_;simp only[JK,JL,su,IL];refine aL (aL (Ew ?_));show aO _ _ (sG (.ref i1)>>=_) _ _ _;refine aL (P1.item k x _ _ _ (oJ P1 h1 sa.extBut D.i1z D.l1z) hx λhb pb sb=>bH ?_);have tb:gA hb TO a b:=sb.extBut _ _ D.TOi1 (sa.extBut _ _ D.TOz hTO);refine aL (xM tb rfl (aL (Qg tb λhc tc sc=>?_)));replace tc:gA hc TO x b:=tc
 refine aL (Qe (bH (aL (aL (Ew ?_)))));show aO _ _ (sG (.ref i2)>>=_) _ _ _;refine aL (P2.item k y _ _ _ (oJ P2 (oJ P2 (oJ P2 h2 sa.extBut D.i2z D.l2z) sb.extBut D.i12.symm D.l2i1) sc.extBut D.TOi2.symm D.l2TO) hy λhd pd sd=>bH ?_);have td:gA hd TO x b:=sd.extBut _ _ D.TOi2 tc;refine aL (xM td rfl (aL (Qg td λhe te se=>?_)));replace te:gA he TO x y:=te
 refine aL (Qe (bH (bH (aL (xM te rfl (aL (wpAny_newTuple ?_)))))));have size:he.objs.size=s.heap.objs.size:=by rw[se.1,sd.1,sc.1,sb.1,sa.1]
 have ze:lC he z TI TO .ellipsis:=se.extBut _ _ D.TOz.symm (sd.extBut _ _ D.i2z.symm (sc.extBut _ _ D.TOz.symm (sb.extBut _ _ D.i1z.symm za)));have kept:∀c o,c≠z->c≠TO->c≠i1->c≠i2->s.heap.get? c=aA o->he.get? c=aA o:=λc o n1 n2 n3 n4 e=>se.extBut _ _ n2 (sd.extBut _ _ n4 (sc.extBut _ _ n2 (sb.extBut _ _ n3 (sa.extBut _ _ n1 e))));have pe:S1 (k+1) he:=oJ P1 (oJ P1 (oJ P1 pb sc.extBut D.TOi1.symm D.l1TO) sd.extBut D.i12 D.l1i2) se.extBut D.TOi1.symm D.l1TO;have re:S2 (k+1) he:=oJ P2 pd se.extBut D.TOi2.symm D.l2TO;have zlt:z<he.objs.size:=cU ze;show aO _ _ (HA (.ref z) (.ref he.objs.size)>>=_) _ _ _;refine aL ?_;unfold HA;have zf:lC (he.push { cls:=.type "tuple",data:=.seq #[x,y] }) z TI TO .ellipsis:=dH _ ze;refine aL (iq zf (by simp) λhg zg sg=>?_);replace zg:lC hg z TI TO (qW he.objs.size):=zg
 refine iq zg (by simp) λhh zh sh=>?_;replace zh:lC hh z TI TO (qW he.objs.size):=zh
 have up:∀c o,c≠z->he.get? c=aA o->hh.get? c=aA o:=λc o n1 e=>sh.extBut _ _ n1 (sg.extBut _ _ n1 (dH _ e));have new:gA hh he.objs.size x y:=sh.extBut _ _ (pJ zlt) (sg.extBut _ _ (pJ zlt) (iM _ rfl));rw[size]at zh new;refine bH ⟨_,rfl,?_⟩;show Q (.ref he.objs.size) _;rw[size];exact hQ hh zh (up _ _ D.TOz te) (P1.keep _ _ _ pe λc hc o e=>up c o (by rcases hc with rfl|rfl;exact D.i1z;exact D.l1z) e) (P2.keep _ _ _ re λc hc o e=>up c o (by rcases hc with rfl|rfl;exact D.i2z;exact D.l2z) e) new
  λc o n1 n2 n3 n4 e=>up c o n1 (kept c o n1 n2 n3 n4 e)
theorem aJg{Q:Fin->aG->Prop}(D:aj z TI TO i1 i2 l1 l2)(P1:iE prog w A i1 l1 S1 xs)(P2:iE prog w A i2 l2 S2 ys)(hz:lC s.heap z TI TO .none)(hTI:gA s.heap TI (.ref i1) (.ref i2))(hTO:gA s.heap TO a b)
  (h1:S1 k s.heap) (h2:S2 k s.heap) (ke:xs[k]?=aD\/ys[k]?=aD)
  (hE:∀h' e,(∀c o,c≠z->c≠TO->c≠i1->c≠i2->s.heap.get? c=aA o->h'.get? c=aA o)->(∃o,h'.get? e=aA o/\o.cls = .type "StopIteration")->E (.ref e) { s with heap:=h' }) :
  aO (aS prog w) A (Builtin.«zip.__next__» ⟨[.ref z],[]⟩) Q E s:=by
 show aO _ _ (sO (.ref z) 2>>=_) _ _ _;refine aL (jI hz rfl (x:=.bool aF) rfl ?_);show aO _ _ (sO (.ref z) 3>>=_) _ _ _;refine aL (jI hz rfl (x:=.ref TI) rfl (aL (xM hTI rfl ?_)));show aO _ _ (Co (.ref z)>>=_) _ _ _;refine aL ?_;unfold Co;refine aL (jI hz rfl (x:=.none) rfl (bH ?_));simp only[if_true];refine aL (Qf (aL (jI hz rfl (x:=.ref TO) rfl (aL (iq hz (by simp) λha za sa=>?_)))));replace za:lC ha z TI TO .ellipsis:=za
 refine aL ?_;simp only[JK,JL,su,IL];refine aL (aL (Ew ?_));show aO _ _ (sG (.ref i1)>>=_) _ _ _;have sa1:=oJ P1 h1 sa.extBut D.i1z D.l1z;cases hx:xs[k]? with
 |none=>
  refine aL (P1.done k _ _ _ sa1 hx λhb e sb he=>?_);obtain⟨oe,hoe,hce⟩:=he;have zb:lC hb z TI TO .ellipsis:=sb _ _ D.i1z.symm za;have ne:e≠z:=λq=>by subst q;rw[zb]at hoe;cases hoe;simp at hce
  exact iq zb (by simp) λhc _ sc=>hE hc e (λc o n1 _ n3 _ q=>sc.extBut _ _ n1 (sb _ _ n3 (sa.extBut _ _ n1 q))) ⟨oe,sc.extBut _ _ ne hoe,hce⟩
 |some x=>
  have hy:ys[k]?=aD:=by rcases ke with q|q;rw[hx]at q;cases q;exact q
  refine aL (P1.item k x _ _ _ sa1 hx λhb pb sb=>bH ?_);have tb:gA hb TO a b:=sb.extBut _ _ D.TOi1 (sa.extBut _ _ D.TOz hTO);refine aL (xM tb rfl (aL (Qg tb λhc tc sc=>?_)));refine aL (Qe (bH (aL (aL (Ew ?_)))));show aO _ _ (sG (.ref i2)>>=_) _ _ _;refine aL (P2.done k _ _ _ (oJ P2 (oJ P2 (oJ P2 h2 sa.extBut D.i2z D.l2z) sb.extBut D.i12.symm D.l2i1) sc.extBut D.TOi2.symm D.l2TO) hy λhd e sd he=>?_);obtain⟨oe,hoe,hce⟩:=he;have zd:lC hd z TI TO .ellipsis:=sd _ _ D.i2z.symm (sc.extBut _ _ D.TOz.symm (sb.extBut _ _ D.i1z.symm za));have ne:e≠z:=λq=>by subst q;rw[zd]at hoe;cases hoe;simp at hce
  exact iq zd (by simp) λhf _ sf=>hE hf e (λc o n1 n2 n3 n4 q=>sf.extBut _ _ n1 (sd _ _ n4 (sc.extBut _ _ n2 (sb.extBut _ _ n3 (sa.extBut _ _ n1 q))))) ⟨oe,sf.extBut _ _ ne hoe,hce⟩
end
def lH(kd:Bool)(h:aQ)(it l:Addr)(k:Nat):Prop:=if kd=aB then h.IsListIter it l k else h.IsTupleIter it l k
def lX(kd:Bool)(h:aQ)(l:Addr)(items:Array Value):Prop:=if kd=aB then h.IsList l items else h.IsTuple l items
def nA(kd:Bool)(K:aX)(H:Hp)(a:Addr)(xs:List V):Prop:=if kd=aB then cW K H a xs else dE K H a xs
def Gp(kd:Bool):String:=if kd=aB then "list_iterator" else "tuple_iterator"
theorem lH.at{kd:Bool}{h h':aQ}{it l:Addr}{k:Nat}(st:lH kd h it l k)(f:∀o,h.get? it=aA o->h'.get? it=aA o):lH kd h' it l k:=by
 cases kd with
 |true=>exact Heap.IsListIter.at st f|false=>exact Heap.IsTupleIter.at st f
theorem lH.live{kd:Bool}{h:aQ}{it l:Addr}{k:Nat}(st:lH kd h it l k):∃o,h.get? it=aA o/\∀v,o.data ≠ .cell v:=by
 cases kd with
 |true=>obtain⟨o,ho,hc,hd⟩:=(show h.IsListIter it l k from st);exact⟨o,ho,λv z=>by rw[hd]at z;cases z⟩|false=>obtain⟨o,ho,hc,hd⟩:=(show h.IsTupleIter it l k from st);exact⟨o,ho,λv z=>by rw[hd]at z;cases z⟩
theorem iE.kd{prog:bG}{w:bD}{A:bS}(hh:A.handled=aD)(kd:Bool){it l:Addr}(hne:l≠it)(items:Array Value):iE prog w A it l (λk h=>lH kd h it l k/\lX kd h l items) items:=by
 cases kd with
 |true=>exact iE.list hh hne items|false=>exact iE.tuple hh hne items
theorem Vl(kd:Bool)(h:aQ)(l:Addr):lH kd (h.push { cls:=.type (Gp kd),data:=.fields #[.ref l,.int 0 0] }) h.objs.size l 0:=by
 cases kd with
 |true=>exact⟨_,iM _ rfl,rfl,rfl⟩|false=>exact⟨_,iM _ rfl,rfl,rfl⟩
theorem Vn{prog:bG}{w:bD}{A:bS}{E:Value->aG->Prop}{s:aG}(kd:Bool){l:Addr}{items:Array Value}{Q:Value->aG->Prop}(hl:lX kd s.heap l items)
  (hQ:Q (.ref s.heap.objs.size) { s with heap:=s.heap.push { cls:=.type (Gp kd),data:=.fields #[.ref l,.int 0 0] } }):aO (aS prog w) A (um (.ref l)) Q E s:=by
 cases kd with
 |true=>exact uw hl hQ|false=>exact ME hl hQ
theorem lX.push{kd:Bool}{h:aQ}{l:Addr}{items:Array Value}(hl:lX kd h l items)(o:Obj):lX kd (h.push o) l items:=by
 cases kd with
 |true=>exact Heap.IsList.push hl o|false=>obtain⟨ob,e,r⟩:=(show h.IsTuple l items from hl);exact⟨ob,dH _ e,r⟩
noncomputable abbrev zA(kd:Bool)(h:aQ)(l:Addr):aQ:=h.push { cls:=.type (Gp kd),data:=.fields #[.ref l,.int 0 0] }
noncomputable abbrev zB(bY cM:Bool)(h:aQ)(l1 l2:Addr):aQ:=zA cM (zA bY h l1) l2
noncomputable abbrev zC(bY cM:Bool)(h:aQ)(l1 l2:Addr):aQ:=(zB bY cM h l1 l2).push { cls:=.type "tuple",data:=.seq #[.ref h.objs.size,.ref (zA bY h l1).objs.size] }
noncomputable abbrev zD(bY cM:Bool)(h:aQ)(l1 l2:Addr):aQ:=(zC bY cM h l1 l2).push { cls:=.type "tuple",data:=.seq #[.none,.none] }
noncomputable abbrev zE(bY cM:Bool)(h:aQ)(l1 l2:Addr):aQ:=(zD bY cM h l1 l2).push { cls:=.type "zip",data:=.fields #[.none,.bool aF,.bool aF,.ref (zB bY cM h l1 l2).objs.size,.ref (zC bY cM h l1 l2).objs.size] }
theorem aJh(bY cM:Bool)(l1 l2:Addr)(xs ys:Array Value) :
  Meets (Builtin.«zip.__new__» ⟨[.type "zip",.ref l1,.ref l2],[]⟩) (λ_ R s=>lX bY s.heap l1 xs/\lX cM s.heap l2 ys/\R (.ok (.ret (.ref (zD bY cM s.heap l1 l2).objs.size))) { s with heap:=zE bY cM s.heap l1 l2 }):=
 .of_wp λprog w A R s h=>by
  obtain⟨hp,g,d,tk,os⟩:=s;obtain⟨hl1,hl2,h⟩:=h;have Vd:=sub_zip;have hL1:lX bY (Shared.heap ⟨hp,g,d,tk,os⟩) l1 xs:=hl1;have hL2:lX cM (Shared.heap ⟨zA bY hp l1,g,d,tk,os⟩) l2 ys:=lX.push hl2 _;wp_walk using Vn bY hL1,Vn cM hL2
  exact⟨_,rfl,h⟩
section
variable {prog:bG}{w:bD}{A:bS}{E:Value->aG->Prop}{s:aG}
theorem PJ(bY cM:Bool){l1 l2:Addr}{xs ys:Array Value}{Q:Value->aG->Prop}(hl1:lX bY s.heap l1 xs)(hl2:lX cM s.heap l2 ys)
  (h:∀h',lC h' (s.heap.objs.size+4) (s.heap.objs.size+2) (s.heap.objs.size+3) .none->gA h' (s.heap.objs.size+2) (.ref s.heap.objs.size) (.ref (s.heap.objs.size+1)) ->
   gA h' (s.heap.objs.size+3) .none .none->lH bY h' s.heap.objs.size l1 0->lH cM h' (s.heap.objs.size+1) l2 0 ->
   (∀c o,s.heap.get? c=aA o->h'.get? c=aA o)->Q (.ref (s.heap.objs.size+4)) { s with heap:=h' }):aO (aS prog w) A (call (.type "zip") [.ref l1,.ref l2]) Q E s:=by
 refine callType_new F.called_zip (by decide) (F.typeCall_zip_2 _ _) (F.newCall_zip_2 _ _) (λobj=>F.args_object_init_3 obj _ _) F.entry_zip_new (aJh bY cM l1 l2 xs ys) ⟨hl1,hl2,?_⟩;have z1:(zA bY s.heap l1).objs.size=s.heap.objs.size+1:=rn ..;have z2:(zB bY cM s.heap l1 l2).objs.size=s.heap.objs.size+2:=by rw[rn,z1]
 have z3:(zC bY cM s.heap l1 l2).objs.size=s.heap.objs.size+3:=by rw[rn,z2]
 have z4:(zD bY cM s.heap l1 l2).objs.size=s.heap.objs.size+4:=by rw[rn,z3]
 have g5:(zE bY cM s.heap l1 l2).get? (zD bY cM s.heap l1 l2).objs.size=aA _:=iM _ rfl;have g4:(zE bY cM s.heap l1 l2).get? (zC bY cM s.heap l1 l2).objs.size=aA _:=dH _ (iM _ rfl);have g3:(zE bY cM s.heap l1 l2).get? (zB bY cM s.heap l1 l2).objs.size=aA _:=dH _ (dH _ (iM _ rfl));have up:∀c o,(zB bY cM s.heap l1 l2).get? c=aA o->(zE bY cM s.heap l1 l2).get? c=aA o:=λc o e=>dH _ (dH _ (dH _ e));have i2:lH cM (zE bY cM s.heap l1 l2) (zA bY s.heap l1).objs.size l2 0:=(Vl cM (zA bY s.heap l1) l2).at λo e=>up _ o e;have i1:lH bY (zE bY cM s.heap l1 l2) s.heap.objs.size l1 0:=(Vl bY s.heap l1).at λo e=>up _ o (dH _ e);show _/\_;rw[z2,z3,z4]at g5;rw[z1,z2]at g3;rw[z3]at g4;rw[z1]at i2;rw[z4];exact⟨⟨_,g5,rfl⟩,h _ g5 g3 g4 i1 i2 λc o e=>up c o (dH _ (dH _ e))⟩
variable {z TI TO i1 i2 l1 l2:Addr}{S1 S2:Nat->aQ->Prop}{xs ys:Array Value}{k:Nat}{a b x y:Value}
theorem ZJ{Q:Option Value->aG->Prop}(D:aj z TI TO i1 i2 l1 l2)(P1:iE prog w A.in1 i1 l1 S1 xs)(P2:iE prog w A.in1 i2 l2 S2 ys)(hz:lC s.heap z TI TO .none)(hTI:gA s.heap TI (.ref i1) (.ref i2))(hTO:gA s.heap TO a b)
  (h1:S1 k s.heap) (h2:S2 k s.heap) (hx:xs[k]?=aA x) (hy:ys[k]?=aA y)
  (hQ:∀h',lC h' z TI TO (qW s.heap.objs.size)->gA h' TO x y->S1 (k+1) h'->S2 (k+1) h'->gA h' s.heap.objs.size x y ->
   (∀c o,c≠z->c≠TO->c≠i1->c≠i2->s.heap.get? c=aA o->h'.get? c=aA o)->Q (aA (.ref s.heap.objs.size)) { s with heap:=h' }):aO (aS prog w) A (xK (.ref z)) Q E s:=by
 have hT:s.TypeIs (.ref z) "zip":=⟨_,hz,rfl⟩;unfold xK;exact aL (ur (uu (name:=uf "__next__") hT Ct
  (ik Ct hT HQ (aJf D P1 P2 hz hTI hTO h1 h2 hx hy λh' a1 a2 a3 a4 a5 a6=>bH (hQ h' a1 a2 a3 a4 a5 a6)) (HM _))))
theorem RJ{Q:Option Value->aG->Prop}(D:aj z TI TO i1 i2 l1 l2)(P1:iE prog w A.in1 i1 l1 S1 xs)(P2:iE prog w A.in1 i2 l2 S2 ys)(hz:lC s.heap z TI TO .none)(hTI:gA s.heap TI (.ref i1) (.ref i2))(hTO:gA s.heap TO a b)
  (h1:S1 k s.heap) (h2:S2 k s.heap) (ke:xs[k]?=aD\/ys[k]?=aD)
  (hQ:∀h',(∀c o,c≠z->c≠TO->c≠i1->c≠i2->s.heap.get? c=aA o->h'.get? c=aA o)->Q aD { s with heap:=h' }):aO (aS prog w) A (xK (.ref z)) Q E s:=by
 have hT:s.TypeIs (.ref z) "zip":=⟨_,hz,rfl⟩;unfold xK;refine aL (ur (uu (name:=uf "__next__") hT Ct
  (ik Ct hT HQ (aJg D P1 P2 hz hTI hTO h1 h2 ke λh' e hk he=>?_) (HM _))))
 obtain⟨o,ho,hc⟩:=he;exact aL (wpAny_isInstance (T:="StopIteration") (b:=aB) ⟨o,ho,hc⟩ isSubtype_stop (bH (hQ _ hk)))
end
def gU(n:Nat):fR:=λi h=>match h.ob n with
 |some (.lst _ xs)=>aA xs[i]?
 |_=>aD
def jS(xs:List AV):fR:=λi _=>aA xs[i]?
def qD(lo:Int)(n:Nat):fR:=λi _=>aA (if i<n then aA (.int (lo+i)) else aD)
def rE(it:fR):fR:=λi h=>match it i h with
 |some (aA v)=>aA (aA (.tup [.int i,v]))
 |some aD=>aA aD
 |none=>aD
def nF(v:AV):M fR:=λh=>match v with
 |.tup xs=>.ok (jS xs) h
 |.ref n=>match h.ob n with
  |some (.lst _ _)=>.ok (gU n) h
  |_=>.bad
 |_=>.bad
def tI(v:AV):M fR:=match v with
 |.str z=>λh=>.ok (jS ((oY z).map AV.str)) h
 |v=>nF v
def wF(j:Int):Bool:=decide (-(2 ^ 62)<=j)&&decide (j<2 ^ 62)
def xl(xs:List AV):M fR:=λh=>match xs with
 |[.int j]=>if wF j=aB then .ok (qD 0 j.toNat) h else .bad
 |_=>.bad
def xj(v:AV):M fR:=λh=>match v with
 |.ref n=>match h.ob n with
  |some (.lst _ _)=>.ok (rE (gU n)) h
  |_=>.bad
 |_=>.bad
section
variable {X:Cx}{T:Tab}{E:XK}{a b c e tg l:aJ}{es:List aJ}{ma mb mc m:aH->M AV}{mr:aH->M (List AV)}{pos p:Pos}{tl:TE}
theorem BL{ρ:List Addr}{H:Hp}{n:Nat}{a:Addr}(q:ρ[n]?=aA a):RI T ρ H (gU n) (Fe T.K a):=by
 intro ρ' h' H' i e R;have q':=e.pre n a q;unfold gU;cases o:h'.ob n with
 |none=>exact⟨λz=>(by cases z),λv z=>(by cases z)⟩|some u=>
  cases u with
  |lst m xs=>
   obtain⟨ys,h1,r⟩:=mK R o q';refine⟨λz=>⟨ys,h1,?_⟩,λv z=>?_⟩
   .have z':xs[i]?=aD:=dB z;rw[<- r.length];exact List.getElem?_eq_none_iff.mp z'
   .have z':xs[i]?=aA v:=dB z;obtain⟨y,h2,rv⟩:=r.get z';refine⟨⟨ys,y,h1,h2⟩,λx H2 yl=>?_⟩;obtain⟨e2,k⟩:=yl;subst e2;have:=k ys h1;rw[h2]at this;cases this;exact⟨ρ',.refl,R,rv⟩
  |bQ _=>exact⟨λz=>(by cases z),λv z=>(by cases z)⟩|ins _ _=>exact⟨λz=>(by cases z),λv z=>(by cases z)⟩|xo _=>exact⟨λz=>(by cases z),λv z=>(by cases z)⟩
theorem Z4{ρ:List Addr}{H:Hp}{a:Addr}{xs:List AV}{ys:List V}(hq:dE T.K H a ys)(r:bB T ρ H xs ys):RI T ρ H (jS xs) (Ff T.K a):=by
 intro ρ' h' H' i e R;have r':=r.ext e;have hq':=e.Le hq;unfold jS;refine⟨λz=>⟨ys,hq',?_⟩,λv z=>?_⟩
 .have z':xs[i]?=aD:=dB z;rw[<- r.length];exact List.getElem?_eq_none_iff.mp z'
 .have z':xs[i]?=aA v:=dB z;obtain⟨y,h2,rv⟩:=r'.get z';refine⟨⟨ys,y,hq',h2⟩,λx H2 yl=>?_⟩;obtain⟨e2,k⟩:=yl;subst e2;have:=k ys hq';rw[h2]at this;cases this;exact⟨ρ',.refl,R,rv⟩
theorem Z2{ρ:List Addr}{H:Hp}{lo:Int}{n:Nat}:RI T ρ H (qD lo n) (va lo n):=by
 intro ρ' h' H' i e R;unfold qD;by_cases hi:i<n
 .rw[if_pos hi];refine⟨λz=>(by cases z),λv z=>⟨hi,λx H2 yl=>?_⟩⟩;cases z;obtain⟨e2,e3⟩:=yl;subst e2;subst e3;exact⟨ρ',.refl,R,.int _⟩
 .rw[if_neg hi];exact⟨λ_=>(by show n<=i;omega),λv z=>(by cases z)⟩
theorem Z3{ρ:List Addr}{H:Hp}{z:Str}:RI T ρ H (jS ((oY z).map AV.str)) (vb z):=by
 intro ρ' h' H' i e R;have hl:(oY z).length=z.cps.size:=by simp[oY]
 unfold jS;refine⟨λq=>?_,λv q=>?_⟩
 .have q':((oY z).map AV.str)[i]?=aD:=dB q;have:=List.getElem?_eq_none_iff.mp q';rw[aV,hl]at this;exact this
 .have q':((oY z).map AV.str)[i]?=aA v:=dB q;rw[gK]at q';obtain⟨y,h2,rfl⟩:=Option.map_eq_some_iff.mp q';have hi:=(List.getElem?_eq_some_iff.mp h2).1;refine⟨by show i<z.cps.size;omega,λx H2 yl=>?_⟩;obtain⟨e2,y',h3,e3⟩:=yl;subst e2 e3;rw[h2]at h3;cases h3;exact⟨ρ',.refl,R,.str _⟩
def VU(K:aX)(tl:TE):TI:=λσ H R=>tl σ H λx H1=>
 (∃z,x = .str z/\R (vb z) H1) \/
 ∃a,x = .ref a/\(((∃xs,cW K H1 a xs)/\R (Fe K a) H1)\/((∃xs,dE K H1 a xs)/\R (Ff K a) H1))
theorem B2(hl:PE X l tl):PI X tg l (VU X.K tl):=by
 intro pins s σ H R I h;refine bM (hl pins s σ H _ I h) λv s1 ⟨x,H1,I1,r1,q1⟩=>?_;rcases q1 with⟨z,rfl,q⟩|q1
 .obtain⟨t,rfl⟩:=r1;exact aBw I1 q
 obtain⟨a,e,q⟩:=q1;subst e;cases r1;rcases q with⟨⟨xs,hq⟩,q⟩|⟨⟨xs,hq⟩,q⟩
 .obtain⟨its,rv,p,hz⟩:=I1.list hq;refine uw p.isList ?_;refine⟨s1.heap.objs.size,[s1.heap.objs.size],_,_,H1,rfl,I1.kept (t':=s1.toks) λb o e=>dH _ e,aEn a _,⟨_,iM _ rfl,rfl,rfl⟩,λb hb=>?_,q⟩;have e:b=s1.heap.objs.size:=by simpa using hb
  subst e;exact I1.tG (cB _) (I1.aR.fresh (cB _))
 .obtain⟨its,rv,p,hz⟩:=I1.tuple hq;refine ME (show s1.heap.IsTuple a its.toArray from p) ?_;refine⟨s1.heap.objs.size,[s1.heap.objs.size],_,_,H1,rfl,I1.kept (t':=s1.toks) λb o e=>dH _ e,aEq a _,⟨_,iM _ rfl,rfl,rfl⟩,λb hb=>?_,q⟩;have e:b=s1.heap.objs.size:=by simpa using hb
  subst e;exact I1.tG (cB _) (I1.aR.fresh (cB _))
theorem yX:QI X T E tg e (λ_=>M.bad):=⟨λ_ _ _=>False,λ_ _ _ _ _ _ h=>h.elim,λ_ _ _ _ _ _ _ _ w=>w⟩
theorem Zs(hK:X.K=T.K)(ha:QE X T E l m):QI X T E tg l (λσ=>(m σ).bind tI):=by
 obtain⟨tl,pl,rl⟩:=ha;refine⟨_,B2 pl,λρ σ σ' h H Q R S w=>rl ρ σ σ' h H _ R S (W.bind w λρ1 x x' h1 H1 e1 R1 q1 w1=>?_)⟩;cases x with
 |tup xs=>
  cases q1 with
  |tup hq hr=>refine .inr ?_;exact⟨_,rfl,.inr ⟨⟨_,by rw[hK];exact hq⟩,by rw[hK];exact W.here w1 R1 (Z4 hq hr)⟩⟩
 |str z=>cases q1;exact .inl ⟨z,rfl,W.here w1 R1 Z3⟩
 |ref n=>
  cases q1 with
  |@ref _ a q=>
   simp only[tI,nF]at w1;cases o:h1.ob n with
   |none=>rw[o]at w1;exact w1.elim|some u=>
    rw[o]at w1;cases u with
    |lst mu xs=>obtain⟨ys,g1,r1⟩:=mK R1 o q;refine .inr ?_;exact⟨a,rfl,.inl ⟨⟨ys,by rw[hK];exact g1⟩,by rw[hK];exact W.here w1 R1 (BL q)⟩⟩
    |bQ _=>exact w1.elim|ins _ _=>exact w1.elim|xo _=>exact w1.elim
 |_=>exact w1.elim
theorem aAb{j:Int}(h:wF j=aB):-(2 ^ 62)<=j/\j<2 ^ 62:=by simp only[wF,aY,decide_eq_true_eq]at h;exact h
theorem K3(hg:Gl X "range") (hm:X.mg "range"=aD) (ha:QA X T E [a] mr) (hs:bP a=aB):QI X T E tg (.Call (.Name "range" p) [a] [] pos) (λσ=>(mr σ).bind xl):=by
 obtain⟨tr,pr,rr⟩:=ha;refine⟨_,A9 hg hm pr (by rw[dY hs];rfl),λρ σ σ' h H Q R S w=>rr ρ σ σ' h H _ R S (W.bind w λρ1 xs dF h1 H1 e1 R1 q1 w1=>?_)⟩;cases q1 with
 |nil=>exact w1.elim|cons r1 rs=>
  cases rs with
  |nil=>
   cases r1 with
   |int j=>
    simp only[xl]at w1;by_cases hj:wF j=aB
    .rw[if_pos hj]at w1;obtain⟨h1,h2⟩:=aAb hj;exact⟨j,rfl,h1,h2,W.here w1 R1 Z2⟩
    .rw[if_neg hj]at w1;exact w1.elim
   |_=>exact w1.elim
  |cons r2 rs2=>cases r1<;>exact w1.elim
def Fd(K:aX)(a:Addr):It:=
 ⟨λi H=>∃xs x,cW K H a xs/\xs[i]?=aA x,λi H x H'=>∃T y,H T=aD/\x = .ref T/\H'=aZ H T (.tup [.int i,y])/\∀xs,cW K H a xs->xs[i]?=aA y,λi H=>∃xs,cW K H a xs/\xs.length<=i⟩
theorem EN{pins:List (Addr×Obj)}{σ:L2.St}{H:Hp}{s:aG}{h':aQ}{tk:Nat}{ch:List Addr}{Tt:Addr}{ys:List V}{its:List Value}(I:Inv X pins σ H s)(hf:∀b∈ch,jK X pins H b)
  (k:∀b o,b∉ch->s.heap.get? b=aA o->h'.get? b=aA o) (th:∀b∈ch,∃o,h'.get? b=aA o) (hT:s.heap.objs.size<=Tt) (ht:IsTup h' Tt its.toArray) (rv:Vals ys its) (hz:ys.length<=sizeLine) :
  Inv X pins σ (aZ H Tt (.tup ys)) { s with heap:=h',toks:=tk }:=by
 have hn:H Tt=aD:=I.aR.fresh hT;have nch:∀b u,H b=aA u->b∉ch:=λb u e hb=>by rw[(hf b hb).1]at e;cases e
 have lch:X.env.locals∉ch:=λhb=>(hf _ hb).2.1 rfl;refine I.step (g':=s.gens) (d':=s.drawn) (ch:=ch) (λb hb=>⟨(hf b hb).2.2.2.1,(hf b hb).2.1,(hf b hb).2.2.2.2.1,(hf b hb).2.2.2.2.2⟩) (λb o _ _ hc e _=>k b o hc e) (λb o _ _ hc e _=>⟨o.slots,k b o hc e⟩)
  (λb o _ e n=>by rw[bW (bU (cP (cU e) hT))];exact n) (λb o hc e=>⟨o,k b o hc e⟩)
  (λb xs e=>by rw[bW (gW e hn)];exact e) (λb o u e=>by rw[bW (gW e hn)];exact e) (λb ps e=>⟨#[],by rw[bW (gW e hn),e];simp⟩) (λm hm=>?_) (λb u e=>?_) I.bare
 .obtain⟨o,es,ep,ho,r⟩:=hm;exact⟨o,es,ep,k _ o lch ho,r⟩
 .by_cases hb:b=Tt
  .subst hb;rw[gY]at e;cases e;exact⟨hz,its,rv,ht⟩
  .rw[bW hb]at e;refine(I.aR b u e).mP (λc v hc q=>k c v ?_ q) (λc q=>by rw[bW (gW q hn)];exact q) λc xs q=>by rw[bW (gW q hn)];exact q
   rcases hc with rfl|hc
   .exact nch _ _ e
   .exact nch _ _ hc
theorem EM{pins:List (Addr×Obj)}{σ:L2.St}{H:Hp}{s:aG}{h':aQ}{tk:Nat}{ch:List Addr}(I:Inv X pins σ H s)(hf:∀b∈ch,jK X pins H b)
  (k:∀b o,b∉ch->s.heap.get? b=aA o->h'.get? b=aA o):Inv X pins σ H { s with heap:=h',toks:=tk }:=by
 have nch:∀b u,H b=aA u->b∉ch:=λb u e hb=>by rw[(hf b hb).1]at e;cases e
 have lch:X.env.locals∉ch:=λhb=>(hf _ hb).2.1 rfl;refine I.step (g':=s.gens) (d':=s.drawn) (ch:=ch) (λb hb=>⟨(hf b hb).2.2.2.1,(hf b hb).2.1,(hf b hb).2.2.2.2.1,(hf b hb).2.2.2.2.2⟩) (λb o _ _ hc e _=>k b o hc e) (λb o _ _ hc e _=>⟨o.slots,k b o hc e⟩)
  (λb o _ e n=>n) (λb o hc e=>⟨o,k b o hc e⟩) (λb xs e=>e) (λb o u e=>e) (λb ps e=>⟨#[],by rw[e];simp⟩) (λm hm=>?_) (λb u e=>?_) I.bare
 .obtain⟨o,es,ep,ho,r⟩:=hm;exact⟨o,es,ep,k _ o lch ho,r⟩
 .refine(I.aR b u e).mP (λc v hc q=>k c v ?_ q) (λc q=>q) λc xs q=>q;rcases hc with rfl|hc
  .exact nch _ _ e
  .exact nch _ _ hc
theorem aEm{P:bG}{w:bD}{K:aX}{elts:List aJ}{k:Nat}{tp:Pos}(a en it:Addr)(h1:en≠it)(h2:a≠en)(h3:a≠it) :
  Turn P w K (.Tuple elts k tp) (Fd K a) [en,it] en (λi h=>(∃old,IsEnum h en it i old)/\h.IsListIter it a i) where
 mem:=by simp
 obj:=λi h st b hb=>by
  obtain⟨⟨old,he⟩,o,e,c,d⟩:=st;rcases List.mem_cons.mp hb with rfl|hb
  .exact⟨_,he,λv z=>by cases z⟩
  .have e':b=it:=by simpa using hb
   subst e';exact⟨o,e,λv z=>by rw[d]at z;cases z⟩
 keep:=λi h h' st k=>by obtain⟨⟨old,he⟩,hit⟩:=st;exact⟨⟨old,k en (by simp) _ he⟩,hit.at λo e=>k it (by simp) o e⟩
 item:=by
  intro X hP hw hK hc i pins s σ H E I hf st hg;subst hP hw hK;obtain⟨xs,x,hq,hx⟩:=hg;obtain⟨its,rv,p,hz⟩:=I.list hq;obtain⟨u,hu,ru⟩:=rv.get hx;have hi:i<its.toArray.size:=by have:=(List.getElem?_eq_some_iff.mp hu).1;simpa using this
  have W:=WalksT.enumerate (prog:=X.prog) (w:=X.w) (I.ok.hd hc) en it a h1 h2 h3 its.toArray;refine W.item i s _ _ hi ⟨st.1,st.2,p.isList⟩ λTt vals h' tk hv hT VP Vb kk=>?_;obtain⟨t,x',hx',rfl⟩:=hv;have ex:x'=u:=by
   have:its.toArray[i]?=aA u:=by simpa using hu
   rw[this]at hx';exact(dB hx').symm
  subst ex;refine⟨.ref Tt,rfl,?_⟩;refine W.go elts k tp i Tt { s with heap:=h',toks:=tk } _ _ Vb λh'' hst kk2=>?_;obtain⟨he2,hit2,hl2⟩:=hst;have keep2:∀b o,b∉[en,it]->s.heap.get? b=aA o->h''.get? b=aA o:=λb o hb e=>kk2 b o hb (kk b o hb e);have VQ:IsTup h'' Tt #[.int i t,x']:=by obtain⟨o,e,r⟩:=VP;exact⟨o,kk2 _ _ (W.apart i Tt _ Vb) e,r⟩
  have I2:Inv X pins σ (aZ H Tt (.tup [.int i,x])) { s with heap:=h'',toks:=tk }:=EN (its:=[.int i t,x']) I hf keep2 (λb hb=>by
   obtain⟨⟨old,he⟩,o,e,_⟩:=(⟨he2,hit2⟩:(∃old,IsEnum h'' en it (i+1) old)/\h''.IsListIter it a (i+1));rcases List.mem_cons.mp hb with rfl|hb
   .exact⟨_,he⟩
   .have e':b=it:=by simpa using hb
    subst e';exact⟨o,e⟩) hT VQ (.cons ⟨t,rfl⟩ (.cons ru .nil)) (by show 2<=sizeLine;decide)
  have hn:H Tt=aD:=I.aR.fresh hT;refine⟨.ref Tt,_,I2,rfl,⟨Tt,x,hn,rfl,rfl,λzs hzs=>by rw[I.Iy hzs hq];exact hx⟩,⟨he2,hit2⟩,λb hb=>?_⟩;have hb':b<s.heap.objs.size:=by
   obtain⟨⟨old,he⟩,o,e,_⟩:=id st;rcases List.mem_cons.mp hb with rfl|hb
   .exact cU he
   .have e':b=it:=by simpa using hb
    subst e';exact cU e
  rw[bW (bU (cP hb' hT))];exact(hf b hb).1
 done:=by intro X hP hw hK hc i pins s σ H E I hf st hg;subst hP hw hK;obtain⟨xs,hq,hx⟩:=hg;obtain⟨its,rv,p,hz⟩:=I.list hq;have hl:=rv.length;obtain⟨⟨old,he⟩,hit⟩:=st;exact wpAny_pyNext_enum_end (I.ok.hd hc) he hit p.isList (by simp;omega) λh' eb=>⟨rfl,EM (tk:=s.toks) I hf λb o hb e=>eb b o (λz=>hb (by simp[z])) e⟩
 self:=λA i s Q E st h=>by obtain⟨⟨old,he⟩,_⟩:=st;exact MD he h
def VR(K:aX)(ta:TA):TI:=λσ H R=>ta σ H λvs H1=>
 ∃a,vs=[.ref a]/\(∃xs,cW K H1 a xs)/\R (Fd K a) H1
theorem A8{elts:List aJ}{k:Nat}{tp:Pos}{ta:TA} (hg:Gl X "enumerate") (hm:X.mg "enumerate"=aD) (ha:PA X [a] ta) (hs:eY [a] X.env=[(aF,eval a X.env)]):PI X (.Tuple elts k tp) (.Call (.Name "enumerate" p) [a] [] pos) (VR X.K ta):=by
 intro pins s σ H R I h;refine Call_ (cz I hg hm boot_enumerate (Dw (bM (ha pos pins s σ H _ I h) λus s1 ⟨vs,H1,I1,r1,q1⟩=>?_) hs rfl));obtain⟨a,e,⟨xs,hq⟩,q⟩:=q1;subst e;cases r1 with
 |cons r rr=>
  cases rr;cases r;obtain⟨its,rv,p,hz⟩:=I1.list hq;have ha:a<s1.heap.objs.size:=by obtain⟨o,_,e,_⟩:=p;exact cU e
  refine call_enumerate_list p.isList λh' he hit hsz kk=>?_;have I2:Inv X pins σ H1 { s1 with heap:=h' }:=I1.kept (t':=s1.toks) kk;refine MD he ?_;refine⟨s1.heap.objs.size+1,[s1.heap.objs.size+1,s1.heap.objs.size],_,_,H1,rfl,I2,aEm a _ _ (pJ (cQ _)) (bU (lV ha)) (bU ha),⟨⟨_,he⟩,hit⟩,λb hb=>?_,q⟩;rcases List.mem_cons.mp hb with rfl|hb
  .exact I1.tG (xD _) (I1.aR.fresh (xD _))
  .have e':b=s1.heap.objs.size:=by simpa using hb
   subst e';exact I1.tG (cB _) (I1.aR.fresh (cB _))
theorem Z1{ρ:List Addr}{H:Hp}{n:Nat}{a:Addr}(q:ρ[n]?=aA a):RI T ρ H (rE (gU n)) (Fd T.K a):=by
 intro ρ' h' H' i e R;obtain⟨h1,h2⟩:=BL (T:=T) (H:=H) q ρ' h' H' i e R;unfold rE;cases o:gU n i h' with
 |none=>exact⟨λz=>(by cases z),λv z=>(by cases z)⟩|some u=>
  cases u with
  |none=>exact⟨λ_=>h1 o,λv z=>(by cases z)⟩|some v=>refine⟨λz=>(by cases z),λv' z=>?_⟩;cases z;obtain⟨g1,g2⟩:=h2 v o;refine⟨g1,λx H2 yl=>?_⟩;obtain⟨Tt,y,hn,rfl,rfl,k⟩:=yl;obtain⟨ρ2,e2,R2,rv⟩:=g2 y H' ⟨rfl,k⟩;exact⟨ρ2,⟨e2.pre,(Ext.jR (ρ:=ρ') hn).tup,(Ext.jR (ρ:=ρ') hn).dX⟩,R2.keep hn,.tup (.of gY) (.cons (.int _) (.cons (rv.ext (.jR hn)) .nil))⟩
theorem K2{elts:List aJ}{k:Nat}{tp:Pos} (hK:X.K=T.K) (hg:Gl X "enumerate") (hm:X.mg "enumerate"=aD) (ha:QE X T E a m) (hs:bP a=aB) :
  QI X T E (.Tuple elts k tp) (.Call (.Name "enumerate" p) [a] [] pos) (λσ=>(m σ).bind xj):=by
 obtain⟨ta,pa,ra⟩:=ha;refine⟨_,A8 hg hm (mM pa oW (dY hs)) (by rw[dY hs];rfl),λρ σ σ' h H Q R S w=>ra ρ σ σ' h H _ R S (W.bind w λρ1 x x' h1 H1 e1 R1 q1 w1=>?_)⟩;cases x with
 |ref n=>
  cases q1 with
  |@ref _ a q=>
   simp only[xj]at w1;cases o:h1.ob n with
   |none=>rw[o]at w1;exact w1.elim|some u=>
    rw[o]at w1;cases u with
    |lst mu xs=>obtain⟨ys,g1,r1⟩:=mK R1 o q;exact⟨a,rfl,⟨ys,by rw[hK];exact g1⟩,by rw[hK];exact W.here w1 R1 (Z1 q)⟩
    |bQ _=>exact w1.elim|ins _ _=>exact w1.elim|xo _=>exact w1.elim
 |_=>exact w1.elim
def jU(xs:List AV)(lo hi:Option Int):List AV:=(xs.drop (HT.bF xs.length 0 lo)).take (HT.bF xs.length xs.length hi-HT.bF xs.length 0 lo)
theorem Sl{ρ:List Addr}{H:Hp}{xs:List AV}{ys:List V}(r:bB T ρ H xs ys)(lo hi:Option Int):bB T ρ H (jU xs lo hi) (vI ys lo hi):=by unfold jU vI;rw[<- r.length];exact(r.drop _).take _
def lO(x:AV)(lo hi:Option Int):M AV:=λh=>match x with
 |.ref n=>match h.ob n with
  |some (.lst _ xs)=>mL (jU xs lo hi) h
  |_=>.bad
 |.tup xs=>if HT.bF xs.length 0 lo=0/\HT.bF xs.length xs.length hi=xs.length then .bad else .ok (.tup (jU xs lo hi)) h
 |.str z=>if z.length<=sizeLine then .ok (.str (mX z lo hi)) h else .bad
 |_=>.bad
def MM:Rl (Option Int) (Option Int):=λ_ _ a b=>a=b
def QO(X:Cx)(T:Tab)(E:XK)(o:Option aJ)(m:aH->M (Option Int)):Prop:=
 ∃t,PO X o t/\∀ρ σ σ' h H Q,bL T ρ h H->cT T ρ H σ σ'->W T MM (m σ h) ρ H Q E->t σ' H Q
def jw(v:AV):M (Option Int):=λh=>match v with
 |.int i=>.ok (aA i) h
 |_=>.bad
theorem T6:QO X T E aD (λ_=>M.ret aD):=⟨_,B9,λρ σ σ' h H Q R S w=>W.here w R rfl⟩
theorem T7(ha:QE X T E a m):QO X T E (aA a) (λσ=>(m σ).bind jw):=by
 obtain⟨ta,pa,ra⟩:=ha;refine⟨_,C0 pa,λρ σ σ' h H Q R S w=>ra ρ σ σ' h H _ R S (W.bind w λρ1 x x' h1 H1 e1 R1 q1 w1=>?_)⟩;cases x with
 |int i=>cases q1;exact⟨i,rfl,W.here w1 R1 rfl⟩|_=>exact w1.elim
theorem J0(hK:X.K=T.K){lo hi:Option aJ}{p2:Pos}{ml mh:aH->M (Option Int)}(ha:QE X T E a m)(hl:QO X T E lo ml)(hh:QO X T E hi mh) :
  QE X T E (.Subscript a (.Slice lo hi aD p2) pos) (λσ=>(m σ).bind λx=>(ml σ).bind λl=>(mh σ).bind λu=>lO x l u):=by
 obtain⟨ta,pa,ra⟩:=ha;obtain⟨tl,pl,rl⟩:=hl;obtain⟨th,ph,rh⟩:=hh;refine⟨_,z9 ((aAq.or aAs).or aAr) pa pl ph,λρ σ σ' h H Q R S w=>ra ρ σ σ' h H _ R S (W.bind w λρ1 x x' h1 H1 e1 R1 q1 w1=>?_)⟩;refine rl ρ1 σ σ' h1 H1 _ R1 (S.ext e1) (W.bind w1 λρ2 l l' h2 H2 e2 R2 q2 w2=>?_);refine rh ρ2 σ σ' h2 H2 _ R2 ((S.ext e1).ext e2) (W.bind w2 λρ3 u u' h3 H3 e3 R3 q3 w3=>?_);cases(show l=l' from q2);cases(show u=u' from q3);have q1':=(q1.ext e2).ext e3;cases x with
 |ref n=>
  cases q1' with
  |@ref _ a q=>
   simp only[lO]at w3;cases o:h3.ob n with
   |none=>rw[o]at w3;exact w3.elim|some ob=>
    rw[o]at w3;cases ob with
    |lst mu xs=>obtain⟨ys,g1,r1⟩:=mK R3 o q;refine .inl ?_;exact .inl ⟨a,ys,rfl,by rw[hK];exact g1,λp hp=>kq R3 (Sl r1 l u) hp w3⟩
    |bQ _=>exact w3.elim|ins _ _=>exact w3.elim|xo _=>exact w3.elim
 |tup xs=>
  cases q1' with
  |@tup a _ ys hq hr=>
   simp only[lO]at w3;by_cases hw:HT.bF xs.length 0 l=0/\HT.bF xs.length xs.length u=xs.length
   .rw[if_pos hw]at w3;exact w3.elim
   .rw[if_neg hw]at w3;refine .inl ?_;refine .inr ⟨a,ys,rfl,by rw[hK];exact hq,by rw[<- hr.length];exact hw,λp hp=>yq R3 (Sl hr l u) hp w3⟩
 |str z=>
  cases q1';simp only[lO]at w3;by_cases hz:z.length<=sizeLine
  .rw[if_pos hz]at w3;exact .inr ⟨z,rfl,eN (Txt.slice_le ..) hz,W.here w3 R3 (.str _)⟩
  .rw[if_neg hz]at w3;exact w3.elim
 |_=>exact w3.elim
def yH(xs:List AV):M AV:=λh=>match xs with
 |[.str z]=>if z.length<=sizeLine then .ok (.int z.length) h else .bad
 |[x]=>match eD h x with
  |some ys=>.ok (.int ys.length) h
  |none=>.bad
 |_=>.bad
def ju(xs:List AV):M AV:=λh=>match xs with
 |[.int i]=>.ok (.int i) h
 |[.bl k]=>.ok (.int (if k then 1 else 0)) h
 |[.str z]=>if z.length<=640 then match intText? z with
  |some n=>.ok (.int n) h
  |none=>.bad
  else .bad
 |_=>.bad
def Ie:List AV->Option (Int×Int)
 |[.int i,.int j]=>aA (i,j)
 |_=>aD
def yT:List AV->Option AV
 |[x]=>aA x
 |_=>aD
def UH(xs:List AV):M AV:=λh=>match Ie xs with
 |some (i,j)=>.ok (.int (if j<i then j else i)) h
 |none=>.bad
def UG(xs:List AV):M AV:=λh=>match Ie xs with
 |some (i,j)=>.ok (.int (if j > i then j else i)) h
 |none=>.bad
def UD(xs:List AV):M AV:=λh=>match Ie xs with
 |some (i,j)=>if tD j=aB then .ok (.tup [.int (i / j),.int (i%j)]) h else .bad
 |none=>.bad
def xn(xs:List AV):M AV:=λh=>match (yT xs).bind (eD h) with
 |some ys=>.ok (.tup ys) h
 |none=>.bad
def UE(xs:List AV):M AV:=λh=>match (yT xs).bind (eD h) with
 |some ys=>mL ys h
 |none=>.bad
theorem b5{xs:List AV}{x:AV}(h:yT xs=aA x):xs=[x]:=by
 unfold yT at h;split at h
 .cases h;rfl
 .cases h
theorem PY(hK:X.K=T.K):bg X T E (.builtin "len") yH:=by
 refine⟨_,PB.or PC,λρ h H xs dF Q R r w=>?_⟩;cases r with
 |nil=>exact w.elim|@cons x x' _ _ r1 rs=>
  cases rs with
  |nil=>
   have go:(∀z,x ≠ .str z)->(∃p ys,[x']=[.ref p]/\(cW X.K H p ys\/dE X.K H p ys)/\Q (.int ys.length) H):=λnz=>by
    have w':W T (aT T) (match eD h x with
     |some ys=>Res.ok (.int ys.length) h
     |none=>.bad) ρ H Q E:=by
      cases x with
      |str z=>exact absurd rfl (nz z)|_=>exact w
    cases o:eD h x with
    |none=>rw[o]at w';exact w'.elim|some ys=>rw[o]at w';obtain⟨p,zs,e,hq,hr⟩:=zJ R r1 o;refine⟨p,zs,by rw[e],by rw[hK];exact hq,?_⟩;rw[<- hr.length];exact w'.here R (.int _)
   cases x with
   |str z=>
    cases r1;simp only[yH]at w;by_cases hz:z.length<=sizeLine
    .rw[if_pos hz]at w;exact .inr ⟨z,rfl,hz,w.here R (.int _)⟩
    .rw[if_neg hz]at w;exact w.elim
   |_=>exact .inl (go λz e=>by cases e)
  |cons r2 rs2=>cases x<;>exact w.elim
theorem PX:bg X T E (.type "int") ju:=by
 refine⟨_,OW.or OX,λρ h H xs dF Q R r w=>?_⟩;cases r with
 |nil=>exact w.elim|cons r1 rs=>
  cases rs with
  |nil=>
   cases r1 with
   |int i=>refine .inl ?_;exact .inl ⟨i,rfl,W.here w R (.int _)⟩
   |bl k=>refine .inl ?_;exact .inr ⟨k,rfl,W.here w R (.int _)⟩
   |str z=>
    simp only[ju]at w;by_cases hz:z.length<=640
    .rw[if_pos hz]at w;cases hn:intText? z with
     |none=>rw[hn]at w;exact w.elim|some n=>rw[hn]at w;exact .inr ⟨z,n,rfl,hz,hn,W.here w R (.int _)⟩
    .rw[if_neg hz]at w;exact w.elim
   |_=>exact w.elim
  |cons r2 rs2=>cases r1<;>exact w.elim
def cu(xs:List AV):M AV:=λh=>match xs with
 |[.int i]=>if i.natAbs.log2<1920 then .ok (.str (toString i)) h else .bad
 |[.str z]=>.ok (.str z) h
 |_=>.bad
theorem PF:jJ X (.type "str") (λxs H Q=>∃z,xs=[.str z]/\Q (.str z) H):=by intro pins s σ H xs us Q I r h;obtain⟨z,rfl,q⟩:=h;obtain⟨u,rfl,t,rfl⟩:=kX r;exact PySem.P.str_of_str ⟨.str _,H,I,⟨_,rfl⟩,q⟩
theorem PZ:bg X T E (.type "str") cu:=by
 refine⟨_,PD.or PF,λρ h H xs dF Q R r w=>?_⟩;cases r with
 |nil=>exact w.elim|cons r1 rs=>
  cases rs with
  |nil=>
   cases r1 with
   |int i=>
    by_cases hi:i.natAbs.log2<1920
    .simp only[cu,if_pos hi]at w;refine .inl ?_;exact⟨i,rfl,hi,W.here w R (.str _)⟩
    .simp only[cu,if_neg hi]at w;exact w.elim
   |str z=>exact .inr ⟨z,rfl,W.here w R (.str _)⟩|_=>exact w.elim
  |cons r2 rs2=>cases r1<;>exact w.elim
theorem b6{ρ:List Addr}{h:AH}{H:Hp}{xs:List AV}{dF:List V}{Q:VK}{k:List AV->M AV}(R:bL T ρ h H)(r:bB T ρ H xs dF)(w:W T (aT T) ((match (yT xs).bind (eD h) with
  |some ys=>k ys h
  |none=>.bad:Res AV)) ρ H Q E):∃p ys zs,dF=[.ref p]/\(cW T.K H p zs\/dE T.K H p zs)/\bB T ρ H ys zs/\W T (aT T) (k ys h) ρ H Q E:=by
 cases o1:yT xs with
 |none=>rw[o1]at w;exact w.elim|some x=>
  rw[o1]at w;simp only[qR]at w;have e:=b5 o1;subst e;cases r with
  |cons r1 rs=>
   cases rs;cases o:eD h x with
   |none=>rw[o]at w;exact w.elim|some ys=>rw[o]at w;obtain⟨p,zs,e,hq,hr⟩:=zJ R r1 o;exact⟨p,ys,zs,by rw[e],hq,hr,w⟩
theorem QB(hK:X.K=T.K):bg X T E (.type "tuple") xn:=by
 refine⟨_,PH,λρ h H xs dF Q R r w=>?_⟩;obtain⟨p,ys,zs,rfl,hq,hr,w'⟩:=b6 (k:=λys h=>.ok (.tup ys) h) R r w;rcases hq with hq|hq
 .exact⟨p,zs,rfl,.inl ⟨by rw[hK];exact hq,λl hl=>yq R hr hl w'⟩⟩
 .exact⟨p,zs,rfl,.inr ⟨by rw[hK];exact hq,W.here w' R (.tup hq hr)⟩⟩
theorem F6{x:Str}{id:String}{g:List AV->M AV} (hc:bg X T E (.builtin id) g) (hg:Gl X x) (hm:X.mg x=aD) (hv:pK x=aA (.builtin id)) (ha:QA X T E (e::es) mr) (hs:(e::es).all bP=aB) (hn:x≠"__name__") (hd:(x==("__debug__":Str))=aF) :
  QE X T E (.Call (.Name x p) (e::es) [] pos) (λσ=>(mr σ).bind g):=by
 obtain⟨r,hr,hgg⟩:=hc;obtain⟨tr,pr,rr⟩:=ha;rw[hG,aY]at hs;exact⟨_,lh hr hg hm hv pr hn hd (dY hs.1) (zK hs.2),λρ σ σ' h H Q R S w=>rr ρ σ σ' h H _ R S (W.bind w λρ1 xs dF h1 H1 e1 R1 q1 w1=>hgg ρ1 h1 H1 xs dF Q R1 q1 w1)⟩
theorem Jw{x:Str}{id:String}{g:List AV->M AV} (hc:bg X T E (.type id) g) (hg:Gl X x) (hm:X.mg x=aD) (hv:pK x=aA (.type id)) (ha:QA X T E (e::es) mr) (hs:(e::es).all bP=aB) (hn:x≠"__name__") (hd:(x==("__debug__":Str))=aF) :
  QE X T E (.Call (.Name x p) (e::es) [] pos) (λσ=>(mr σ).bind g):=by
 obtain⟨r,hr,hgg⟩:=hc;obtain⟨tr,pr,rr⟩:=ha;rw[hG,aY]at hs;exact⟨_,x5 hr hg hm hv pr hn hd (dY hs.1) (zK hs.2),λρ σ σ' h H Q R S w=>rr ρ σ σ' h H _ R S (W.bind w λρ1 xs dF h1 H1 e1 R1 q1 w1=>hgg ρ1 h1 H1 xs dF Q R1 q1 w1)⟩
end
def Qj(bY cM:Bool)(K:aX)(a b:Addr):It:=
  ⟨λi H=>∃xs ys x y,nA bY K H a xs/\nA cM K H b ys/\xs[i]?=aA x/\ys[i]?=aA y,
   λi H x H'=>∃T u v,H T=aD/\x = .ref T/\H'=aZ H T (.tup [u,v])/\(∀xs,nA bY K H a xs->xs[i]?=aA u)/\∀ys,nA cM K H b ys->ys[i]?=aA v,
   λi H=>∃xs ys,nA bY K H a xs/\nA cM K H b ys/\(xs[i]?=aD\/ys[i]?=aD)⟩
section
variable {X:Cx}{T:Tab}{E:XK}{a b c e tg l:aJ}{es:List aJ}{ma mb m:aH->M AV}{mr:aH->M (List AV)}{pos p:Pos}
theorem fj{pins:List (Addr×Obj)}{σ:L2.St}{H:Hp}{s:aG}{kd:Bool}{l:Addr}{xs:List V}(I:Inv X pins σ H s)(h:nA kd X.K H l xs):∃its:List Value,Vals xs its/\lX kd s.heap l its.toArray:=by
 cases kd with
 |true=>obtain⟨its,rv,p,_⟩:=I.list h;exact⟨its,rv,p.isList⟩|false=>obtain⟨its,rv,p,_⟩:=I.tuple h;exact⟨its,rv,p⟩
theorem CP{pins:List (Addr×Obj)}{σ:L2.St}{H:Hp}{s:aG}{kd:Bool}{l:Addr}{xs ys:List V}(I:Inv X pins σ H s)(h:nA kd X.K H l xs)(h':nA kd X.K H l ys):xs=ys:=by
 cases kd with
 |true=>exact I.Iy h h'|false=>exact I.EK h h'
theorem aEr{P:bG}{w:bD}{K:aX}{elts:List aJ}{k:Nat}{tp:Pos}(bY cM:Bool){z TI TO i1 i2 l1 l2:Addr}(D:aj z TI TO i1 i2 l1 l2) :
  Turn P w K (.Tuple elts k tp) (Qj bY cM K l1 l2) [z,TI,TO,i1,i2] z (λi h=>lC h z TI TO .none/\gA h TI (.ref i1) (.ref i2)/\(∃a b,gA h TO a b)/\lH bY h i1 l1 i/\lH cM h i2 l2 i) where
 mem:=by simp
 obj:=λi h st b hb=>by
  obtain⟨hz,hTI,⟨a,b',hTO⟩,h1,h2⟩:=st;simp only[pF,qP,or_false]at hb;rcases hb with rfl|rfl|rfl|rfl|rfl
  .exact⟨_,hz,λv q=>by cases q⟩
  .exact⟨_,hTI,λv q=>by cases q⟩
  .exact⟨_,hTO,λv q=>by cases q⟩
  .exact h1.live
  .exact h2.live
 keep:=λi h h' st kk=>by obtain⟨hz,hTI,⟨a,b',hTO⟩,h1,h2⟩:=st;exact⟨kk z (by simp) _ hz,kk TI (by simp) _ hTI,⟨a,b',kk TO (by simp) _ hTO⟩,h1.at λo e=>kk i1 (by simp) o e,h2.at λo e=>kk i2 (by simp) o e⟩
 item:=by
  intro X hP hw hK hc i pins s σ H E I hf st hg;subst hP hw hK;obtain⟨xs,ys,x,y,hq1,hq2,hx,hy⟩:=hg;obtain⟨yc,rv1,p1⟩:=fj I hq1;obtain⟨tR,rv2,p2⟩:=fj I hq2;obtain⟨u1,hu1,ru1⟩:=rv1.get hx;obtain⟨u2,hu2,ru2⟩:=rv2.get hy;obtain⟨hz,hTI,⟨a,b',hTO⟩,h1,h2⟩:=id st;have hh:X.A.in1.handled=aD:=I.ok.hd hc;refine ZJ D (iE.kd hh bY D.l1i1 yc.toArray) (iE.kd hh cM D.l2i2 tR.toArray) hz hTI hTO ⟨h1,p1⟩ ⟨h2,p2⟩ (x:=u1) (y:=u2) (by simpa using hu1) (by simpa using hu2) λh' z' t' s1 s2 new kk=>?_;refine⟨_,rfl,?_⟩;refine wpAny_letOwnedTupleGo_zip z' λh'' z'' sb=>?_;have lt:∀{c:Addr}{o:Obj},s.heap.get? c=aA o->s.heap.objs.size≠c:=λe=>pJ (cU e);have keep2:∀c o,c∉[z,TI,TO,i1,i2]->s.heap.get? c=aA o->h''.get? c=aA o:=λc o hc e=>by simp only[pF,qP,or_false,not_or]at hc;exact sb.extBut _ _ hc.1 (kk c o hc.1 hc.2.2.1 hc.2.2.2.1 hc.2.2.2.2 e)
  have hTI2:gA h'' TI (.ref i1) (.ref i2):=sb.extBut _ _ D.TIz (kk _ _ D.TIz D.TITO D.TIi1 D.TIi2 hTI);have hTO2:gA h'' TO u1 u2:=sb.extBut _ _ D.TOz t';have s1':lH bY h'' i1 l1 (i+1):=s1.1.at λo e=>sb.extBut _ _ D.i1z e;have s2':lH cM h'' i2 l2 (i+1):=s2.1.at λo e=>sb.extBut _ _ D.i2z e;have new2:gA h'' s.heap.objs.size u1 u2:=sb.extBut _ _ (lt hz) new;have I2:Inv X pins σ (aZ H s.heap.objs.size (.tup [x,y])) { s with heap:=h'' }:=EN (tk:=s.toks) (its:=[u1,u2]) I hf keep2 (λc hc=>by
   simp only[pF,qP,or_false]at hc;rcases hc with rfl|rfl|rfl|rfl|rfl
   .exact⟨_,z''⟩
   .exact⟨_,hTI2⟩
   .exact⟨_,hTO2⟩
   .exact let ⟨o,e,_⟩:=s1'.live;⟨o,e⟩
   .exact let ⟨o,e,_⟩:=s2'.live;⟨o,e⟩) (cB _) ⟨_,new2,rfl,_,rfl⟩ (.cons ru1 (.cons ru2 .nil)) (by show 2<=sizeLine;decide)
  have hn:H s.heap.objs.size=aD:=I.aR.fresh (cB _);refine⟨.ref s.heap.objs.size,_,I2,rfl,⟨_,x,y,hn,rfl,rfl,λzs hzs=>by rw[CP I hzs hq1];exact hx,λzs hzs=>by rw[CP I hzs hq2];exact hy⟩,⟨z'',hTI2,⟨_,_,hTO2⟩,s1',s2'⟩,λc hc=>?_⟩;have hc':s.heap.objs.size≠c:=by
   simp only[pF,qP,or_false]at hc;rcases hc with rfl|rfl|rfl|rfl|rfl
   .exact lt hz
   .exact lt hTI
   .exact lt hTO
   .exact let ⟨o,e,_⟩:=h1.live;lt e
   .exact let ⟨o,e,_⟩:=h2.live;lt e
  rw[bW hc'.symm];exact(hf c hc).1
 done:=by
  intro X hP hw hK hc i pins s σ H E I hf st hg;subst hP hw hK;obtain⟨xs,ys,hq1,hq2,ke⟩:=hg;obtain⟨yc,rv1,p1⟩:=fj I hq1;obtain⟨tR,rv2,p2⟩:=fj I hq2;obtain⟨hz,hTI,⟨a,b',hTO⟩,h1,h2⟩:=id st;have hh:X.A.in1.handled=aD:=I.ok.hd hc;refine RJ D (iE.kd hh bY D.l1i1 yc.toArray) (iE.kd hh cM D.l2i2 tR.toArray) hz hTI hTO ⟨h1,p1⟩ ⟨h2,p2⟩ ?_ λh' kk=>⟨rfl,EM (tk:=s.toks) I hf λc o hc e=>?_⟩
  .rcases ke with q|q
   .exact .inl (by simpa using rv1.none_of q)
   .exact .inr (by simpa using rv2.none_of q)
  .simp only[pF,qP,or_false,not_or]at hc;exact kk c o hc.1 hc.2.2.1 hc.2.2.2.1 hc.2.2.2.2 e
 self:=λA i s Q E st h=>MF st.1 h
theorem aJe(n a b:Nat)(ha:a<n)(hb:b<n):aj (n+4) (n+2) (n+3) n (n+1) a b:=
 ⟨bU (by omega),bU (by omega),bU (by omega),bU (by omega),bU (by omega),pJ (by omega),pJ (by omega),pJ (by omega),pJ (by omega),bU (by omega),
  bU (by omega),bU (by omega),bU (by omega),bU (by omega),bU (by omega),bU (by omega),bU (by omega),bU (by omega)⟩
def VV(K:aX)(ta:TA):TI:=λσ H R=>ta σ H λvs H1=>∃a b bY cM,vs=[.ref a,.ref b]/\(∃xs,nA bY K H1 a xs)/\(∃ys,nA cM K H1 b ys)/\R (Qj bY cM K a b) H1
theorem B3{elts:List aJ}{k:Nat}{tp:Pos}{ta:TA} (hg:Gl X "zip") (hm:X.mg "zip"=aD) (ha:PA X [a,b] ta) (hs:bP a=aB) (hs2:bP b=aB):PI X (.Tuple elts k tp) (.Call (.Name "zip" p) [a,b] [] pos) (VV X.K ta):=by
 intro pins s σ H R I h;refine Call_ (cz I hg hm boot_zip (Dw (bM (ha pos pins s σ H _ I h) λus s1 ⟨vs,H1,I1,r1,q1⟩=>?_) (dY hs) (zK (by simp[hs2]))));obtain⟨a,b,bY,cM,e,⟨xs,hq1⟩,⟨ys,hq2⟩,q⟩:=q1;subst e;cases r1 with
 |cons r rr=>
  cases r;cases rr with
  |cons r' rr'=>
   cases r';cases rr';obtain⟨yc,rv1,p1⟩:=fj I1 hq1;obtain⟨tR,rv2,p2⟩:=fj I1 hq2;have ltA:∀{kd:Bool}{l:Addr}{items:Array Value},lX kd s1.heap l items->l<s1.heap.objs.size:=λ{kd l items} hl=>by
    cases kd with
    |true=>obtain⟨o,e,_⟩:=(show s1.heap.IsList l items from hl);exact cU e|false=>obtain⟨o,e,_⟩:=(show s1.heap.IsTuple l items from hl);exact cU e
   have la:=ltA p1;have lb:=ltA p2;refine PJ bY cM p1 p2 λh' hz hTI hTO h1 h2 kk=>?_;have I2:Inv X pins σ H1 { s1 with heap:=h' }:=I1.kept (t':=s1.toks) kk;refine MF hz ?_;have ne:∀{x y:Nat},x<y->x≠y:=λh=>bU h;have D:aj (s1.heap.objs.size+4) (s1.heap.objs.size+2) (s1.heap.objs.size+3) s1.heap.objs.size (s1.heap.objs.size+1) a b:=aJe _ _ _ la lb;refine⟨s1.heap.objs.size+4,[s1.heap.objs.size+4,s1.heap.objs.size+2,s1.heap.objs.size+3,s1.heap.objs.size,s1.heap.objs.size+1],_,_,H1,rfl,I2,aEr bY cM D,⟨hz,hTI,⟨_,_,hTO⟩,h1,h2⟩,λc hc=>?_,q⟩;have hle:s1.heap.objs.size<=c:=by
    simp only[pF,qP,or_false]at hc;rcases hc with rfl|rfl|rfl|rfl|rfl
    .exact Dr _ _
    .exact Dr _ _
    .exact Dr _ _
    .exact cB _
    .exact Dr _ _
   exact I1.tG hle (I1.aR.fresh hle)
def uI(it jt:fR):fR:=λi h=>match it i h,jt i h with
 |some (aA u),aA (aA v)=>aA (aA (.tup [u,v]))
 |some aD,aA _=>aA aD
 |some _,aA aD=>aA aD
 |_,_=>aD
def xp(xs:List AV):M fR:=λh=>match xs with
 |[x,y]=>match nF x h,nF y h with
  |.ok it _,.ok jt _=>.ok (uI it jt) h
  |_,_=>.bad
 |_=>.bad
theorem Vo{ρ:List Addr}{h:AH}{H:Hp}{x:AV}{x':V}{it:fR}{h2:AH}(R:bL T ρ h H)(r:aT T ρ H x x')(e:nF x h = .ok it h2) :
  ∃a kd,x' = .ref a/\(∃xs,nA kd T.K H a xs)/\∀ρ' h' H' i,Ext ρ H ρ' H'->bL T ρ' h' H'->∀o,it i h'=aA o->∃ys,nA kd T.K H' a ys/\((o=aD/\ys[i]?=aD)\/∃v v',o=aA v/\ys[i]?=aA v'/\aT T ρ' H' v v'):=by
 cases x with
 |tup xs=>
  cases r with
  |@tup a _ ys hq hr=>
   cases e;refine⟨a,aF,rfl,⟨ys,hq⟩,λρ' h' H' i ex R' o ho=>⟨ys,ex.Le hq,?_⟩⟩;have ho':xs[i]?=o:=dB ho;have r':=hr.ext ex;cases o with
   |none=>exact .inl ⟨rfl,by rw[IP]at ho' ⊢;rw[<- hr.length];exact ho'⟩|some v=>obtain⟨v',g1,g2⟩:=r'.get ho';exact .inr ⟨v,v',rfl,g1,g2⟩
 |ref n=>
  cases r with
  |@ref _ a q=>
   simp only[nF]at e;cases ob:h.ob n with
   |none=>rw[ob]at e;cases e|some u=>
    rw[ob]at e;cases u with
    |lst mu xs=>
     cases e;obtain⟨ys,g1,r1⟩:=mK R ob q;refine⟨a,aB,rfl,⟨ys,g1⟩,λρ' h' H' i ex R' o ho=>?_⟩;unfold gU at ho;cases ob':h'.ob n with
     |none=>rw[ob']at ho;cases ho|some u'=>
      rw[ob']at ho;cases u' with
      |lst mu' dF=>
       obtain⟨zs,g2,r2⟩:=mK R' ob' (ex.pre n a q);have ho':dF[i]?=o:=dB ho;refine⟨zs,g2,?_⟩;cases o with
       |none=>exact .inl ⟨rfl,by rw[IP]at ho' ⊢;rw[<- r2.length];exact ho'⟩|some v=>obtain⟨v',g3,g4⟩:=r2.get ho';exact .inr ⟨v,v',rfl,g3,g4⟩
      |bQ _=>cases ho|ins _ _=>cases ho|xo _=>cases ho
    |bQ _=>cases e|ins _ _=>cases e|xo _=>cases e
 |_=>cases e
theorem K4{elts:List aJ}{k:Nat}{tp:Pos} (hK:X.K=T.K) (hg:Gl X "zip") (hm:X.mg "zip"=aD) (ha:QA X T E [a,b] mr) (hs:bP a=aB) (hs2:bP b=aB) :
  QI X T E (.Tuple elts k tp) (.Call (.Name "zip" p) [a,b] [] pos) (λσ=>(mr σ).bind xp):=by
 obtain⟨ta,pa,ra⟩:=ha;refine⟨_,B3 hg hm pa hs hs2,λρ σ σ' h H Q R S w=>ra ρ σ σ' h H _ R S (W.bind w λρ1 xs dF h1 H1 e1 R1 q1 w1=>?_)⟩;cases q1 with
 |nil=>exact w1.elim|@cons x x' _ _ r1 rs=>
  cases rs with
  |nil=>exact w1.elim|@cons y y' _ _ r2 rs2=>
   cases rs2 with
   |cons _ _=>exact w1.elim|nil=>
    simp only[xp]at w1;cases g1:nF x h1 with
    |exc _ _ _=>rw[g1]at w1;exact w1.elim|bad=>rw[g1]at w1;exact w1.elim|ok it hx=>
     cases g2:nF y h1 with
     |exc _ _ _=>rw[g1,g2]at w1;exact w1.elim|bad=>rw[g1,g2]at w1;exact w1.elim|ok jt hy=>
      rw[g1,g2]at w1;obtain⟨pa,bY,rfl,sa,fa⟩:=Vo R1 r1 g1;obtain⟨pb,cM,rfl,sb,fb⟩:=Vo R1 r2 g2;refine⟨pa,pb,bY,cM,rfl,by rw[hK];exact sa,by rw[hK];exact sb,?_⟩;rw[hK];refine W.here w1 R1 λρ' h' H' i ex R'=>?_;unfold uI;cases o1:it i h' with
      |none=>exact⟨λq=>(by cases q),λv q=>(by cases q)⟩|some u=>
       cases o2:jt i h' with
       |none=>
        cases u with
        |none=>exact⟨λq=>(by cases q),λv q=>(by cases q)⟩|some u=>exact⟨λq=>(by cases q),λv q=>(by cases q)⟩
       |some v=>
        obtain⟨ys1,s1,c1⟩:=fa ρ' h' H' i ex R' u o1;obtain⟨ys2,s2,c2⟩:=fb ρ' h' H' i ex R' v o2;rcases c1 with⟨rfl,n1⟩|⟨u1,u1',rfl,n1,t1⟩
        .exact⟨λ_=>⟨ys1,ys2,s1,s2,.inl n1⟩,λv q=>(by cases q)⟩
        .rcases c2 with⟨rfl,n2⟩|⟨u2,u2',rfl,n2,t2⟩
         .exact⟨λ_=>⟨ys1,ys2,s1,s2,.inr n2⟩,λv q=>(by cases q)⟩
         .refine⟨λq=>(by cases q),λv q=>⟨⟨ys1,ys2,u1',u2',s1,s2,n1,n2⟩,λx H2 yl=>?_⟩⟩;cases q;obtain⟨Tt,y1,y2,hn,rfl,rfl,k1,k2⟩:=yl;have e1:=k1 ys1 s1;have e2:=k2 ys2 s2;rw[n1]at e1;rw[n2]at e2;cases e1;cases e2;exact⟨ρ',.jR hn,R'.keep hn,.tup (.of gY) (.cons (t1.ext (.jR hn)) (.cons (t2.ext (.jR hn)) .nil))⟩
end
def fH{α:Type}(m:M α):M α:=λh=>match m h with
 |.ok a h1=>.ok a h1
 |_=>.bad
theorem Ye{T:Tab}{α β:Type}{Rp:Rl α β}{m:M α}{h:AH}{ρ:List Addr}{H:Hp}{Q:β->Hp->Prop}{E E':XK}(w:W T Rp (fH m h) ρ H Q E):W T Rp (m h) ρ H Q E':=by
 unfold fH at w;cases e:m h with
 |ok a h1=>rw[e]at w;exact w|exc c x h1=>rw[e]at w;exact w.elim|bad=>rw[e]at w;exact w.elim
theorem M.bind_assoc{α β γ:Type}(m:M α)(k:α->M β)(l:β->M γ):(m.bind k).bind l=m.bind λx=>(k x).bind l:=by
 funext h
 unfold M.bind;cases m h<;>rfl
def eQ(it:fR)(g:AV->aH->M aH)(mt:aH->M Bool)(me:aH->M AV):Nat->Nat->List AV->aH->M (List AV)
 |0,_,_,_=>M.bad
 |f+1,i,ys,σ=>λh=>match it i h with
  |none=>.bad
  |some aD=>.ok ys h
  |some (aA v)=>((fH (g v σ)).bind λσ1=>(fH (mt σ1)).bind λb=>if b=aB then(me σ1).bind λy=>M.guard (ys.length<sizeLine) (eQ it g mt me f (i+1) (ys++[y]) σ1) else eQ it g mt me f (i+1) ys σ1) h
def nH{α:Type}(imp:List (Option Nat))(σ:List (Option α)):List (Option α):=imp.map λo=>match o with
 |some j=>(σ[j]?).getD aD
 |none=>aD
def xW(mi:M fR)(g:AV->aH->M aH)(mt:aH->M Bool)(me:aH->M AV)(imp:List (Option Nat))(σ:aH):M AV:=mi.bind λit=>(eQ it g mt me FU 0 [] (nH imp σ)).bind mL
def DG(T:Tab)(E:XK)(m:aH->M AV):TE:=λσ' H Q=>∃ρ σ h,bL T ρ h H/\cT T ρ H σ σ'/\W T (aT T) (m σ h) ρ H Q E
def DF(T:Tab)(m:aH->M Bool):TT:=λσ' H Q=>∃ρ σ h,bL T ρ h H/\cT T ρ H σ σ'/\W T RB (m σ h) ρ H Q E0
def DE(T:Tab)(g:AV->aH->M aH):TG:=λv' σ' H Q=>∃ρ v σ h,bL T ρ h H/\cT T ρ H σ σ'/\aT T ρ H v v'/\W T (cT T) (g v σ h) ρ H Q E0
section
variable {X:Cx}{T:Tab}{E:XK}{elt tg cO:aJ}{ct:Option aJ}{me:aH->M AV}{mt:aH->M Bool}{mi:aH->M fR}{g:AV->aH->M aH}{imp:List (Option Nat)}{N':List Str}{scope:eU}{pos:Pos}
theorem QE.canon{e:aJ}{m:aH->M AV}(h:QE X T E e m):PE X e (DG T E m):=let ⟨t,p,r⟩:=h;λpins s σ' H Q I ⟨ρ,σ,h,R,S,w⟩=>p pins s σ' H Q I (r ρ σ σ' h H Q R S w)
theorem QT.canon{e:aJ}{m:aH->M Bool}(h:QT X T E0 e m):PT X e (DF T m):=let ⟨t,p,r⟩:=h;λpins s σ' H Q I ⟨ρ,σ,h,R,S,w⟩=>p pins s σ' H Q I (r ρ σ σ' h H Q R S w)
theorem QG.canon{e:aJ}{g:AV->aH->M aH}(h:QG X T E0 e g):PG X e (DE T g):=let ⟨t,p,r⟩:=h;λpins s σ' H v' u Q I ru ⟨ρ,v,σ,h,R,S,rv,w⟩=>p pins s σ' H v' u Q I ru (r ρ v v' σ σ' h H Q R S rv w)
theorem xx{α:Type}(σ:List (Option α)):(nH imp σ).length=imp.length:=by simp[nH]
theorem Hy{α:Type}{σ:List (Option α)}{i:Nat}{v:α}(h:(nH imp σ)[i]?=aA (aA v)):∃j,imp[i]?=aA (aA j)/\σ[j]?=aA (aA v):=by
 unfold nH at h;rw[gK]at h;cases e:imp[i]? with
 |none=>rw[e]at h;cases h|some o=>
  rw[e]at h;cases o with
  |none=>cases h|some j=>
   refine⟨j,rfl,?_⟩;have h':(σ[j]?).getD aD=aA v:=dB h;cases q:σ[j]? with
   |none=>rw[q]at h';cases h'|some w=>rw[q]at h';exact congrArg aA h'
theorem cT.VW{ρ:List Addr}{H:Hp}{σ:aH}{σ':L2.St}(S:cT T ρ H σ σ'):cT T ρ H (nH imp σ) (nH imp σ'):=by refine⟨by rw[xx,xx],λi v e=>?_⟩;obtain⟨j,h1,h2⟩:=Hy e;obtain⟨v',h3,r⟩:=S.2 j v h2;refine⟨v',?_,r⟩;unfold nH;rw[gK,h1];show aA ((σ'[j]?).getD aD)=_;rw[h3];rfl
theorem Sg{wi:TI}(ri:∀ρ σ σ' h H R,bL T ρ h H->cT T ρ H σ σ'->W T (RI T) (mi σ h) ρ H R E->wi σ' H R){ρ:List Addr}{σ:aH}{σ':L2.St}{h:AH}{H:Hp}{Q:VK}(R:bL T ρ h H)(S:cT T ρ H σ σ')
  (w:W T (aT T) (xW (mi σ) g mt me imp σ h) ρ H Q E):Lj wi (nH imp) (DE T g) (DF T mt) (DG T E me) σ' H Q:=by
 refine ri ρ σ σ' h H _ R S (W.bind w λρ1 it J h1 H1 e1 R1 q1 w1=>?_);refine⟨λi m ys' σ' H=>∃ρ ys σ h,Ext ρ1 H1 ρ H/\bL T ρ h H/\cT T ρ H σ σ'/\bB T ρ H ys ys'/\W T (aT T) (((eQ it g mt me m i ys σ).bind mL) h) ρ H Q E,FU,⟨ρ1,[],_,h1,.refl,R1,(S.ext e1).VW,.nil,w1⟩,?_⟩;rintro i m ys' σ' H ⟨ρ,ys,σ,h,e,R,S,rys,w⟩
 cases m with
 |zero=>exact w.elim|succ f=>
  cases hit:it i h with
  |none=>
   have w':W T (aT T) Res.bad ρ H Q E:=by simp only[eQ,M.bind,hit]at w;exact w
   exact w'.elim
  |some o=>
   cases o with
   |none=>
    have w':W T (aT T) (mL ys h) ρ H Q E:=by simp only[eQ,M.bind,hit]at w;exact w
    exact .inl ⟨(q1 ρ h H i e R).1 hit,λD hD=>kq R rys hD w'⟩
   |some v=>
    have w':W T (aT T) ((((fH (g v σ)).bind λσ1=>(fH (mt σ1)).bind λb=>if b=aB then(me σ1).bind λy=>M.guard (ys.length<sizeLine) (eQ it g mt me f (i+1) (ys++[y]) σ1) else eQ it g mt me f (i+1) ys σ1).bind mL) h) ρ H Q E:=by
     have e1:∀k:List AV->M AV,((eQ it g mt me (f+1) i ys σ).bind k) h=((((fH (g v σ)).bind λσ1=>(fH (mt σ1)).bind λb=>if b=aB then(me σ1).bind λy=>M.guard (ys.length<sizeLine) (eQ it g mt me f (i+1) (ys++[y]) σ1) else eQ it g mt me f (i+1) ys σ1).bind k) h):=λk=>by unfold M.bind;simp only[eQ,hit];rfl
     rw[e1]at w;exact w
    rw[M.bind_assoc]at w';obtain⟨go,yl⟩:=(q1 ρ h H i e R).2 v hit;refine .inr ⟨go,λx H2 y=>?_⟩;obtain⟨ρ2,e2,R2,rv⟩:=yl x H2 y;refine⟨ρ2,v,σ,h,R2,S.ext e2,rv,Ye (E:=E) (W.bind (w'.ext e2) λρ3 σ3 σ3' h3 H3 e3 R3 S3 w3=>?_)⟩;rw[M.bind_assoc]at w3;refine⟨ρ3,σ3,h3,R3,S3,Ye (E:=E) (W.bind w3 λρ4 d d' h4 H4 e4 R4 q4 w4=>?_)⟩;have q4':d=d':=q4;subst q4';cases d with
    |true=>
     rw[if_pos rfl]at w4 ⊢;rw[M.bind_assoc]at w4;refine⟨ρ4,σ3,h4,R4,S3.ext e4,W.bind w4 λρ5 y y' h5 H5 e5 R5 q5 w5=>?_⟩;by_cases hz:ys.length<sizeLine
     .have w6:W T (aT T) (((eQ it g mt me f (i+1) (ys++[y]) σ3).bind mL) h5) ρ5 H5 Q E:=by
       have e6:((M.guard (ys.length<sizeLine) (eQ it g mt me f (i+1) (ys++[y]) σ3)).bind mL) h5=((eQ it g mt me f (i+1) (ys++[y]) σ3).bind mL) h5:=by unfold M.bind M.guard;rw[if_pos hz]
       rw[e6]at w5;exact w5
      have eE:=(((e.trans e2).trans e3).trans e4).trans e5;exact⟨by rw[<- rys.length];exact hz,f,cQ f,ρ5,ys++[y],σ3,h5,eE,R5,(S3.ext e4).ext e5,(rys.ext (((e2.trans e3).trans e4).trans e5)).append (.cons q5 .nil),w6⟩
     .have e6:((M.guard (ys.length<sizeLine) (eQ it g mt me f (i+1) (ys++[y]) σ3)).bind mL) h5 = .bad:=by unfold M.bind M.guard;rw[if_neg hz]
      rw[e6]at w5;exact w5.elim
    |false=>rw[if_neg dG]at w4 ⊢;exact⟨f,cQ f,ρ4,ys,σ3,h4,((e.trans e2).trans e3).trans e4,R4,S3.ext e4,rys.ext ((e2.trans e3).trans e4),w4⟩
theorem Zk(hsc:oA X N' scope)(rH:X.calm=aB)(hi:QI X T E tg cO mi)(hg:∀s H C fp,QG (X.comp N' scope s H C fp) T E0 tg g)(hct:∀c,ct=aA c->∀s H C fp,QT (X.comp N' scope s H C fp) T E0 c mt)
  (hct0:ct=aD->mt=λ_=>M.ret aB) (hst:X.stack=X.env::X.outer) (hfm:X.env.frame=aA X.env.locals) (hR:uZ X E) (he:∀s H C fp xe,(∀pins σ H1 s1 e s',Inv (X.lL N' scope s H C fp xe) pins σ H1 s1->dU X.prog X.w X.stack H1 s1 E e s'->xe e s')->QE (X.lL N' scope s H C fp xe) T E elt me) (himp:imp.length=N'.length)
  (hσ:∀(i j:Nat) x,N'[i]?=aA x->imp[i]?=aA (aA j)->scope.names.lookup x=aA .free/\(x,hZ)∈scope.names/\X.N[j]?=aA x) (hs:bP cO=aB) :
  QE X T E (.ListComp elt [⟨tg,cO,ct.toList,0⟩] scope pos) (λσ=>xW (mi σ) g mt me imp σ):=by
 obtain⟨wi,pi,ri⟩:=hi;refine⟨_,x6 (imp:=nH imp) hsc rH pi (λs H C fp=>(hg s H C fp).canon) (λc e s H C fp=>(hct c e s H C fp).canon) (λe σ H Q=>?_) hst hfm hR (λs H C fp xe h=>(he s H C fp xe h).canon) (λσ=>by rw[xx,himp]) (λσ i x v e1 e2=>?_) λx=>Kx hs,λρ σ σ' h H Q R S w=>Sg ri R S w⟩
 .rintro ⟨ρ,σ,h,R,S,w⟩
  rw[hct0 e]at w;exact W.here (Rp:=RB) w R rfl
 .obtain⟨j,h1,h2⟩:=Hy e2;obtain⟨a,b,c⟩:=hσ i j x e1 h1;exact⟨a,b,j,c,h2⟩
theorem AR{i:Nat}{y:Str}{py rZ:Pos}(hN:X.N.Nodup)(hi':X.N[i]?=aA y)(hy:X.env.scope.names.lookup y=aA .local)
  (hsw:ax (.ListComp elt [⟨tg,cO,ct.toList,0⟩] scope pos) (aA (.Name y py)) rZ.line X.env=pure aB) (hsc:oA X N' scope) (rH:X.calm=aB) (hi:QI X T E tg cO mi) (hg:∀s H C fp,QG (X.comp N' scope s H C fp) T E0 tg g) (hct:∀c,ct=aA c->∀s H C fp,QT (X.comp N' scope s H C fp) T E0 c mt)
  (hct0:ct=aD->mt=λ_=>M.ret aB) (hst:X.stack=X.env::X.outer) (hfm:X.env.frame=aA X.env.locals) (hR:uZ X E) (he:∀s H C fp xe,(∀pins σ H1 s1 e s',Inv (X.lL N' scope s H C fp xe) pins σ H1 s1->dU X.prog X.w X.stack H1 s1 E e s'->xe e s')->QE (X.lL N' scope s H C fp xe) T E elt me) (himp:imp.length=N'.length)
  (hσ:∀(i j:Nat) x,N'[i]?=aA x->imp[i]?=aA (aA j)->scope.names.lookup x=aA .free/\(x,hZ)∈scope.names/\X.N[j]?=aA x) (hs:bP cO=aB) :
  QS X T E (.Assign [.Name y py] (.ListComp elt [⟨tg,cO,ct.toList,0⟩] scope pos) rZ) (λσ=>(xW (mi σ) g mt me imp σ).bind λv=>(M.ret (σ.set i (aA v))).bind λσ1=>M.ret (.nx σ1)):=by
 obtain⟨wi,pi,ri⟩:=hi;refine⟨_,D4 (imp:=nH imp) hN hi' hy hsw hsc rH pi (λs H C fp=>(hg s H C fp).canon) (λc e s H C fp=>(hct c e s H C fp).canon) (λe σ H Q=>?_) hst hfm hR (λs H C fp xe h=>(he s H C fp xe h).canon) (λσ=>by rw[xx,himp]) (λσ i x v e1 e2=>?_) λx=>Kx hs,
  λρ σ σ' h H D R S w=>Sg ri R S (W.bind w λρ1 x x' h1 H1 e1 R1 q1 w1=>W.here (Q:=iK D) (b:=gB.nx (σ'.set i (aA x'))) w1 R1 ((S.ext e1).set q1 i))⟩
 .rintro ⟨ρ,σ,h,R,S,w⟩
  rw[hct0 e]at w;exact W.here (Rp:=RB) w R rfl
 .obtain⟨j,h1,h2⟩:=Hy e2;obtain⟨a,b,c⟩:=hσ i j x e1 h1;exact⟨a,b,j,c,h2⟩
end
inductive Kc where
 |any|srt (b:Bool)|YO
 |all|mx
def qY:List AV->Option (List Bool)
 |[]=>aA []
 |.bl b::r=>(qY r).map (b::·)
 |_=>aD
def Ig:List AV->Option (List Int)
 |[]=>aA []
 |.int b::r=>(Ig r).map (b::·)
 |_=>aD
theorem Fv:∀bs:List Bool,qY (bs.map AV.bl)=aA bs
 |[]=>rfl|b::bs=>by simp[qY,Fv bs]
def Kc.gl:Kc->List AV->M AV
 |.any,xs=>λh=>match qY xs with
  |some bs=>.ok (.bl (bs.any id)) h
  |none=>.bad
 |.all,xs=>λh=>match qY xs with
  |some bs=>.ok (.bl (bs.all id)) h
  |none=>.bad
 |.mx,xs=>λh=>match Ig xs with
  |some ns=>if ns.isEmpty=aB then .bad else .ok (.int (YM ns)) h
  |none=>.bad
 |.srt b,xs=>λh=>match Ig xs with
  |some ns=>if ns.length<64 then mL ((aBo b ns).map AV.int) h else .bad
  |none=>.bad
 |.YO,xs=>λh=>match xs with
  |[]=>.ok .aK h
  |_=>.bad
def Kc.g(k:Kc)(x:AV):M AV:=λh=>match x with
 |.ref n=>match h.ob n with
  |some (.lst _ xs)=>k.gl xs h
  |_=>.bad
 |_=>.bad
section
variable {X:Cx}{T:Tab}{E:XK}{a:aJ}{m:aH->M AV}{p pos:Pos}
theorem Fu{ρ:List Addr}{H:Hp}:∀{xs:List AV}{ys:List V}{bs:List Bool},bB T ρ H xs ys->qY xs=aA bs->ys=bs.map V.bl
 |_,_,_,.nil,e=>by cases e;rfl
 |_,_,_,.cons (x:=x) (xs:=xs) h t,e=>by
  cases h with
  |bl b=>
   simp only[qY]at e;cases q:qY xs with
   |none=>rw[q]at e;cases e|some bs=>rw[q]at e;cases e;rw[Fu t q];rfl
  |_=>cases e
theorem Vs(hK:X.K=T.K){k:Kc}
  {ρ:List Addr}{h:AH}{H:Hp}{x:AV} {x':V}{Q:VK} (R:bL T ρ h H) (r:aT T ρ H x x') (w:W T (aT T) (k.g x h) ρ H Q E) :
  ∃(l:Addr) (xs:List AV) (ys:List V),x' = .ref l/\cW X.K H l ys/\bB T ρ H xs ys/\W T (aT T) (k.gl xs h) ρ H Q E:=by
 unfold Kc.g at w;cases x with
 |ref n=>
  cases r with
  |@ref _ l q=>
   dsimp only at w;cases o:h.ob n with
   |none=>rw[o]at w;exact w.elim|some u=>
    rw[o]at w;cases u with
    |lst b xs=>obtain⟨ys,h1,h2⟩:=mK R o q;exact⟨l,xs,ys,rfl,by rw[hK];exact h1,h2,w⟩
    |_=>exact w.elim
 |_=>exact w.elim
theorem F2(hK:X.K=T.K) (hc:X.calm=aB) (hg:Gl X "any") (hm:X.mg "any"=aD) (ha:QE X T E a m) (hs:bP a=aB):QE X T E (.Call (.Name "any" p) [a] [] pos) (λσ=>(m σ).bind (Kc.any.g)):=by
 obtain⟨ta,pa,ra⟩:=ha;refine⟨_,lh (OV hc) hg hm (by decide +kernel) (mM pa oW (dY hs)) (by decide) (by decide) (dY hs) rfl,λρ σ σ' h H Q R S w=>?_⟩;refine ra ρ σ σ' h H _ R S (W.bind w λρ1 x x' h1 H1 e1 R1 q1 w1=>?_);obtain⟨l,xs,ys,rfl,hq,hr,w2⟩:=Vs hK
  R1 q1 w1
 simp only[Kc.gl]at w2;cases q:qY xs with
 |none=>rw[q]at w2;exact w2.elim|some bs=>rw[q]at w2;have e:=Fu hr q;subst e;exact⟨l,bs,rfl,hq,w2.here R1 (.bl _)⟩
theorem F0(hK:X.K=T.K) (hc:X.calm=aB) (hg:Gl X "all") (hm:X.mg "all"=aD) (ha:QE X T E a m) (hs:bP a=aB):QE X T E (.Call (.Name "all" p) [a] [] pos) (λσ=>(m σ).bind (Kc.all.g)):=by
 obtain⟨ta,pa,ra⟩:=ha;refine⟨_,lh (OU hc) hg hm (by decide +kernel) (mM pa oW (dY hs)) (by decide) (by decide) (dY hs) rfl,λρ σ σ' h H Q R S w=>?_⟩;refine ra ρ σ σ' h H _ R S (W.bind w λρ1 x x' h1 H1 e1 R1 q1 w1=>?_);obtain⟨l,xs,ys,rfl,hq,hr,w2⟩:=Vs hK
  R1 q1 w1
 simp only[Kc.gl]at w2;cases q:qY xs with
 |none=>rw[q]at w2;exact w2.elim|some bs=>rw[q]at w2;have e:=Fu hr q;subst e;exact⟨l,bs,rfl,hq,w2.here R1 (.bl _)⟩
end
inductive BT where
 |aK|bl|int|str|tup|lst|bQ
 deriving DecidableEq
def BT.nm:BT->String
 |.aK=>"NoneType" |.bl=>"bool" |.int=>"int" |.str=>"str" |.tup=>"tuple" |.lst=>"list" |.bQ=>"dict"
def BT.sub(s t:BT):Bool:=decide (s=t)||(decide (s = .bl)&&decide (t = .int))
theorem yO{K:aX}(s t:BT):eO K (.type s.nm) (.type t.nm)=aA (s.sub t):=by cases s<;>cases t<;>first|rfl|(with_unfolding_all rfl)|decide +kernel
inductive sX(K:aX)(H:Hp):V->BT->Prop where
 |aK:sX K H .aK .aK
 |bl (x:Bool):sX K H (.bl x) .bl
 |int (i:Int):sX K H (.int i) .int
 |str (x:Str):sX K H (.str x) .str
 |lst {a:Addr}{xs:List V} (e:cW K H a xs):sX K H (.ref a) .lst
 |tup {a:Addr}{xs:List V} (e:dE K H a xs):sX K H (.ref a) .tup
 |bQ {a:Addr}{aE:List (aU×V)} (e:H a=aA (.dK aE)):sX K H (.ref a) .bQ
def rA(h:AH):AV->Option BT
 |.aK=>aA .aK
 |.bl _=>aA .bl
 |.int _=>aA .int
 |.str _=>aA .str
 |.tup _=>aA .tup
 |.ref n=>match h.ob n with
  |some (.lst _ _)=>aA .lst
  |some (.bQ _)=>aA .bQ
  |_=>aD
 |_=>aD
def yE(t:BT)(x:AV):M AV:=λh=>match rA h x with
 |some s=>.ok (.bl (s.sub t)) h
 |none=>.bad
section
variable {X:Cx}{T:Tab}{E:XK}{a b c e tg l o:aJ}{es:List aJ}{ma mb mc m:aH->M AV}{mr:aH->M (List AV)}{pos p apos:Pos}
theorem OY(t:BT):jJ X (.builtin "isinstance") (λxs H Q=>∃x s,xs=[x,.ty t.nm]/\sX X.K H x s/\Q (.bl (s.sub t)) H):=by
 intro pins st σ H xs us Q I r h;obtain⟨x,s,rfl,ty,q⟩:=h;obtain⟨u,w',rfl,ru,rw'⟩:=Ly r;obtain rfl:w'=Ef t.nm:=rw';have fin:∀tk,EP X pins σ Q (.bool (s.sub t)) { st with toks:=tk }:=λtk=>⟨.bl _,H,I.tok tk,rfl,q⟩;cases ty with
 |aK=>cases ru;exact xE W.kitx_none I.fW dJ (yO .aK t) (λz=>nomatch z) fin|bl y=>cases ru;exact xE W.kitx_bool I.fW dJ (yO .bl t) (λz=>nomatch z) fin|int i=>obtain⟨tk,rfl⟩:=ru;exact xE W.kitx_int I.fW dJ (yO .int t) (λz=>nomatch z) fin|str y=>obtain⟨tk,rfl⟩:=ru;exact xE W.kitx_str I.fW dJ (yO .str t) (λz=>nomatch z) fin|lst e=>cases ru;obtain⟨_,_,⟨ob,n,h1,h2,_⟩,_⟩:=I.list e;exact xE W.kitx_list I.fW ⟨ob,h1,h2⟩ (yO .lst t) (λz=>nomatch z) fin
 |tup e=>cases ru;obtain⟨_,_,⟨ob,h1,h2,_⟩,_⟩:=I.tuple e;exact xE W.kitx_tuple I.fW ⟨ob,h1,h2⟩ (yO .tup t) (λz=>nomatch z) fin
 |@bQ a aE e=>cases ru;obtain⟨_,_,vs,_,ob,es,ep,h1,h2,_⟩:=(show eZ X.prog X.w H st.heap a (.dK aE) from I.aR a _ e);exact xE W.kitx_dict I.fW ⟨ob,h1,h2.1⟩ (yO .bQ t) (λz=>nomatch z) fin
theorem OR(hK:X.K=T.K){ρ:List Addr}{h:AH}{H:Hp}{x:AV}{x':V}{s:BT}(R:bL T ρ h H)(r:aT T ρ H x x')(e:rA h x=aA s):sX X.K H x' s:=by
 cases r with
 |aK=>cases e;exact .aK|bl b=>cases e;exact .bl b|int i=>cases e;exact .int i|str y=>cases e;exact .str y|tup hq hr=>cases e;exact .tup (by rw[hK];exact hq)|@ref n a q=>
  simp only[rA]at e;cases o:h.ob n with
  |none=>rw[o]at e;cases e|some u=>
   rw[o]at e;cases u with
   |lst m xs=>cases e;obtain⟨ys,h1,_⟩:=mK R o q;exact .lst (by rw[hK];exact h1)
   |bQ aE=>cases e;obtain⟨ks,ys,h1,_⟩:=R.obj n _ a o q;exact .bQ h1
   |ins _ _=>cases e|xo _=>cases e
 |pV q=>cases e
theorem G4(hK:X.K=T.K) {y:Str}{p2:Pos} (t:BT) (hg:Gl X "isinstance") (hm:X.mg "isinstance"=aD) (hg2:Gl X y) (hm2:X.mg y=aD) (hv2:pK y=aA (.type t.nm)) (hn2:y≠"__name__") (hd2:(y==("__debug__":Str))=aF)
  (ha:QE X T E a m) (hs:bP a=aB):QE X T E (.Call (.Name "isinstance" p) [a,.Name y p2] [] pos) (λσ=>(m σ).bind (yE t)):=by
 obtain⟨ta,pa,ra⟩:=ha;refine⟨_,lh (OY t) hg hm LJ (mM pa (mM (Yz (v:=.ty t.nm) hg2 hm2 hv2 rfl hn2 hd2) oW) (dY hs)) (by decide) (by decide) (dY hs) rfl,λρ σ σ' h H Q R S w=>?_⟩;refine ra ρ σ σ' h H _ R S (W.bind w λρ1 x x' h1 H1 e1 R1 q1 w1=>?_);unfold yE at w1;cases o:rA h1 x with
 |none=>rw[o]at w1;exact w1.elim|some s=>rw[o]at w1;exact⟨x',s,rfl,OR hK R1 q1 o,w1.here R1 (.bl _)⟩
def tH(cs:List (Nat×Bool))(x:AV):M AV:=λh=>match x with
 |.ref n=>match h.ob n with
  |some (.xo c)=>match cs.lookup (c%64) with
   |some b=>.ok (.bl b) h
   |none=>.bad
  |_=>.bad
 |_=>.bad
theorem OZ{v:V}{c:Value}(hv:∀u,RelV v u->u=c):jJ X (.builtin "isinstance") (λxs H Q=>∃a C dx b,xs=[.ref a,v]/\H a=aA (.ext (lB a (.ref C) dx))/\W.uH X.K C=aB/\eO X.K (.ref C) c=aA b/\Q (.bl b) H):=by intro pins st σ H xs us Q I r h;obtain⟨a,C,dx,b,rfl,e,hx,hk,q⟩:=h;obtain⟨u,w',rfl,ru,rw'⟩:=Ly r;obtain rfl:=hv _ rw';cases ru;obtain⟨p,_,_⟩:=(show eZ X.prog X.w H st.heap a (.ext (lB a (.ref C) dx)) from I.aR a _ e);exact xE (W.aIy hx) I.fW p hk (λz=>nomatch z) λtk=>⟨.bl _,H,I.tok tk,rfl,q⟩
theorem G5(hK:X.K=T.K) {y:Str}{p2:Pos}{v:V}{d:Value}{cs:List (Nat×Bool)} (hv:∀u,RelV v u->u=d) (hg:Gl X "isinstance") (hm:X.mg "isinstance"=aD) (py:PE X (.Name y p2) (tC v))
  (hcs:∀k b,cs.lookup k=aA b->∃C,T.C k=aA C/\W.uH X.K C=aB/\eO X.K (.ref C) d=aA b)
  (ha:QE X T E a m) (hs:bP a=aB):QE X T E (.Call (.Name "isinstance" p) [a,.Name y p2] [] pos) (λσ=>(m σ).bind (tH cs)):=by
 obtain⟨ta,pa,ra⟩:=ha;refine⟨_,lh (OZ hv) hg hm LJ (mM pa (mM py oW) (dY hs)) (by decide) (by decide) (dY hs) rfl,λρ σ σ' h H Q R S w=>?_⟩;refine ra ρ σ σ' h H _ R S (W.bind w λρ1 x x' h1 H1 e1 R1 q1 w1=>?_);unfold tH at w1;cases x with
 |ref n=>
  dsimp only at w1;cases q1 with
  |@ref _ a' q=>
   cases o:h1.ob n with
   |none=>rw[o]at w1;exact w1.elim|some u=>
    rw[o]at w1;cases u with
    |xo c=>
     dsimp only at w1;cases l:cs.lookup (c%64) with
     |none=>rw[l]at w1;exact w1.elim|some b=>rw[l]at w1;obtain⟨C,dx,hC,g1,_⟩:=R1.obj n _ a' o q;obtain⟨C',hC',hx,hk⟩:=hcs _ b l;rw[hC]at hC';cases hC';exact⟨a',C,dx,b,rfl,g1,hx,hk,w1.here R1 (.bl _)⟩
    |_=>exact w1.elim
 |_=>exact w1.elim
def vN(cs:List Nat)(x:AV):M AV:=λh=>match x with
 |.ref n=>match h.ob n with
  |some (.xo c)=>if(cs.contains (c%64)&&decide (c / 64≠0))=aB then .ok (.int (c / 64-1:Nat)) h else .bad
  |_=>.bad
 |_=>.bad
def kP(x v:AV):M AV:=λh=>match x with
 |.ref n=>match h.ob n with
  |some (.lst aB xs)=>if xs.length<sizeLine then .ok .aK (h.put n (.lst aB (xs++[v]))) else .bad
  |_=>.bad
 |_=>.bad
def iX(h:AH):AV->Bool
 |.ref n=>match h.ob n with
  |some (.lst _ _)=>aB
  |_=>aF
 |_=>aF
def Fo(a b:M AV):M AV:=a.bind λx h=>if iX h x=aB then(b.bind λy=>kP x y) h else .bad
theorem kn{α β:Type} [BEq α] [LawfulBEq α]:∀{l:List (α×β)}{x:α}{v:β},l.lookup x=aA v->(x,v)∈l
 |[],_,_,h=>by cases h
 | (k,u)::r,x,v,h=>by
  rw[gR]at h;cases hb:(x==k) with
  |true=>simp only[hb]at h;rw[eq_of_beq hb,dB h];exact fU ..
  |false=>simp only[hb]at h;exact hV _ (kn h)
def mB:aJ->Bool
 |.Name ..=>aB | .Attribute ..=>aB | .Subscript ..=>aB
 |.Call (.Attribute ..) _ _ _=>aB
 |.Call (.Name ..) (_::_) _ _=>aB
 |_=>aF
theorem jk{o:aJ}{f:Str}{env:Env}{whole:Sem Value}(h:mB o=aB):Eg o f env whole=whole:=by
 cases o with
 |Name=>rfl|Attribute=>rfl|Subscript=>rfl|Call g es ks p=>
  cases g with
  |Attribute=>rfl|Name=>
   cases es with
   |nil=>cases h|cons=>rfl
  |_=>cases h
 |_=>cases h
theorem K0{cs:List Nat} (hC:∀c,cs.contains c=aB->∃D,T.C c=aA D/\W.lA X.K D "line"=aB) (ho:QE X T E o ma) (hb:mB o=aB):QE X T E (.Attribute o "line" pos) (λσ=>(ma σ).bind (vN cs)):=by
 obtain⟨ta,pa,ra⟩:=ho;refine⟨_,A2 pa (jk hb),λρ σ σ' h H Q R S w=>ra ρ σ σ' h H _ R S (W.bind w λρ1 x x' h1 H1 e1 R1 q1 w1=>?_)⟩;cases x with
 |ref n=>
  cases q1 with
  |@ref _ p q=>
   simp only[vN]at w1;cases ob:h1.ob n with
   |none=>rw[ob]at w1;exact w1.elim|some u=>
    rw[ob]at w1;cases u with
    |xo c=>
     obtain⟨C,dx,hc,g,hx⟩:=R1.obj n _ p ob q;by_cases hm:(cs.contains (c%64)&&decide (c / 64≠0))=aB
     case neg=>simp only[if_neg hm]at w1;exact w1.elim
     simp only[if_pos hm]at w1;rw[aY,decide_eq_true_eq]at hm;obtain⟨D,hD,aR⟩:=hC _ hm.1;rw[hc]at hD;cases hD;obtain⟨d,od,rfl,hd⟩:=hx hm.2;exact⟨p,C,d,od,_,rfl,g,hd,aR,W.here w1 R1 (.int _)⟩
    |_=>exact w1.elim
 |_=>exact w1.elim
theorem aIa{ρ:List Addr}{H:Hp}{p:Addr}{O O':HO}(g1:H p=aA O)(nt:∀xs,O ≠ .tup xs)(nf:∀x u,O ≠ .dX x u):Ext ρ H ρ (aZ H p O'):=⟨λ_ _ z=>z,λb xs z=>by
 rw[bW (tS z g1 λw=>nt xs w.symm)];exact z,λb x u z=>by
 rw[bW (tS z g1 λw=>nf x u w.symm)];exact z⟩
def vL(x v:AV):M AV:=λh=>match x with
 |.ref n=>match h.ob n with
  |some (.lst aB xs)=>match v with
   |.str u=>if xs.all nK=aB then(match xs.findIdx? (λy=>iT y (.str u)) with
    |some j=>.ok (.int (j:Nat)) h
    |none=>.bad) else .bad
   |_=>.bad
  |_=>.bad
 |_=>.bad
def Iz(a b:M AV):M AV:=a.bind λx h=>if iX h x=aB then(b.bind λy=>vL x y) h else .bad
theorem G8(hK:X.K=T.K)(hu:X.A.units+1<cLine)(ho:QE X T E o ma)(ha:QE X T E a mb)(hb:mB o=aB)(hs:bP a=aB)(hl:(apos.endLine==pos.line)=aB) :
  QE X T E (.Call (.Attribute o "index" apos) [a] [] pos) (λσ=>Iz (ma σ) (mb σ)):=by
 obtain⟨ta,pa,ra⟩:=ho;obtain⟨tb,pb,rb⟩:=ha;refine⟨_,dz KA KD aLo (YW hu) pa (mM pb oW (dY hs)) (jk hb) (by rw[dY hs];rfl) hl (dY hs) rfl,λρ σ σ' h H Q R S w=>?_⟩;refine ra ρ σ σ' h H _ R S (W.bind w λρ1 x x' h1 H1 e1 R1 q1 w1=>?_);have w1':W T (aT T) (if iX h1 x=aB then((mb σ).bind λy=>vL x y) h1 else .bad) ρ1 H1 Q E:=w1;by_cases hL:iX h1 x=aB
 case neg=>rw[if_neg hL]at w1';exact w1'.elim
 rw[if_pos hL]at w1';cases x with
 |ref n=>
  cases q1 with
  |@ref _ p q=>
   have fin:∀ρ2 y y' h2 H2,Ext ρ1 H1 ρ2 H2->bL T ρ2 h2 H2->aT T ρ2 H2 y y'->W T (aT T) (vL (.ref n) y h2) ρ2 H2 Q E->BF X.K (.ref p) [y'] H2 Q:=λρ2 y y' h2 H2 e2 R2 q2 w2=>by
    have q':=e2.pre n p q;simp only[vL]at w2;cases ob:h2.ob n with
    |none=>rw[ob]at w2;exact w2.elim|some u=>
     rw[ob]at w2;cases u with
     |lst mu xs=>
      cases mu with
      |true=>
       cases y with
       |str z=>
        cases q2;dsimp only at w2;by_cases hz:xs.all nK=aB
        case neg=>rw[if_neg hz]at w2;exact w2.elim
        rw[if_pos hz]at w2;obtain⟨ys,g1,r1⟩:=mK R2 ob q';cases hj:xs.findIdx? (λy=>iT y (.str z)) with
        |none=>rw[hj]at w2;exact w2.elim|some j=>rw[hj]at w2;exact⟨p,ys,z,j,rfl,by rw[hK];exact g1,rfl,by rw[hK];exact Jg r1 hz,by rw[Yb r1 hz];exact hj,W.here w2 R2 (.int _)⟩
       |_=>exact w2.elim
      |false=>exact w2.elim
     |bQ _=>exact w2.elim|ins _ _=>exact w2.elim|xo _=>exact w2.elim
   refine⟨.inl ⟨rfl,?_⟩,rb ρ1 σ σ' h1 H1 _ R1 (S.ext e1) (W.bind w1' λρ2 y y' h2 H2 e2 R2 q2 w2=>fin ρ2 y y' h2 H2 e2 R2 q2 w2)⟩;simp only[iX]at hL;cases ob:h1.ob n with
   |none=>rw[ob]at hL;cases hL|some u=>
    cases u with
    |lst mu xs=>obtain⟨ys,g1,_⟩:=mK R1 ob q;exact⟨ys,by rw[hK];exact g1⟩
    |bQ _=>rw[ob]at hL;cases hL|ins _ _=>rw[ob]at hL;cases hL|xo _=>rw[ob]at hL;cases hL
 |_=>cases hL
theorem F3(hK:X.K=T.K)(ho:QE X T E o ma)(ha:QE X T E a mb)(hb:mB o=aB)(hs:bP a=aB)(hl:(apos.endLine==pos.line)=aB) :
  QE X T E (.Call (.Attribute o "append" apos) [a] [] pos) (λσ=>Fo (ma σ) (mb σ)):=by
 obtain⟨ta,pa,ra⟩:=ho;obtain⟨tb,pb,rb⟩:=ha;refine⟨_,dz KA aLi aLn YS pa (mM pb oW (dY hs)) (jk hb) (by rw[dY hs];rfl) hl (dY hs) rfl,λρ σ σ' h H Q R S w=>?_⟩;refine ra ρ σ σ' h H _ R S (W.bind w λρ1 x x' h1 H1 e1 R1 q1 w1=>?_);have w1':W T (aT T) (if iX h1 x=aB then((mb σ).bind λy=>kP x y) h1 else .bad) ρ1 H1 Q E:=w1;by_cases hL:iX h1 x=aB
 case neg=>rw[if_neg hL]at w1';exact w1'.elim
 rw[if_pos hL]at w1';cases x with
 |ref n=>
  cases q1 with
  |@ref _ p q=>
   have fin:∀ρ2 y y' h2 H2,Ext ρ1 H1 ρ2 H2->bL T ρ2 h2 H2->aT T ρ2 H2 y y'->W T (aT T) (kP (.ref n) y h2) ρ2 H2 Q E->AW (.ref p) [y'] H2 Q:=λρ2 y y' h2 H2 e2 R2 q2 w2=>by
    have q':=e2.pre n p q;simp only[kP]at w2;cases ob:h2.ob n with
    |none=>rw[ob]at w2;exact w2.elim|some u=>
     rw[ob]at w2;cases u with
     |lst mu xs=>
      cases mu with
      |true=>
       obtain⟨ys,g1,r1⟩:=R2.obj n _ p ob q';by_cases hz:xs.length<sizeLine
       .simp only[if_pos hz]at w2;obtain⟨R3,e3⟩:=R2.write (o':=.lst aB (xs++[y])) (O':=.lst (ys++[y'])) ob rfl rfl q' g1 (λ_ z=>by cases z) (λ_ _ z=>by cases z)
         ⟨_,gY,(r1.append (.cons q2 .nil)).ext (aIa g1 (λ_ z=>by cases z) (λ_ _ z=>by cases z))⟩
        exact⟨p,ys,y',rfl,rfl,g1,by rw[<- r1.length];exact hz,W.ok w2 e3 R3 .aK⟩
       .simp only[if_neg hz]at w2;exact w2.elim
      |false=>exact w2.elim
     |bQ _=>exact w2.elim|ins _ _=>exact w2.elim|xo _=>exact w2.elim
   refine⟨.inl ⟨rfl,?_⟩,rb ρ1 σ σ' h1 H1 _ R1 (S.ext e1) (W.bind w1' λρ2 y y' h2 H2 e2 R2 q2 w2=>fin ρ2 y y' h2 H2 e2 R2 q2 w2)⟩;simp only[iX]at hL;cases ob:h1.ob n with
   |none=>rw[ob]at hL;cases hL|some u=>
    cases u with
    |lst mu xs=>obtain⟨ys,g1,_⟩:=mK R1 ob q;exact⟨ys,by rw[hK];exact g1⟩
    |bQ _=>rw[ob]at hL;cases hL|ins _ _=>rw[ob]at hL;cases hL|xo _=>rw[ob]at hL;cases hL
 |_=>cases hL
def Qk(P:bG)(w:bD)(K:aX)(a:Addr)(aE:List (Str×Int)):Prop:=∀h:aQ,K.In h->StrTab P w h a (aE.map λp=>(PyData.str p.1,PyData.int p.2))
def yJ(aE:List (Str×AV))(y:AV):M AV:=λh=>match y with
 |.str k=>match aE.lookup k with
  |some v=>.ok v h
  |none=>.bad
 |_=>.bad
def vn(X:Cx)(T:Tab)(x:Str)(aE:List (Str×AV)):Prop:=∃(a:Addr) (us:List (Str×Value)),X.mg x=aA (.ref a)/\xS X.prog X.w X.K a us /\
 (a==kF)=aF/\(∀k,aE.lookup k=aD->iC us k=aD) /\
 ∀k v,aE.lookup k=aA v->∃u v',iC us k=aA u/\RelV v' u/\∀ρ H,aT T ρ H v v'
theorem J2{x:Str}{aE:List (Str×AV)}{b:aJ}{mb:aH->M AV}{p1 pos:Pos} (hg:Gl X x) (hT:vn X T x aE) (hb:QE X T E b mb) (hs:vj b) (hd:(x==("__debug__":Str))=aF) :
  QE X T E (.Subscript (.Name x p1) b pos) (λσ=>(mb σ).bind (yJ aE)):=by
 obtain⟨tb,pb,rb⟩:=hb;obtain⟨a,us,hm,hK,-,-,hv⟩:=hT;refine⟨_,Zb WU (ee (v:=.ref a) hg hm rfl hd) pb hs,λρ σ σ' h H Q R S w=>?_⟩;refine rb ρ σ σ' h H _ R S (W.bind w λρ1 y y' h1 H1 e1 R1 q1 w1=>?_);cases y with
 |str k=>
  cases q1;simp only[yJ]at w1;cases l:aE.lookup k with
  |none=>rw[l]at w1;exact w1.elim|some v=>rw[l]at w1;obtain⟨u,v',h1,h2,h3⟩:=hv k v l;exact⟨a,us,k,u,v',rfl,rfl,hK,h1,h2,W.here w1 R1 (h3 _ _)⟩
 |_=>exact w1.elim
def wH:List AV->Option (List Str)
 |[]=>aA []
 |.str x::r=>(wH r).map (x::·)
 |_::_=>aD
theorem CV:∀{xs:List AV}{ts:List Str},wH xs=aA ts->xs=ts.map AV.str
 |[],ts,h=>by cases h;rfl
 |x::r,ts,h=>by
  cases x with
  |str y=>
   simp only[wH]at h;cases q:wH r with
   |none=>rw[q]at h;cases h|some us=>rw[q]at h;cases h;rw[CV q];rfl
  |_=>cases h
theorem bB.strs:∀{ρ:List Addr}{H:Hp}{ts:List Str}{ys:List V},bB T ρ H (ts.map AV.str) ys->ys=ts.map V.str
 |_,_,[],_,.nil=>rfl|_,_,t::ts,_,.cons (.str _) r=>by rw[bB.strs r];rfl
inductive Tk where
 |sw|ew|st|sp|pa
def Tk.nm:Tk->Str
 |.sw=>"startswith" |.ew=>"endswith" |.st=>"strip" |.sp=>"split" |.pa=>"partition"
def qc(z u:Str):Bool:=!(u.length==0)&&(decide (z.length<=sizeLine)&&(decide ((uR z u).length<=sizeLine)&&decide ((gi z (qH z u 0 z.length (z.length+1)) u.length).length<=sizeLine)))
def iP(k:Tk)(x y:AV):M AV:=λh=>match x,y with
 |.str z,.str u=>match k with
  |.sw=>.ok (.bl (Ed z u)) h
  |.ew=>.ok (.bl (Eb z u)) h
  |.st=>if z.length<=sizeLine then .ok (.str (Ee z u)) h else .bad
  |.sp=>if qc z u=aB then mL ((uR z u).map AV.str) h else .bad
  |.pa=>if(u.length==0)=aF/\z.length<=sizeLine then .ok (.tup ((yU z u).map AV.str)) h else .bad
 |_,_=>.bad
def Bm(k:Tk)(a b:M AV):M AV:=a.bind λx=>match x with
 |.str z=>b.bind λy=>iP k (.str z) y
 |_=>M.bad
theorem bB.Lg{ρ:List Addr}{H:Hp}:∀{ts:List Str},bB T ρ H (ts.map AV.str) (ts.map V.str)
 |[]=>.nil
 |_::_=>.cons (.str _) bB.Lg
theorem mn{k:Tk}{id:String}{r:V->List V->Hp->VK->Prop} (hsl:Slot "str" k.nm id) (hty:uW (.builtin id)=pure (.type "method_descriptor")) (hm:sR X id r) (ho:QE X T E o ma) (ha:QE X T E a mb) (hb:mB o=aB) (hs:bP a=aB) (hl:(apos.endLine==pos.line)=aB)
  (hr:∀ρ h H z u Q,bL T ρ h H->W T (aT T) (iP k (.str z) (.str u) h) ρ H Q E->r (.str z) [.str u] H Q) :
  QE X T E (.Call (.Attribute o k.nm apos) [a] [] pos) (λσ=>Bm k (ma σ) (mb σ)):=by
 obtain⟨ta,pa,ra⟩:=ho;obtain⟨tb,pb,rb⟩:=ha;refine⟨_,dz KC hsl hty hm pa (mM pb oW (dY hs)) (jk hb) (by rw[dY hs];rfl) hl (dY hs) rfl,λρ σ σ' h H Q R S w=>?_⟩;refine ra ρ σ σ' h H _ R S (W.bind w λρ1 x x' h1 H1 e1 R1 q1 w1=>?_);cases x with
 |str z=>
  cases q1;refine⟨rfl,rb ρ1 σ σ' h1 H1 _ R1 (S.ext e1) (W.bind w1 λρ2 y y' h2 H2 e2 R2 q2 w2=>?_)⟩;cases y with
  |str u=>cases q2;exact hr ρ2 h2 H2 z u Q R2 w2
  |_=>exact w2.elim
 |_=>exact w1.elim
theorem J3(k:Tk)(ho:QE X T E o ma)(ha:QE X T E a mb)(hb:mB o=aB)(hs:bP a=aB)(hl:(apos.endLine==pos.line)=aB) :
  QE X T E (.Call (.Attribute o k.nm apos) [a] [] pos) (λσ=>Bm k (ma σ) (mb σ)):=by
 cases k with
 |sw=>exact mn aLl aLr YZ ho ha hb hs hl λρ h H z u Q R w=>⟨z,u,rfl,rfl,W.here w R (.bl _)⟩|ew=>exact mn aLj aLp YU ho ha hb hs hl λρ h H z u Q R w=>⟨z,u,rfl,rfl,W.here w R (.bl _)⟩|st=>
  exact mn PySem.F.slot_str_strip PySem.F.type_str_strip ZA ho ha hb hs hl λρ h H z u Q R w=>by
   by_cases hz:z.length<=sizeLine
   .simp only[iP,if_pos hz]at w;exact⟨z,u,rfl,rfl,hz,W.here w R (.str _)⟩
   .simp only[iP,if_neg hz]at w;exact w.elim
 |sp=>
  exact mn PySem.F.slot_str_split PySem.F.type_str_split YY ho ha hb hs hl λρ h H z u Q R w=>by
   by_cases hz:qc z u=aB
   .simp only[iP,if_pos hz]at w;simp only[qc,aY,qG,decide_eq_true_eq]at hz;exact⟨z,u,rfl,rfl,hz.1,hz.2.1,hz.2.2.1,hz.2.2.2,λD hD=>kq R bB.Lg hD w⟩
   .simp only[iP,if_neg hz]at w;exact w.elim
 |pa=>
  exact mn aLk aLq YX ho ha hb hs hl λρ h H z u Q R w=>by
   by_cases hz:(u.length==0)=aF/\z.length<=sizeLine
   .simp only[iP,if_pos hz]at w;exact⟨z,u,rfl,rfl,hz.1,hz.2,λD hD=>yq R bB.Lg hD w⟩
   .simp only[iP,if_neg hz]at w;exact w.elim
def Qn(X:Cx)(x:Str)(ts:List Str):Prop:=∃(a:Addr) (o:Obj) (its:Array Value) (n:Nat),X.mg x=aA (.ref a)/\X.K.lookup a=aA o/\o.cls = .type "tuple"/\o.dict=aD/\o.data = .seq its n/\its.size<=sizeLine/\Vals (ts.map V.str) its.toList
def yI(ts:List Str)(y:AV):M AV:=λh=>match y with
 |.str u=>match ts.idxOf? u with
  |some i=>.ok (.int (i:Nat)) h
  |none=>.bad
 |_=>.bad
theorem J1{x:Str}{ts:List Str}{p1:Pos} (hg:Gl X x) (hT:Qn X x ts) (ha:QE X T E a mb) (hs:bP a=aB) (hd:(x==("__debug__":Str))=aF) (hl:(apos.endLine==pos.line)=aB) :
  QE X T E (.Call (.Attribute (.Name x p1) "index" apos) [a] [] pos) (λσ=>(mb σ).bind (yI ts)):=by
 obtain⟨tb,pb,rb⟩:=ha;obtain⟨d,o,its,n,hm,hk,hc,hn,hdt,hz,hv⟩:=hT;refine⟨_,dz aLg KG aLs ZC (ee (v:=.ref d) hg hm rfl hd) (mM pb oW (dY hs)) rfl (by rw[dY hs];rfl) hl (dY hs) rfl,λρ σ σ' h H Q R S w=>?_⟩;refine⟨.inr (.inl ⟨rfl,o,hk,hc,hn⟩),rb ρ σ σ' h H _ R S (W.bind w λρ2 y y' h2 H2 e2 R2 q2 w2=>?_)⟩;cases y with
 |str u=>
  cases q2;simp only[yI]at w2;cases hi:ts.idxOf? u with
  |none=>rw[hi]at w2;exact w2.elim|some i=>rw[hi]at w2;exact⟨d,ts,u,i,rfl,.inr ⟨o,its,n,hk,hc,hdt,hz,hv⟩,rfl,hi,W.here w2 R2 (.int _)⟩
 |_=>exact w2.elim
def nG(neg:Bool)(aE:List (Str×AV))(y:AV):M AV:=λh=>match y with
 |.str k=>match aE.lookup k with
  |some _=>.ok (.bl (!neg)) h
  |none=>.ok (.bl neg) h
 |_=>.bad
def Ib(neg:Bool):sH:=if neg then .NotIn else .In
theorem Yq(neg:Bool):cK X (dM (Ib neg)) (Ak X neg):=by
 cases neg with
 |true=>exact i7|false=>exact d7
theorem DW{neg:Bool}{x:Str}{aE:List (Str×AV)}{a:Addr}{us:List (Str×Value)}(hK:xS X.prog X.w X.K a us)(hs:(a==kF)=aF)(hv:∀k v,aE.lookup k=aA v->∃u v',iC us k=aA u/\RelV v' u/\∀ρ H,aT T ρ H v v')(hz:∀k,aE.lookup k=aD->iC us k=aD)
  {ρ:List Addr}{h:AH}{H:Hp}{y:AV} {y':V}{Q:VK} (R:bL T ρ h H) (r:aT T ρ H y y') (w:W T (aT T) (nG neg aE y h) ρ H Q E):Ak X neg y' (.ref a) H Q:=by
 cases y with
 |str k=>
  cases r;simp only[nG]at w;cases l:aE.lookup k with
  |none=>rw[l]at w;refine⟨a,us,k,rfl,rfl,hK,hs,?_⟩;rw[hz k l];cases neg<;>exact W.here w R (.bl _)
  |some v=>rw[l]at w;obtain⟨u,v',h1,h2,h3⟩:=hv k v l;refine⟨a,us,k,rfl,rfl,hK,hs,?_⟩;rw[h1];cases neg<;>exact W.here w R (.bl _)
 |_=>exact w.elim
theorem Zn{neg:Bool}{x:Str}{aE:List (Str×AV)}{p1:Pos} (hg:Gl X x) (hT:vn X T x aE) (ha:QE X T E a mb) (hd:(x==("__debug__":Str))=aF) :
  QE X T E (.Compare a [Ib neg] [.Name x p1] pos) (λσ=>(mb σ).bind (nG neg aE)):=by
 obtain⟨tb,pb,rb⟩:=ha;obtain⟨d,us,hm,hK,hs,hz,hv⟩:=hT;refine⟨_,Za (Yq neg) pb (ee (v:=.ref d) hg hm rfl hd) (by cases neg<;>rfl),λρ σ σ' h H Q R S w=>?_⟩;exact rb ρ σ σ' h H _ R S (W.bind w λρ2 y y' h2 H2 e2 R2 q2 w2=>DW (x:=x) hK hs hv hz R2 q2 w2)
theorem AS{neg:Bool}{x:Str}{aE:List (Str×AV)}{p1:Pos} (hg:Gl X x) (hT:vn X T x aE) (ha:QE X T E a mb) (hd:(x==("__debug__":Str))=aF) :
  QT X T E (.Compare a [Ib neg] [.Name x p1] pos) (λσ=>((mb σ).bind (nG neg aE)).bind cm):=by
 obtain⟨tb,pb,rb⟩:=ha;obtain⟨d,us,hm,hK,hs,hz,hv⟩:=hT;refine⟨_,Zj (Yq neg) pb (ee (v:=.ref d) hg hm rfl hd) (by cases neg<;>rfl),λρ σ σ' h H Q R S w=>?_⟩;have w':W T (aT T) ((mb σ).bind (nG neg aE) h) ρ H (λx H'=>∃k,x = .bl k/\Q k H') E:=W.bind w λρ1 z z' h1 H1 e1 R1 q1 w1=>Rb R1 q1 w1;exact rb ρ σ σ' h H _ R S (W.bind w' λρ2 y y' h2 H2 e2 R2 q2 w2=>DW (x:=x) hK hs hv hz R2 q2 w2)
def Bk(m:Str):Option Tk:=if m="startswith" then aA .sw else if m="endswith" then aA .ew else if m="strip" then aA .st else if m="split" then aA .sp else if m="partition" then aA .pa else
 aD
theorem aDw{m:Str}{k:Tk}(h:Bk m=aA k):m=k.nm:=by
 unfold Bk at h;repeat' (split at h;· rename_i e;cases h;exact e)
 cases h
def yG(z:Str)(x:AV):M AV:=λh=>match x with
 |.ref n=>match h.ob n with
  |some (.lst _ xs)=>match wH xs with
   |some ts=>if si z ts=aB then .ok (.str (Ec z ts)) h else .bad
   |none=>.bad
  |_=>.bad
 |_=>.bad
theorem G7{z:Str}{k:Nat}{p0:Pos}(hK:X.K=T.K)(ha:QE X T E a mb)(hs:bP a=aB)(hl:(apos.endLine==pos.line)=aB) :
  QE X T E (.Call (.Attribute (.Constant (.str z) k p0) "join" apos) [a] [] pos) (λσ=>(mb σ).bind (yG z)):=by
 obtain⟨tb,pb,rb⟩:=ha;refine⟨_,dz KC PySem.F.slot_str_join PySem.F.type_str_join YV (yw (x:=z)) (mM pb oW (dY hs)) rfl (by rw[dY hs];rfl) hl (dY hs) rfl,λρ σ σ' h H Q R S w=>?_⟩;refine⟨rfl,rb ρ σ σ' h H _ R S (W.bind w λρ1 y y' h1 H1 e1 R1 q1 w1=>?_)⟩;cases y with
 |ref n=>
  cases q1 with
  |@ref _ p q=>
   simp only[yG]at w1;cases ob:h1.ob n with
   |none=>rw[ob]at w1;exact w1.elim|some u=>
    rw[ob]at w1;cases u with
    |lst mu xs=>
     obtain⟨ys,g1,r1⟩:=mK R1 ob q;cases l:wH xs with
     |none=>simp only[l]at w1;exact w1.elim|some ts=>
      simp only[l]at w1;have e:=CV l;subst e;have e2:=bB.strs r1;subst e2;by_cases hj:si z ts=aB
      .rw[if_pos hj]at w1;exact⟨z,p,ts,rfl,rfl,by rw[hK];exact g1,hj,W.here w1 R1 (.str _)⟩
      .rw[if_neg hj]at w1;exact w1.elim
    |_=>exact w1.elim
 |_=>exact w1.elim
end
section
variable {X:Cx}{T:Tab}{E:XK}{o v:aJ}{ma mb:aH->M AV}{f:Str}{pos pos':Pos}{ρ:List Addr}{H:Hp}
variable {EE:L2.St->XK}
variable {e:aJ}{es:List aJ}{m:Str}{apos:Pos}{mr:aH->M (List AV)}{ta:TE}{t:TA}
def ji(sub:Bool)(i:Nat)(b:M AV)(σ:aH):M Out:=match σ[i]? with
 |some (aA (.int a))=>b.bind λy=>match y with
  |.int j=>M.ret (.nx (σ.set i (aA (.int (if sub=aB then a-j else a+j)))))
  |_=>M.bad
 |_=>M.bad
theorem AL{i:Nat}{x:Str}(sub:Bool)(hN:X.N.Nodup)(hi:X.N[i]?=aA x)(hx:oG X.env.scope x)(hf:X.fn x=aB\/X.env.scope.names.lookup x=aA .local)(hv:QE X T E v mb) :
  QS X T E (.AugAssign (.Name x pos') (if sub=aB then .Sub else .Add) v pos) (λσ=>ji sub i (mb σ) σ):=by
 obtain⟨tb,pb,rb⟩:=hv;have ip:vh X (if sub=aB then .Sub else .Add) (Ih λa j=>if sub=aB then a-j else a+j):=by
  cases sub
  .exact WD
  .exact WE
 refine⟨_,C3 hN hi hx pb ip hf,λρ σ σ' h H D R S w=>?_⟩;unfold ji at w;cases l:σ[i]? with
 |none=>simp only[l]at w;exact w.elim|some u=>
  cases u with
  |none=>simp only[l]at w;exact w.elim|some a=>
   obtain⟨y,g,r⟩:=S.2 i a l;cases a with
   |int a=>
    simp only[l]at w;cases r;refine⟨_,g,rb ρ σ σ' h H _ R S (W.bind w λρ1 z z' h1 H1 e1 R1 q1 w1=>?_)⟩;cases z with
    |int j=>cases q1;exact⟨a,j,rfl,rfl,W.here (Q:=iK D) (b:=gB.nx (σ'.set i (aA (.int (if sub=aB then a-j else a+j))))) w1 R1 ((S.ext e1).set (.int _) i)⟩
    |_=>exact w1.elim
   |_=>simp only[l]at w;exact w.elim
end
section
variable {X:Cx}{T:Tab}{E:XK}{o:aJ}{ma:aH->M AV}{pos apos:Pos}
def Gw:M AV:=λh=>.ok (.ref h.nx) (h.new (.bQ []))
theorem F9:QE X T E (.Dict [] [] pos) (λ_=>Gw):=by refine⟨_,x8,λρ σ σ' h H Q R S w p hp=>?_⟩;obtain⟨R1,e1⟩:=R.alloc (a:=p) (o:=.bQ []) (O:=.dK []) hp ⟨[],[],gY,rfl,.nil⟩;refine W.ok (a:=AV.ref h.nx) (b:=V.ref p) w e1 R1 (.ref ?_);rw[<- R.len];simp
def wo(g:AV->List AV->M AV)(a:M AV)(r:M (List AV)):M AV:=a.bind λx h=>if(fG h x).isSome=aB then(r.bind λxs=>g x xs) h else .bad
variable {e:aJ}{es:List aJ}{mr:aH->M (List AV)}
theorem F8{m:Str}{id:String}{r:V->List V->Hp->VK->Prop}{g:AV->List AV->M AV} (slot:Slot "dict" m id) (hty:uW (.builtin id)=pure (.type "method_descriptor")) (hm:vd X id r)
  (hg:∀ρ h H x x' xs dF Q,bL T ρ h H->aT T ρ H x x'->bB T ρ H xs dF->W T (aT T) (g x xs h) ρ H Q E->r x' dF H Q)
  (ho:QE X T E o ma) (ha:QA X T E (e::es) mr) (hb:mB o=aB) (hs:(e::es).all bP=aB) (hn:(e::es).length<29) (hl:(apos.endLine==pos.line)=aB) :
  QE X T E (.Call (.Attribute o m apos) (e::es) [] pos) (λσ=>wo g (ma σ) (mr σ)):=by
 obtain⟨ta,pa,ra⟩:=ho;obtain⟨tr,pr,rr⟩:=ha;have hs':=hs;rw[hG,aY]at hs;have US:=zK (env:=X.env) (pos:=pos) hs';refine⟨_,dz aLf slot hty hm pa pr (jk hb) ?_ hl (dY hs.1) (zK hs.2),λρ σ σ' h H Q R S w=>?_⟩
 .rw[<- aJu,US];simp only[keywordEach,backToKw,Dl,List.all_nil,sx,List.isEmpty_nil,if_true,Bool.not_false,Bool.true_and,decide_eq_true_eq];omega
 refine ra ρ σ σ' h H _ R S (W.bind w λρ1 x x' h1 H1 e1 R1 q1 w1=>?_);have w1':W T (aT T) (if(fG h1 x).isSome=aB then((mr σ).bind λxs=>g x xs) h1 else .bad) ρ1 H1 Q E:=w1;by_cases hd:(fG h1 x).isSome=aB
 case neg=>rw[if_neg hd]at w1';exact w1'.elim
 rw[if_pos hd]at w1';obtain⟨aE,hd⟩:=Option.isSome_iff_exists.mp hd;obtain⟨n,a,us,rfl,q,ob,rfl,gd,rk⟩:=bz R1 q1 hd;refine⟨.inr (.inr (.inl ⟨rfl,.inl ⟨us,gd⟩⟩)),rr ρ1 σ σ' h1 H1 _ R1 (S.ext e1) (W.bind w1' λρ2 xs dF h2 H2 e2 R2 q2 w2=>?_)⟩;exact hg ρ2 h2 H2 _ _ xs dF Q R2 (.ref (e2.pre n a q)) q2 w2
def jr(x:AV)(xs:List AV):M AV:=λh=>match fG h x with
 |some aE=>match xs with
  |[y]=>match iY y with
   |some k=>.ok ((bT aE k).getD .aK) h
   |none=>
    if fV y=aB then .ok .aK h else
    .bad
  |[y,z]=>match iY y with
   |some k=>.ok ((bT aE k).getD z) h
   |none=>.bad
  |_=>.bad
 |none=>.bad
theorem QX(ρ:List Addr)(h:AH)(H:Hp)(x:AV)(x':V)(xs:List AV)(dF:List V)(Q:VK)(R:bL T ρ h H)(rx:aT T ρ H x x')(rs:bB T ρ H xs dF)(w:W T (aT T) (jr x xs h) ρ H Q E):AY x' dF H Q:=by
 unfold jr at w;cases d:fG h x with
 |none=>simp only[d]at w;exact w.elim|some aE=>
  simp only[d]at w;obtain⟨n,a,us,rfl,q,ob,rfl,gd,rk⟩:=bz R rx d;cases rs with
  |nil=>exact w.elim|@cons y y' ys ys' ry rs=>
   have fin:∀{k:aU}{z:AV} {z':V},aT T ρ H z z'->aT T ρ H ((bT aE k).getD z) ((jD us k).getD z'):=λ{k z z'} rz=>by
    obtain⟨g1,g2⟩:=Ku (k:=k) rk;cases l:bT aE k with
    |none=>rw[g2 l];exact rz|some v=>obtain⟨y1,e1,r1⟩:=g1 v l;rw[e1];exact r1
   cases rs with
   |nil=>
    dsimp only at w;cases k:iY y with
    |none=>
     simp only[k]at w;by_cases hn:fV y=aB
     .rw[if_pos hn]at w;have ey:y = .aK:=by cases y<;>first|rfl|cases hn
      subst ey;cases ry;exact .inr ⟨a,_,rfl,gd,rfl,W.here w R .aK⟩
     rw[if_neg hn]at w;exact w.elim
    |some k'=>simp only[k]at w;have ek:=cy ry k;subst ek;refine .inl ?_;exact⟨a,_,_,rfl,kI.k gd,.inl ⟨rfl,W.here w R (fin .aK)⟩⟩
   |@cons z z' zs zs' rz rs=>
    cases rs with
    |nil=>
     dsimp only at w;cases k:iY y with
     |none=>simp only[k]at w;exact w.elim|some k'=>simp only[k]at w;have ek:=cy ry k;subst ek;refine .inl ?_;exact⟨a,_,_,rfl,kI.k gd,.inr ⟨z',rfl,W.here w R (fin rz)⟩⟩
    |cons _ _=>exact w.elim
inductive Dm where
 |get
def Dm.g:Dm->AV->List AV->M AV
 |.get=>jr
def wu(m:Str):Option Dm:=if m="get" then aA .get else
 aD
theorem Zl{m:Str}{f:Dm}(hf:wu m=aA f)(hu:X.A.units+1<cLine)(ho:QE X T E o ma)(ha:QA X T E (e::es) mr)(hb:mB o=aB)(hs:(e::es).all bP=aB)(hn:(e::es).length<29)(hl:(apos.endLine==pos.line)=aB) :
  QE X T E (.Call (.Attribute o m apos) (e::es) [] pos) (λσ=>wo f.g (ma σ) (mr σ)):=by
 unfold wu at hf;split at hf
 case isTrue h=>cases hf;subst h;exact F8 ia PySem.F.type_dict_get (YT hu) QX ho ha hb hs hn hl
 cases hf
end
inductive Op where
 |add|sub|mul|fdiv|mod|pow|shl|shr|band|bor|bxor|ix
def Op.g:Op->AV->AV->M AV
 |.add=>lM | .sub=>xm | .mul=>cq | .fdiv=>Um | .mod=>Us | .pow=>Uu | .shl=>Uv | .shr=>Uw | .band=>Ul | .bor=>Ut | .bxor=>Ux | .ix=>tJ
inductive Cp where
 |eq|ne|lt|le|gt|ge|nI|isn|oU|nin
def Cp.g:Cp->AV->AV->M AV
 |.eq=>js | .ne=>tK | .lt=>Ur | .le=>Uq | .gt=>Up | .ge=>Uo | .nI=>Hg | .isn=>Hh | .oU=>jM aF | .nin=>jM aB
inductive Bi where
 |len|int|min|max|divmod|tuple|list
 |str
def Bi.g:Bi->List AV->M AV
 |.len=>yH | .int=>ju | .min=>UH | .max=>UG | .divmod=>UD | .tuple=>xn | .list=>UE
 |.str=>cu
inductive CT where
 |bad
 |nm (i:Nat)
 |tup (is:List Nat)
def jh:List Nat->List AV->aH->M aH
 |[]=>Ho
 |i::is=>Hn (λv σ=>M.ret (σ.set i (aA v))) (jh is)
def pN:CT->AV->aH->M aH
 |.bad,_,_=>M.bad
 |.nm i,v,σ=>M.ret (σ.set i (aA v))
 |.tup is,v,σ=>tL is.length (jh is) v σ
mutual
inductive Ex where
 |oM (imp:List (Option Nat)) (t:CT) (it:Ir) (e:Ex)
 |mD (imp:List (Option Nat)) (t:CT) (it:Ir) (c e:Ex)
 |bad|no
 |var (i:Nat)
 |val (v:AV)
 |op (o:Op) (a b:Ex)
 |cmp (o:Cp) (a b:Ex)
 |chain (o o':Cp) (a b c:Ex)
 |Ro (o o' o'':Cp) (a b c d:Ex)
 |neg (a:Ex)
 |not (a:Ex)
 |and (a b:Ex)
 |or (a b:Ex)
 |ite (c a b:Ex)
 |tup (es:gO)
 |lst (es:gO)
 |slice (a lo hi:Ex)
 |call (f:Nat) (es:gO)
 |bi (f:Bi) (es:gO)
 |fE (t:BT) (a:Ex)
 |ft (aE:List (Str×AV)) (a:Ex)
 |join (z:Str) (a:Ex)
 |tm (k:Tk) (o a:Ex)
 |fq (ts:List Str) (a:Ex)
 |wK (neg:Bool) (aE:List (Str×AV)) (a:Ex)
 |kc (k:Kc) (a:Ex)
 |eL (cs:List (Nat×Bool)) (a:Ex)
 |wV (cs:List Nat) (o:Ex)
 |xZ
 |dm (f:Dm) (o:Ex) (es:gO)
 |app (o a:Ex)
 |yR (o a:Ex)
inductive gO where
 |nil
 |cons (e:Ex) (es:gO)
inductive Ir where
 |bad
 |seq (e:Ex)
 |wD (es:gO)
 |enum (e:Ex)
 |zip (es:gO)
end
abbrev Run:=Nat->List AV->M AV
def nM(e:Ex)(m:M AV):M (Option Int):=match e with
 |.no=>M.ret aD
 |_=>m.bind jw
mutual
noncomputable def aN(F:Run):Ex->aH->M AV
 |.bad,_=>M.bad
 |.no,_=>M.bad
 |.var i,σ=>yK i σ
 |.val v,_=>M.ret v
 |.op o a b,σ=>tT o.g (aN F a σ) (aN F b σ)
 |.cmp o a b,σ=>tT o.g (aN F a σ) (aN F b σ)
 |.chain o o' a b c,σ=>Rt o.g o'.g (aN F a σ) (aN F b σ) (aN F c σ)
 |.Ro o o' o'' a b c d,σ=>Rr o.g o'.g o''.g (aN F a σ) (aN F b σ) (aN F c σ) (aN F d σ)
 |.neg a,σ=>(aN F a σ).bind jv
 |.not a,σ=>(aN F a σ).bind λx=>(cV x).bind λb=>M.ret (.bl (!b))
 |.and a b,σ=>Qt (aN F a σ) (aN F b σ)
 |.or a b,σ=>Ys (aN F a σ) (aN F b σ)
 |.ite c a b,σ=>yb (dQ F c σ) (aN F a σ) (aN F b σ)
 |.tup es,σ=>Ls (fA F es σ)
 |.lst es,σ=>vQ (fA F es σ)
 |.slice a lo hi,σ=>(aN F a σ).bind λx=>(nM lo (aN F lo σ)).bind λl=>(nM hi (aN F hi σ)).bind λu=>lO x l u
 |.call f es,σ=>(fA F es σ).bind (F f)
 |.bi f es,σ=>(fA F es σ).bind f.g
 |.fE t a,σ=>(aN F a σ).bind (yE t)
 |.ft aE a,σ=>(aN F a σ).bind (yJ aE)
 |.join z a,σ=>(aN F a σ).bind (yG z)
 |.tm k o a,σ=>Bm k (aN F o σ) (aN F a σ)
 |.fq ts a,σ=>(aN F a σ).bind (yI ts)
 |.wK neg aE a,σ=>(aN F a σ).bind (nG neg aE)
 |.kc k a,σ=>(aN F a σ).bind k.g
 |.eL cs a,σ=>(aN F a σ).bind (tH cs)
 |.wV cs o,σ=>(aN F o σ).bind (vN cs)
 |.xZ,_=>Gw
 |.dm f o es,σ=>wo f.g (aN F o σ) (fA F es σ)
 |.app o a,σ=>Fo (aN F o σ) (aN F a σ)
 |.yR o a,σ=>Iz (aN F o σ) (aN F a σ)
 |.oM imp t it e,σ=>xW (cO F it σ) (pN t) (λ_=>M.ret aB) (aN F e) imp σ
 |.mD imp t it c e,σ=>xW (cO F it σ) (pN t) (dQ F c) (aN F e) imp σ
noncomputable def dQ(F:Run):Ex->aH->M Bool
 |.bad,_=>M.bad
 |.no,_=>M.bad
 |.ite _ _ _,_=>M.bad
 |.var i,σ=>(yK i σ).bind cV
 |.val v,_=>cV v
 |.op o a b,σ=>(tT o.g (aN F a σ) (aN F b σ)).bind cV
 |.cmp o a b,σ=>(tT o.g (aN F a σ) (aN F b σ)).bind cm
 |.chain o o' a b c,σ=>(Rt o.g o'.g (aN F a σ) (aN F b σ) (aN F c σ)).bind cm
 |.Ro o o' o'' a b c d,σ=>(Rr o.g o'.g o''.g (aN F a σ) (aN F b σ) (aN F c σ) (aN F d σ)).bind cm
 |.neg a,_=>M.bad
 |.not a,σ=>(dQ F a σ).bind λb=>M.ret (!b)
 |.and a b,σ=>Qs (dQ F a σ) (dQ F b σ)
 |.or a b,σ=>Yr (dQ F a σ) (dQ F b σ)
 |.tup es,σ=>(Ls (fA F es σ)).bind cV
 |.lst es,σ=>(vQ (fA F es σ)).bind cV
 |.slice a lo hi,σ=>((aN F a σ).bind λx=>(nM lo (aN F lo σ)).bind λl=>(nM hi (aN F hi σ)).bind λu=>lO x l u).bind cV
 |.call f es,σ=>((fA F es σ).bind (F f)).bind cV
 |.bi f es,σ=>((fA F es σ).bind f.g).bind cV
 |.fE t a,σ=>((aN F a σ).bind (yE t)).bind cV
 |.ft aE a,σ=>((aN F a σ).bind (yJ aE)).bind cV
 |.join z a,σ=>((aN F a σ).bind (yG z)).bind cV
 |.tm k o a,σ=>(Bm k (aN F o σ) (aN F a σ)).bind cV
 |.fq ts a,σ=>((aN F a σ).bind (yI ts)).bind cV
 |.wK neg aE a,σ=>((aN F a σ).bind (nG neg aE)).bind cm
 |.kc k a,σ=>((aN F a σ).bind k.g).bind cV
 |.eL cs a,σ=>((aN F a σ).bind (tH cs)).bind cV
 |.wV cs o,σ=>((aN F o σ).bind (vN cs)).bind cV
 |.xZ,_=>Gw.bind cV
 |.dm f o es,σ=>(wo f.g (aN F o σ) (fA F es σ)).bind cV
 |.app o a,σ=>(Fo (aN F o σ) (aN F a σ)).bind cV
 |.yR o a,σ=>(Iz (aN F o σ) (aN F a σ)).bind cV
 |.oM imp t it e,σ=>(xW (cO F it σ) (pN t) (λ_=>M.ret aB) (aN F e) imp σ).bind cV
 |.mD imp t it c e,σ=>(xW (cO F it σ) (pN t) (dQ F c) (aN F e) imp σ).bind cV
noncomputable def fA(F:Run):gO->aH->M (List AV)
 |.nil,_=>M.ret []
 |.cons e es,σ=>Sh (aN F e σ) (fA F es σ)
noncomputable def cO(F:Run):Ir->aH->M fR
 |.bad,_=>M.bad
 |.seq e,σ=>(aN F e σ).bind tI
 |.wD es,σ=>(fA F es σ).bind xl
 |.enum e,σ=>(aN F e σ).bind xj
 |.zip es,σ=>(fA F es σ).bind xp
end
structure Cn where
 N:List Str
 sc:eU
 fns:List Str
 jy:List (Str×AV)
 gP:List Str
 mU:List (Str×Nat)
 cat:List (Str×List (Nat×Bool))
 eL:List (Str×List (Nat×Bool))
 top:Bool:=aB
 gX:List (Str×List (Str×AV)):=[]
 lS:List (Str×List Str):=[]
 jF:List (Str×Nat):=[]
def Cn.gl(C:Cn)(x:Str):Bool:=decide (C.sc.names.lookup x=aA .globalImplicit)
def jY(x:Str):Bool:=!(x==("__debug__":Str)) && !(x==("__classdict__":Str)) && !(x==("__name__":Str))
def Cn.loc(C:Cn)(x:Str):Bool:=decide (C.sc.names.lookup x=aA .local)||decide (C.sc.names.lookup x=aA .cell)
def Cn.name(C:Cn)(x:Str):Ex:=if jY x then
  if C.loc x then match C.N.idxOf? x with
   |some i=>.var i
   |none=>.bad
  else if C.gl x then match C.jy.lookup x with
   |some v=>.val v
   |none=>.bad
  else .bad
 else .bad
def Gr:Const->Ex
 |.none=>.val .aK
 |.bool b=>.val (.bl b)
 |.int i=>.val (.int i)
 |.str x=>.val (.str x)
 |_=>.bad
def Qw:uO->Option Op
 |.Add=>aA .add | .Sub=>aA .sub | .Mult=>aA .mul | .FloorDiv=>aA .fdiv | .Mod=>aA .mod | .Pow=>aA .pow
 |.LShift=>aA .shl | .RShift=>aA .shr | .BitAnd=>aA .band | .BitOr=>aA .bor | .BitXor=>aA .bxor
 |_=>aD
def Si:sH->Cp
 |.Eq=>.eq | .NotEq=>.ne | .Lt=>.lt | .LtE=>.le | .Gt=>.gt | .GtE=>.ge | .Is=>.nI | .IsNot=>.isn | .In=>.oU | .NotIn=>.nin
def Gb(op:uO)(a b:Ex):Ex:=match Qw op with
 |some o=>.op o a b
 |none=>.bad
def vG(k:Ex->Ex->Ex):List Ex->Ex
 |[]=>.bad
 |[a]=>a
 |a::r=>k a (vG k r)
def rF:List Ex->gO
 |[]=>.nil
 |e::es=>.cons e (rF es)
def Rc(x:Str):Option BT:=
 if x="int" then aA .int else if x="bool" then aA .bl else if x="str" then aA .str else if x="tuple" then aA .tup else if x="list" then aA .lst else if x="dict" then aA .bQ else aD
def Qv(x:Str):Option Bi:=
 if x="len" then aA .len else if x="int" then aA .int else
 if x="tuple" then aA .tuple else
  if x="str" then aA .str else
  aD
def Cn.bl(C:Cn)(x:Str):Bool:=C.gl x&&C.gP.contains x&&jY x
def yS:aJ->Option Str
 |.Name x _=>aA x
 |_=>aD
def Cn.vy(C:Cn)(x:Str)(es:List aJ)(cs:List Ex):Ex:=if jY x&&es.all bP then match C.fns.idxOf? x with
  |some i=>if C.gl x then .call i (rF cs) else .bad
  |none=>match Qv x with
   |some f=>if C.bl x && !es.isEmpty then .bi f (rF cs) else .bad
   |none=>if decide (x="isinstance")&&C.bl x then match es,cs with
     |[_,t],[a,_]=>match (yS t).bind λy=>if C.bl y then Rc y else aD with
      |some bt=>.fE bt a
      |none=>match (yS t).bind λy=>if jY y&&C.gl y then C.eL.lookup y else aD with
       |some cs=>.eL cs a
       |none=>.bad
     |_,_=>.bad
    else .bad
 else .bad
def EF:Nat:=40
def Cn.slot(C:Cn)(x:Str):Option Nat:=if C.loc x then C.N.idxOf? x else aD
def cI(C:Cn)(f:aJ->Ex)(tg:aJ)(e:aJ):Ir:=match e with
 |.Call (.Name x _) es [] _=>
  if decide (x="range")&&C.bl x then match es with
   |[a]=>if bP a then .wD (rF ([a].map f)) else .bad
   |_=>.bad
  else if decide (x="enumerate")&&C.bl x then match es,tg with
   |[a],.Tuple _ _ _=>if bP a then .enum (f a) else .bad
   |_,_=>.bad
  else if decide (x="zip")&&C.bl x then match es,tg with
   |[a,b],.Tuple _ _ _=>if bP a&&bP b then .zip (rF ([a,b].map f)) else .bad
   |_,_=>.bad
  else .seq (f e)
 |e=>if bP e then .seq (f e) else .bad
def tB(scope:eU):List Str:=(scope.names.filter λx=>(x.2==NameKind.local&&x.1 != (".0":Str))||x.2==hZ).map (·.1)
def Kr(scope sc:eU):eU:=
 { scope with names:=scope.names.map λ(n,k)=>if(k == .free&&sc.kind == .function&&sc.names.lookup n==aA .cell) then(n,.cell) else(n,k) }
def Cn.comp(C:Cn)(scope:eU):Cn:={ C with N:=tB scope,sc:=Kr scope C.sc,top:=aF }
def Cn.imp(C:Cn)(scope:eU):List (Option Nat):=(tB scope).map λx=>if decide (scope.names.lookup x=aA .free) then C.N.idxOf? x else aD
def Cn.rD(C:Cn)(scope:eU):Bool:=decide (scope.kind = .function)&&scope.names.all (λy=>decide (y.2 ≠ .cell))&&scope.names.all (λy=>decide (y.2 = .local->scope.names.lookup y.1=aA .local)) &&
 scope.names.all (λy=>decide (y.2 = .free->C.sc.names.lookup y.1=aA .cell))&&decide (tB scope).Nodup&&C.top
def wc(C:Cn):List aJ->Option (List Nat)
 |[]=>aA []
 |.Name x _::r=>if decide (C.sc.names.lookup x=aA .local) then match C.N.idxOf? x,wc C r with
   |some i,aA l=>aA (i::l)
   |_,_=>aD
  else aD
 |_=>aD
def br(C:Cn)(e:aJ):CT:=match e with
 |.Name x _=>if decide (C.sc.names.lookup x=aA .local) then match C.N.idxOf? x with
   |some i=>.nm i
   |none=>.bad
  else .bad
 |.Tuple es _ _=>match wc C es with
  |some l=>.tup l
  |none=>.bad
 |_=>.bad
def Cn.kR(C:Cn)(a:aJ)(ea eb:Ex):Ex:=match (yS a).bind λx=>if jY x&&C.gl x then C.gX.lookup x else aD with
 |some aE=>.ft aE eb
 |none=>.op .ix ea eb
def CQ:aJ->Option Str
 |.Constant (.str z) _ _=>aA z
 |_=>aD
def yk(o:aJ)(m:Str)(eo:Ex):Ex:=
 .bad
def ym(o:aJ)(m:Str)(eo ea:Ex):Ex:=
 if decide (m="append")&&mB o then .app eo ea else
 if decide (m="index")&&mB o then .yR eo ea else
 if decide (m="join") then(match CQ o with
  |some z=>.join z ea
  |none=>.bad) else
 if mB o&&(Bk m).isSome then(match Bk m with
  |some f=>.tm f eo ea
  |none=>.bad) else
 if mB o then(match wu m with
  |some f=>.dm f eo (.cons ea .nil)
  |none=>.bad) else
 .bad
def yn(o:aJ)(m:Str)(eo ea eb:Ex):Ex:=
 if mB o then(match wu m with
  |some f=>.dm f eo (.cons ea (.cons eb .nil))
  |none=>.bad) else
 .bad
def Fw(o:aJ)(m:Str)(eo:Ex):List Ex->Ex
 |[]=>yk o m eo
 |[a]=>ym o m eo a
 |[a,b]=>yn o m eo a b
 |_=>.bad
def Cn.DO(C:Cn)(o:aJ)(m:Str)(es:List aJ):Option (List Str):=if decide (m="index")&&(es.length==1) then(yS o).bind λx=>if jY x&&C.gl x then C.lS.lookup x else aD else aD
def DP(ts:List Str):List Ex->Ex
 |[a]=>.fq ts a
 |_=>.bad
def Cn.DV(C:Cn)(os:List sH)(bs:List aJ):Option (Bool×List (Str×AV)):=match os,bs with
 |[.In],[.Name x _]=>if jY x&&C.gl x then(C.gX.lookup x).map λk=>(aF,k) else aD
 |[.NotIn],[.Name x _]=>if jY x&&C.gl x then(C.gX.lookup x).map λk=>(aB,k) else aD
 |_,_=>aD
def Cn.yj(C:Cn)(o:aJ)(m:Str)(apos pos:Pos)(es:List aJ)(eo:Ex)(cs:List Ex):Ex:=
 if es.all bP&&(apos.endLine==pos.line) then
  match C.DO o m es with
  |some ts=>DP ts cs
  |none=>
  Fw o m eo cs
 else .bad
def Gm(op:UnaryOp)(a:Ex):Ex:=match op with
 |.USub=>.neg a
 |.Not=>.not a
 |_=>.bad
def Gf(f:aJ->Ex)(a:aJ)(os:List sH)(bs:List aJ):Ex:=match os,bs with
 |[o],[b]=>if bP b then .cmp (Si o) (f a) (f b) else .bad
 |_,_=>.bad
def Gd(op:BoolOp)(vs:List Ex):Ex:=match op with
 |.And=>vG .and vs
 |.Or=>vG .or vs
def Gj(C:Cn)(f:aJ->Ex)(a s:aJ):Ex:=match s with
 |.Slice lo hi aD _=>.slice (f a) (lo.elim .no f) (hi.elim .no f)
 |b=>if bP b then C.kR a (f a) (f b) else .bad
def Ge(C:Cn)(f:aJ->Ex)(g:aJ)(es:List aJ)(ks:List wZ)(pos:Pos):Ex:=match ks with
 |[]=>match g with
  |.Name x _=>C.vy x es (es.map f)
  |.Attribute o m apos=>C.yj o m apos pos es (f o) (es.map f)
  |_=>.bad
 |_=>.bad
def Gi(C:Cn)(r:Cn->aJ->Ex)(elt:aJ)(gs:List Comprehension)(scope:eU):Ex:=match gs with
 |[⟨t,it,cs,0⟩]=>if C.rD scope&&bP it then match cs with
   |[]=>.oM (C.imp scope) (br (C.comp scope) t) (cI C (r C) t it) (r (C.comp scope) elt)
   |[c]=>.mD (C.imp scope) (br (C.comp scope) t) (cI C (r C) t it) (r (C.comp scope) c) (r (C.comp scope) elt)
   |_=>.bad
  else .bad
 |_=>.bad
def Fz(C:Cn)(o:aJ)(f:Str)(eo:Ex):Ex:=if mB o then
  if decide (f="line") && !C.jF.isEmpty then .wV (C.jF.map (·.2)) eo else
  .bad
 else .bad
def Gg(f:aJ->Ex)(ks:List (Option aJ))(vs:List aJ):Ex:=match ks,vs with
 |[],[]=>.xZ
 |_,_=>.bad
def Vr(x:Str)(ks:List wZ):Option Kc:=match ks with
 |[]=>if x="any" then aA .any else
  if x="all" then aA .all else
  aD
 |_=>aD
def jl(C:Cn)(f:aJ->Ex)(g:aJ)(es:List aJ)(ks:List wZ):Option Ex:=match g,es with
 |.Name x _,[a]=>match Vr x ks with
  |some k=>if C.bl x&&bP a then aA (.kc k (f a)) else aD
  |none=>aD
 |_,_=>aD
def cE:Cn->Nat->aJ->Ex
 |_,0,_=>.bad
 |C,n+1,e=>match e with
  |.Name x _=>C.name x
  |.Constant c _ _=>Gr c
  |.BinOp a op b _=>Gb op (cE C n a) (cE C n b)
  |.UnaryOp op a _=>Gm op (cE C n a)
  |.Compare a os bs _=>(match C.DV os bs with
   |some (neg,aE)=>.wK neg aE (cE C n a)
   |none=>Gf (cE C n) a os bs)
  |.BoolOp op vs _=>Gd op (vs.map (cE C n))
  |.IfExp c a b _=>.ite (cE C n c) (cE C n a) (cE C n b)
  |.Tuple es _ _=>if es.all bP then .tup (rF (es.map (cE C n))) else .bad
  |.List es _=>if es.all bP then .lst (rF (es.map (cE C n))) else .bad
  |.Subscript a s _=>Gj C (cE C n) a s
  |.Call g es ks pos=>match jl C (cE C n) g es ks with
   |some y=>y
   |none=>Ge C (cE C n) g es ks pos
  |.Dict ks vs _=>Gg (cE C n) ks vs
  |.Attribute o f _=>Fz C o f (cE C n o)
  |.ListComp elt gs scope _=>Gi C (λC' e'=>cE C' n e') elt gs scope
  |_=>.bad
def Qp(X:Cx)(T:Tab)(x:Str)(c:Nat):Prop:=∃(D f:Addr) (bmB:List Value) (newId mG Bn:String) (k:Nat) (fd:eW) (ps:List Str),X.mg x=aA (.ref D)/\T.C c=aA D/\c<64/\wU X.K D f bmB newId=aB/\zW Bn newId mG bmB/\W.lA X.K D "line"=aB /\
 iN X.prog X.w X.K X.mg X.base (dU X.prog X.w) k f fd ps (Kz X.K "line")/\fL (k+1) X.A/\Binds X.K fd ps []
structure Lk(X:Cx)(T:Tab)(E:XK)(C:Cn)(F:Run):Prop where
 K:X.K=T.K
 N:X.N=C.N
 sc:X.env.scope=C.sc
 nd:C.N.Nodup
 fn:C.top=aB->∀x,X.fn x=aB
 calm:X.calm=aB
 po:C.top=aB->Ot (aS X.prog X.w) X.A X.env X.xe
 gv:∀x v,C.jy.lookup x=aA v->∃u v',X.mg x=aA u/\RelV v' u/\∀ρ H,aT T ρ H v v'
 fns:∀(i:Nat) x,C.fns[i]?=aA x->Fn X T E x (F i)
 gP:∀x,C.gP.contains x=aB->X.mg x=aD
 tab:∀aE a,T.G aE a->Qk X.prog X.w X.K a aE
 gX:∀x aE,C.gX.lookup x=aA aE->vn X T x aE
 lS:∀x ts,C.lS.lookup x=aA ts->Qn X x ts
 un:X.A.units+64<cLine
 mU:∀x c,C.mU.lookup x=aA c->∃(D:Addr) (bmB:List Value) (newId mG Bn:String),X.mg x=aA (.ref D)/\T.C c=aA D/\c<64/\KN X.K D bmB newId=aB/\zW Bn newId mG bmB
 cat:∀x cs,C.cat.lookup x=aA cs->∃D:Addr,X.mg x=aA (.ref D)/\L2.clsIn X.K D=aB/\∀c b,cs.lookup c=aA b->∃D':Addr,T.C c=aA D'/\L2.clsIn X.K D'=aB/\(mroOf X.K D').contains (.ref D)=b
 eL:∀y cs,C.eL.lookup y=aA cs->∃(v:V) (d:Value),(∀u,RelV v u->u=d)/\RelV v d/\(X.mg y=aA d\/(X.mg y=aD/\pK y=aA d)) /\
  ∀k b,cs.lookup k=aA b->∃D:Addr,T.C k=aA D/\W.uH X.K D=aB/\eO X.K (.ref D) d=aA b
 ra:C.top=aB->Qm X E
 jF:∀x c,(x,c)∈C.jF->∃D:Addr,X.mg x=aA (.ref D)/\T.C c=aA D/\W.lA X.K D "line"=aB
 gf:C.top=aB->X.ex=[]/\vk X E/\∀x c,(x,c)∈C.jF->Qp X T x c
 rt:C.top=aB->uZ X E
 gQ:C.top=aB->X.stack=X.env::X.outer
 fr:C.top=aB->X.env.frame=aA X.env.locals
theorem Lk.kW{X:Cx}{T:Tab}{E:XK}{C:Cn}{F:Run}(L:Lk X T E C F)(pn:List (Addr×Obj))(E1:Value->aG->Prop):Lk (X.kW pn E1).dk T E0 C F:=
 ⟨L.K,L.N,L.sc,L.nd,L.fn,L.calm,λ_=>PassesOwn.never,L.gv,λi x h=>let ⟨k,f,fd,ps,F,hr,hm,hk,hb,_⟩:=(L.fns i x h).ex;⟨⟨k,f,fd,ps,F,hr,hm,hk,hb,λ_ _ _ _ _ _ _ z=>(wg z).elim⟩⟩,L.gP,L.tab,
 L.gX,
 L.lS,
 L.un,
 L.mU,L.cat,L.eL,λ_ _ _ _ _ _ _ _ _ _ _ z=>z.elim,
 L.jF,λh=>⟨(L.gf h).1,λ_ _ _ _ _ _ _ _ _ _ _ _ _ _ _ _ _ z=>z.elim,(L.gf h).2.2⟩,
 λ_=>Z0,L.gQ,L.fr⟩
section
variable {X:Cx}{T:Tab}{E:XK}{C:Cn}{F:Run}(L:Lk X T E C F)
theorem jO{x:Str}(h:jY x=aB):(x==("__debug__":Str))=aF/\(x==("__classdict__":Str))=aF/\x≠"__name__":=by simp only[jY,aY,qG,beq_eq_false_iff_ne]at h;exact⟨beq_eq_false_iff_ne.mpr h.1.1,beq_eq_false_iff_ne.mpr h.1.2,h.2⟩
theorem mF{x:Str}{l:List Str}{i:Nat}(h:l.idxOf? x=aA i):l[i]?=aA x:=by unfold List.idxOf? at h;obtain⟨h1,h2,_⟩:=List.findIdx?_eq_some_iff_getElem.mp h;rw[cZ h1];exact congrArg aA (eq_of_beq h2)
include L in
theorem Lk.gl{x:Str}(h:C.gl x=aB):Gl X x:=by have h':C.sc.names.lookup x=aA .globalImplicit:=of_decide_eq_true h;rw[<- L.sc]at h';exact h'
def Q2(X:Cx)(T:Tab)(E:XK)(F:Run)(e:aJ)(x:Ex):Prop:=QE X T E e (aN F x)/\QT X T E e (dQ F x)
theorem dO{e:aJ}:Q2 X T E F e .bad:=⟨mm,Ki⟩
include L in
theorem aBi(x:Str)(pos:Pos):Q2 X T E F (.Name x pos) (C.name x):=by
 unfold Cn.name;split
 case isFalse=>exact dO
 case isTrue ok=>
  obtain⟨h1,h2,h3⟩:=jO ok;split
  case isTrue hl=>
   split
   case h_1 i hi=>
    have hv:xV X.env.scope x:=by
     rw[L.sc];simp only[Cn.loc,uK,decide_eq_true_eq]at hl;rcases hl with hl|hl
     .exact .inl hl
     .exact .inr (.inl hl)
    have q:QE X T E (.Name x pos) (yK i):=Zo (by rw[L.N];exact mF hi) hv h1 h2;exact⟨q,pZ L.K q rfl⟩
   case h_2=>exact dO
  case isFalse=>
   split
   case isFalse=>exact dO
   case isTrue hg=>
    split
    case h_1 v hv=>obtain⟨u,v',e1,r,rp⟩:=L.gv x v hv;have q:QE X T E (.Name x pos) (λ_=>M.ret v):=nO (ee (L.gl hg) e1 r h1) rp;exact⟨q,pZ L.K q rfl⟩
    case h_2=>exact dO
include L in
theorem aBd(c:Const)(k:Nat)(pos:Pos):Q2 X T E F (.Constant c k pos) (Gr c):=by
 cases c with
 |none=>exact⟨nO Js λ_ _=>.aK,pZ L.K (nO Js λ_ _=>.aK) rfl⟩|bool b=>exact⟨nO Jq λ_ _=>.bl b,pZ L.K (nO Jq λ_ _=>.bl b) rfl⟩|int i=>exact⟨nO Jr λ_ _=>.int i,pZ L.K (nO Jr λ_ _=>.int i) rfl⟩|str x=>exact⟨nO yw λ_ _=>.str x,pZ L.K (nO yw λ_ _=>.str x) rfl⟩|_=>exact dO
include L in
theorem l9{op:uO}{o:Op}(h:Qw op=aA o):eC X T E (eI op) o.g:=by
 cases op<;>cases h
 .exact l0 L.K
 .exact t8
 .exact p9
 .exact p8
 .exact t5
 .exact t6
 .exact t7
 .exact t4
 .exact t9
 .exact l6
 .exact m9
include L in
theorem Yu(op:sH):eC X T E (dM op) (Si op).g:=by
 cases op
 .exact m6 L.K (by have:=L.un;omega)
 .exact q9 L.K (by have:=L.un;omega)
 .exact p7
 .exact p6
 .exact n8
 .exact n6
 .exact o9
 .exact p5
 .exact n9 L.K (by have:=L.un;omega)
 .exact r6 L.K (by have:=L.un;omega)
theorem tF{es:List aJ}{f:aJ->Ex}(hs:es.all bP=aB)(h:∀e,Q2 X T E F e (f e)):QA X T E es (fA F (rF (es.map f))):=by
 induction es with
 |nil=>exact E8|cons e es ih=>rw[hG,aY]at hs;exact E7 (h e).1 (ih hs.2) hs.1
include L in
theorem Qu{pos:Pos}{f:aJ->Ex}(h:∀e,Q2 X T E F e (f e)):∀(e:aJ) (es:List aJ),QE X T E (.BoolOp .And (e::es) pos) (aN F (vG .and ((e::es).map f)))/\QW X T E (.BoolOp .And (e::es) pos) (dQ F (vG .and ((e::es).map f)))
 |e,[]=>⟨Zm (h e).1,V3 (h e).2⟩
 |e,b::rest=>by obtain⟨h1,h2⟩:=Qu h b rest;exact⟨F1 L.K (h e).1 h1,V2 (h e).2 h2⟩
include L in
theorem Yt{pos:Pos}{f:aJ->Ex}(h:∀e,Q2 X T E F e (f e)):∀(e:aJ) (es:List aJ),QE X T E (.BoolOp .Or (e::es) pos) (aN F (vG .or ((e::es).map f)))/\QW X T E (.BoolOp .Or (e::es) pos) (dQ F (vG .or ((e::es).map f)))
 |e,[]=>⟨Zm (h e).1,V5 (h e).2⟩
 |e,b::rest=>by obtain⟨h1,h2⟩:=Yt h b rest;exact⟨I9 L.K (h e).1 h1,V4 (h e).2 h2⟩
theorem Yw{o:Option aJ}{f:aJ->Ex}(h:∀e,Q2 X T E F e (f e))(hn:∀e,f e ≠ .no):QO X T E o (λσ=>nM (o.elim .no f) (aN F (o.elim .no f) σ)):=by
 cases o with
 |none=>exact T6|some e=>
  have q:QO X T E (aA e) (λσ=>(aN F (f e) σ).bind jw):=T7 (h e).1;have e1:∀m,nM (f e) m=m.bind jw:=λm=>by
   unfold nM;split
   .rename_i z;exact absurd z (hn e)
   .rfl
  simp only[Option.elim,e1];exact q
theorem Rh{k:Ex->Ex->Ex}(hk:∀a b,k a b ≠ .no):∀{l:List Ex},(∀x∈l,x ≠ .no)->vG k l ≠ .no
 |[],_=>by intro z;cases z
 |[a],h=>h a (by simp)
 |a::b::r,_=>hk _ _
theorem OT{f:aJ->Ex}{g:aJ}{es:List aJ}{ks:List wZ}{y:Ex}(h:jl C f g es ks=aA y):y ≠ .no:=by
 unfold jl at h;split at h
 .split at h
  .split at h
   .cases h;intro z;cases z
   .cases h
  .cases h
 .cases h
theorem Gh:∀(n:Nat) (e:aJ),cE C n e ≠ .no
 |0,e=>by intro z;cases z
 |n+1,e=>by
  have ih:=Gh n;unfold cE;split
  .unfold Cn.name;(repeat' split)<;>(intro z;cases z;done)
  .rename_i c _ _;cases c<;>(intro z;cases z;done)
  .unfold Gb;split<;>(intro z;cases z;done)
  .unfold Gm;split<;>(intro z;cases z;done)
  .split
   .intro z;cases z
   .unfold Gf;(repeat' split)<;>(intro z;cases z;done)
  .rename_i op vs _;have:∀x∈vs.map (cE C n),x ≠ .no:=λx hx=>by obtain⟨y,_,rfl⟩:=List.mem_map.mp hx;exact ih y
   unfold Gd;split
   .exact Rh (λ_ _ z=>by cases z) this
   .exact Rh (λ_ _ z=>by cases z) this
  .intro z;cases z
  .split<;>(intro z;cases z;done)
  .split<;>(intro z;cases z;done)
  .unfold Gj;unfold Cn.kR
   (repeat' split)<;>(intro z;cases z;done)
  .split
   .rename_i h;exact OT h
   unfold Ge;split
   .split
    .unfold Cn.vy;(repeat' split)<;>(intro z;cases z;done)
    .unfold Cn.yj DP Fw yk ym yn;(repeat' split)<;>(intro z;cases z;done)
    .intro z;cases z
   .intro z;cases z
  .unfold Gg;(repeat' split)<;>(intro z;cases z;done)
  .unfold Fz;(repeat' split)<;>(intro z;cases z;done)
  .unfold Gi;(repeat' split)<;>(intro z;cases z;done)
  .intro z;cases z
include L in
theorem aBg{f:aJ->Ex}(ih:∀e,Q2 X T E F e (f e)){g:aJ}{es:List aJ}{ks:List wZ}{pos:Pos}{y:Ex}(h:jl C f g es ks=aA y):Q2 X T E F (.Call g es ks pos) y:=by
 unfold jl at h;split at h
 case h_2=>cases h
 case h_1 x p a=>
  split at h
  case h_2=>cases h
  case h_1 k hk=>
   split at h
   case isFalse=>cases h
   case isTrue hb=>
    cases h;simp only[aY,Cn.bl]at hb;obtain⟨⟨⟨hg,hm⟩,_⟩,hs⟩:=hb;have mk:QE X T E (.Call (.Name x p) [a] ks pos) (aN F (.kc k (f a)))->Q2 X T E F (.Call (.Name x p) [a] ks pos) (.kc k (f a)):=λq=>⟨q,pZ L.K q rfl⟩;refine mk ?_;unfold Vr at hk;split at hk
    case h_1=>
     split at hk
     case isTrue hx=>cases hk;subst hx;exact F2 L.K L.calm (L.gl hg) (L.gP _ hm) (ih a).1 hs
     split at hk
     case isTrue hx=>cases hk;subst hx;exact F0 L.K L.calm (L.gl hg) (L.gP _ hm) (ih a).1 hs
     cases hk
    case h_2=>cases hk
include L in
theorem aBc{n:Nat}(ih:∀e,Q2 X T E F e (cE C n e))(x:Str)(p:Pos)(es:List aJ)(pos:Pos):Q2 X T E F (.Call (.Name x p) es [] pos) (C.vy x es (es.map (cE C n))):=by
 have mk:∀{y:Ex},QE X T E (.Call (.Name x p) es [] pos) (aN F y)->(∀σ,dQ F y σ=(aN F y σ).bind cV)->Q2 X T E F (.Call (.Name x p) es [] pos) y:=λ{y} q e=>by refine⟨q,?_⟩;have:=pZ L.K q rfl;have e2:dQ F y=λσ=>(aN F y σ).bind cV:=funext e;rw[e2];exact this
 unfold Cn.vy;split
 case isFalse=>exact dO
 case isTrue ok=>
  rw[aY]at ok;obtain⟨h1,h2,h3⟩:=jO ok.1;split
  case h_1 i hi=>
   split
   case isFalse=>exact dO
   case isTrue hg=>
    have FN:=L.fns i x (mF hi);refine mk ?_ λ_=>rfl;cases es with
    |nil=>exact F5 FN (L.gl hg) h1|cons e es=>exact F4 FN (L.gl hg) (tF ok.2 ih) ok.2 h1
  case h_2=>
   split
   case h_1 f hf=>
    split
    case isFalse=>exact dO
    case isTrue hb=>
     simp only[Cn.bl,aY]at hb;obtain⟨⟨⟨hg,hm⟩,_⟩,hne⟩:=hb;refine mk ?_ λ_=>rfl;cases es with
     |nil=>cases hne|cons e es=>
      have q:=tF ok.2 ih;have hm':=L.gP x hm;unfold Qv at hf;split at hf
      case isTrue hx=>cases hf;subst hx;exact F6 (PY L.K) (L.gl hg) hm' boot_len q ok.2 h3 h1
      split at hf
      case isTrue hx=>cases hf;subst hx;exact Jw PX (L.gl hg) hm' boot_int q ok.2 h3 h1
      split at hf
      case isTrue hx=>cases hf;subst hx;exact Jw (QB L.K) (L.gl hg) hm' boot_tuple q ok.2 h3 h1
      split at hf
      case isTrue hx=>cases hf;subst hx;exact Jw PZ (L.gl hg) hm' boot_str q ok.2 h3 h1
      cases hf
   case h_2=>
    split
    case isFalse=>exact dO
    case isTrue hi=>
     simp only[aY,decide_eq_true_eq,Cn.bl]at hi;obtain⟨hx,⟨hg,hm⟩,_⟩:=hi;subst hx;split
     case h_2=>exact dO
     case h_1 a t ca ct ec=>
      rw[dS,dS,Dl]at ec;injection ec with ec1 ec2;subst ec1;cases t with
      |Name y p2=>
       simp only[yS,qR];have sa':bP a=aB:=by have:=ok.2;rw[hG,aY]at this;exact this.1
       split
       case h_2=>
        split
        case h_2=>exact dO
        case h_1 cs hcs=>
         refine mk ?_ λ_=>rfl;split at hcs
         case isFalse=>cases hcs
         case isTrue hy=>
          rw[aY]at hy;obtain⟨k1,k2,k3⟩:=jO hy.1;obtain⟨v,d,hv,hd,hm2,hk⟩:=L.eL y cs hcs;refine G5 L.K hv (L.gl hg) (L.gP _ hm) ?_ hk (ih a).1 sa';rcases hm2 with hm2|⟨hm2,hb2⟩
          .exact ee (L.gl hy.2) hm2 hd k1
          .exact Yz (L.gl hy.2) hm2 hb2 hd k3 k1
       case h_1 bt hbt=>
        refine mk ?_ λ_=>rfl;split at hbt
        case isFalse=>cases hbt
        case isTrue hy=>
         simp only[Cn.bl,aY]at hy;obtain⟨⟨hg2,hm2⟩,oky⟩:=hy;obtain⟨k1,k2,k3⟩:=jO oky;have sa:bP a=aB:=by have:=ok.2;rw[hG,aY]at this;exact this.1
         have fin:∀bt,pK y=aA (.type bt.nm)->QE X T E (.Call (.Name "isinstance" p) [a,.Name y p2] [] pos) (aN F (.fE bt (cE C n a))):=λbt hv=>
          G4 L.K bt (L.gl hg) (L.gP _ hm) (L.gl hg2) (L.gP _ hm2) hv k3 k1 (ih a).1 sa
         unfold Rc at hbt;split at hbt
         case isTrue hz=>cases hbt;subst hz;exact fin .int boot_int
         split at hbt
         case isTrue hz=>cases hbt;subst hz;exact fin .bl boot_bool
         split at hbt
         case isTrue hz=>cases hbt;subst hz;exact fin .str boot_str
         split at hbt
         case isTrue hz=>cases hbt;subst hz;exact fin .tup boot_tuple
         split at hbt
         case isTrue hz=>cases hbt;subst hz;exact fin .lst boot_list
         split at hbt
         case isTrue hz=>cases hbt;subst hz;exact fin .bQ (by decide +kernel)
         cases hbt
      |_=>exact dO
include L in
theorem qa{f:aJ->Ex}(ih:∀e,Q2 X T E F e (f e))(tg e:aJ):QI X T E tg e (cO F (cI C f tg e)):=by
 unfold cI;split
 .rename_i x p es pos;split
  .rename_i h;simp only[aY,decide_eq_true_eq,Cn.bl]at h;obtain⟨hx,⟨hg,hm⟩,_⟩:=h;subst hx;split
   .split
    .rename_i a hs;exact K3 (L.gl hg) (L.gP _ hm) (tF (f:=f) (by simp[hs]) ih) hs
    .exact yX
   .exact yX
  .split
   .rename_i h;simp only[aY,decide_eq_true_eq,Cn.bl]at h;obtain⟨hx,⟨hg,hm⟩,_⟩:=h;subst hx;split
    .split
     .rename_i hs;exact K2 L.K (L.gl hg) (L.gP _ hm) (ih _).1 hs
     .exact yX
    .exact yX
   .split
    .rename_i h;simp only[aY,decide_eq_true_eq,Cn.bl]at h;obtain⟨hx,⟨hg,hm⟩,_⟩:=h;subst hx;split
     .split
      .rename_i hs;rw[aY]at hs;exact K4 L.K (L.gl hg) (L.gP _ hm) (tF (f:=f) (by simp[hs.1,hs.2]) ih) hs.1 hs.2
      .exact yX
     .exact yX
    .exact Zs L.K (ih _).1
 .split
  .exact Zs L.K (ih _).1
  .exact yX
include L in
theorem CF:∀{es:List aJ}{l:List Nat},wc C es=aA l->bj X T E es (jh l)/\es.all nV=aB/\l.length=es.length
 |[],l,h=>by cases h;exact⟨Zr,rfl,rfl⟩
 |e::es,l,h=>by
  cases e with
  |Name x p=>
   simp only[wc]at h;split at h
   .rename_i hx;split at h
    .rename_i i l' hi hl;cases h;obtain⟨h1,h2,h3⟩:=CF hl;have hx':X.env.scope.names.lookup x=aA .local:=by rw[L.sc];exact of_decide_eq_true hx
     exact⟨Zq (yz (by rw[L.N];exact L.nd) (by rw[L.N];exact mF hi) (.inl hx') (.inr hx')) h1 rfl,by rw[hG,h2];rfl,by simp[h3]⟩
    .cases h
   .cases h
  |_=>cases h
include L in
theorem Av(e:aJ):QG X T E e (pN (br C e)):=by
 unfold br;split
 .split
  .rename_i hx;split
   .rename_i i hi;have lc:∀{x:Str},C.sc.names.lookup x=aA .local->X.env.scope.names.lookup x=aA .local:=λ{x} h=>by rw[L.sc];exact h
    exact yz (by rw[L.N];exact L.nd) (by rw[L.N];exact mF hi) (.inl (lc (of_decide_eq_true hx))) (.inr (lc (of_decide_eq_true hx)))
   .exact tW
  .exact tW
 .split
  .rename_i l hl;obtain⟨h1,h2,h3⟩:=CF L hl;show QG X T E _ (tL l.length (jh l));rw[h3];exact Zp L.K L.calm h1 h2
  .exact tW
 .exact tW
end
theorem Xp{α:Type}{x:Str}{v:α}:∀{l:List (Str×α)},l.lookup x=aA v->(x,v)∈l
 |[],h=>by cases h
 | (k,u)::r,h=>by
  rw[gR]at h;split at h
  .rename_i q;have:=eq_of_beq q;subst this;cases h;exact fU
  .exact hV _ (Xp h)
section
variable {X:Cx}{T:Tab}{E:XK}{C:Cn}{F:Run}{scope:eU}
theorem lK(ok:C.rD scope=aB):scope.kind = .function/\(∀y∈scope.names,y.2 ≠ .cell)/\(∀y∈scope.names,y.2 = .local->scope.names.lookup y.1=aA .local)/\(∀y∈scope.names,y.2 = .free->C.sc.names.lookup y.1=aA .cell)/\(tB scope).Nodup/\C.top=aB:=by simp only[Cn.rD,aY,decide_eq_true_eq,xA]at ok;exact⟨ok.1.1.1.1.1,ok.1.1.1.1.2,ok.1.1.1.2,ok.1.1.2,ok.1.2,ok.2⟩
theorem Lk.wb(L:Lk X T E C F)(ok:C.rD scope=aB):oA X (tB scope) scope:=by obtain⟨h1,h2,h3,h4,_⟩:=lK ok;exact⟨h1,h2,h3,λy hy hk=>by rw[L.sc];exact h4 y hy hk⟩
theorem Lk.imp(L:Lk X T E C F){i j:Nat}{x:Str}(e1:(tB scope)[i]?=aA x)(e2:(C.imp scope)[i]?=aA (aA j)):scope.names.lookup x=aA .free/\(x,hZ)∈scope.names/\X.N[j]?=aA x:=by
 unfold Cn.imp at e2;rw[gK,e1]at e2;have e3:(if decide (scope.names.lookup x=aA .free) then C.N.idxOf? x else aD)=aA j:=dB e2;split at e3
 .rename_i h;have h:=of_decide_eq_true h;exact⟨h,Xp h,by rw[L.N];exact mF e3⟩
 .cases e3
theorem Lk.comp(L:Lk X T E C F)(ok:C.rD scope=aB)(s:aG)(H:Hp)(a:Addr)(fp:List Addr):Lk (X.comp (tB scope) scope s H a fp) T E0 (C.comp scope) F where
 K:=L.K
 N:=rfl
 sc:=by show relabel scope X.env=Kr scope C.sc;rw[<- L.sc];rfl
 nd:=(lK ok).2.2.2.2.1
 fn:=λz=>by cases z
 calm:=L.calm
 po:=λz=>by cases z
 gv:=L.gv
 fns:=λi x h=>let ⟨k,f,fd,ps,F,hr,hm,hk,hb,_⟩:=(L.fns i x h).ex;⟨⟨k,f,fd,ps,F,hr,hm,hk,hb,λ_ _ _ _ _ _ _ z=>(wg z).elim⟩⟩
 gP:=L.gP
 tab:=L.tab
 gX:=L.gX
 lS:=L.lS
 un:=L.un
 mU:=L.mU
 cat:=L.cat
 eL:=L.eL
 ra:=λz=>by cases z
 jF:=L.jF
 gf:=λz=>by cases z
 rt:=λz=>by cases z
 gQ:=λz=>by cases z
 fr:=λz=>by cases z
theorem Lk.lL(L:Lk X T E C F)(ok:C.rD scope=aB)(s:aG)(H:Hp)(a:Addr)(fp:List Addr)(xe:Value->aG->Prop)(hp:∀pins σ H1 s1 e s',Inv (X.lL (tB scope) scope s H a fp xe) pins σ H1 s1->dU X.prog X.w X.stack H1 s1 E e s'->xe e s'):Lk (X.lL (tB scope) scope s H a fp xe) T E (C.comp scope) F where
 K:=L.K
 N:=rfl
 sc:=by show relabel scope X.env=Kr scope C.sc;rw[<- L.sc];rfl
 nd:=(lK ok).2.2.2.2.1
 fn:=λz=>by cases z
 calm:=L.calm
 po:=λz=>by cases z
 gv:=L.gv
 fns:=λi x h=>let ⟨k,f,fd,ps,F,hr,hm,hk,hb,_⟩:=(L.fns i x h).ex;⟨⟨k,f,fd,ps,F,hr,hm,hk,hb,hp⟩⟩
 gP:=L.gP
 tab:=L.tab
 gX:=L.gX
 lS:=L.lS
 un:=L.un
 mU:=L.mU
 cat:=L.cat
 eL:=L.eL
 ra:=λz=>by cases z
 jF:=L.jF
 gf:=λz=>by cases z
 rt:=λz=>by cases z
 gQ:=λz=>by cases z
 fr:=λz=>by cases z
end
theorem aBf{X:Cx}{T:Tab}{E:XK}{C:Cn}{F:Run}(L:Lk X T E C F){n:Nat}(ih:∀e,Q2 X T E F e (cE C n e))(a b:aJ)(pos:Pos)(hb:bP b=aB):Q2 X T E F (.Subscript a b pos) (C.kR a (cE C n a) (cE C n b)):=by
 have tr:∀{e:aJ}{y:Ex},QE X T E e (aN F y)->lp e=aB->(∀σ,dQ F y σ=(aN F y σ).bind cV)->Q2 X T E F e y:=λ{e y} q pl e1=>by refine⟨q,?_⟩;have:=pZ L.K q pl;have e2:dQ F y=λσ=>(aN F y σ).bind cV:=funext e1;rw[e2];exact this
 have pl:QE X T E (.Subscript a b pos) (aN F (.op .ix (cE C n a) (cE C n b))):=G6 (WW L.K (by have:=L.un;omega)) (ih _).1 (ih _).1 (BV hb);cases a with
 |Name x p=>
  unfold Cn.kR;simp only[yS,qR];by_cases hy:(jY x&&C.gl x)=aB
  .rw[if_pos hy];rw[aY]at hy;cases hk:C.gX.lookup x with
   |none=>exact tr pl rfl λ_=>rfl|some aE=>exact tr (J2 (L.gl hy.2) (L.gX _ _ hk) (ih _).1 (BV hb) (jO hy.1).1) rfl λ_=>rfl
  .rw[if_neg hy];exact tr pl rfl λ_=>rfl
 |_=>exact tr pl rfl λ_=>rfl
theorem aBh{X:Cx}{T:Tab}{E:XK}{C:Cn}{F:Run}(L:Lk X T E C F){n:Nat}(ih:∀e,Q2 X T E F e (cE C n e))(o:aJ)(m:Str)(apos pos:Pos)(es:List aJ):Q2 X T E F (.Call (.Attribute o m apos) es [] pos) (C.yj o m apos pos es (cE C n o) (es.map (cE C n))):=by
 have tr:∀{e:aJ}{y:Ex},QE X T E e (aN F y)->lp e=aB->(∀σ,dQ F y σ=(aN F y σ).bind cV)->Q2 X T E F e y:=λ{e y} q pl e1=>by refine⟨q,?_⟩;have:=pZ L.K q pl;have e2:dQ F y=λσ=>(aN F y σ).bind cV:=funext e1;rw[e2];exact this
 unfold Cn.yj;split
 case isFalse=>exact dO
 case isTrue hb=>
  rw[aY]at hb;obtain⟨hs,hl⟩:=hb;have blt:Q2 X T E F (.Call (.Attribute o m apos) es [] pos) (Fw o m (cE C n o) (es.map (cE C n))):=by
   cases es with
   |nil=>show Q2 X T E F _ (yk o m (cE C n o));unfold yk;exact dO
   |cons a es=>
    rw[hG,aY]at hs;cases es with
    |nil=>
     show Q2 X T E F _ (ym o m (cE C n o) (cE C n a));unfold ym;split
     case isTrue hm=>simp only[aY,decide_eq_true_eq]at hm;obtain⟨hm,ho⟩:=hm;subst hm;exact tr (F3 L.K (ih _).1 (ih _).1 ho hs.1 hl) rfl λ_=>rfl
     split
     case isTrue hm=>simp only[aY,decide_eq_true_eq]at hm;obtain⟨hm,ho⟩:=hm;subst hm;exact tr (G8 L.K (by have:=L.un;omega) (ih _).1 (ih _).1 ho hs.1 hl) rfl λ_=>rfl
     split
     case isTrue hm=>
      have hm:=of_decide_eq_true hm;subst hm;split
      .rename_i z hz;unfold CQ at hz;split at hz
       .cases hz;exact tr (G7 L.K (ih _).1 hs.1 hl) rfl λ_=>rfl
       .cases hz
      .exact dO
     split
     case isTrue hm=>
      rw[aY]at hm;split
      .rename_i f hf;rw[aDw hf];exact tr (J3 f (ih _).1 (ih _).1 hm.1 hs.1 hl) rfl λ_=>rfl
      .exact dO
     split
     case isTrue ho=>
      split
      .rename_i f hf;exact tr (Zl hf (by have:=L.un;omega) (ih _).1 (tF (f:=cE C n) (es:=[a]) (by simp[hs.1]) ih) ho (by simp[hs.1]) (by simp) hl) rfl λ_=>rfl
      .exact dO
     exact dO
    |cons b es=>
     obtain⟨hs1,hs2⟩:=hs;rw[hG,aY]at hs2;cases es with
     |nil=>
      show Q2 X T E F _ (yn o m (cE C n o) (cE C n a) (cE C n b));unfold yn;split
      case isTrue ho=>
       split
       .rename_i f hf;exact tr (Zl hf (by have:=L.un;omega) (ih _).1 (tF (f:=cE C n) (es:=[a,b]) (by simp[hs1,hs2.1]) ih) ho (by simp[hs1,hs2.1]) (by simp) hl) rfl λ_=>rfl
       .exact dO
      exact dO
     |cons c es=>exact dO
  split
  case h_1 ts hts=>
   unfold Cn.DO at hts;split at hts
   case isFalse=>cases hts
   case isTrue hz=>
    rw[aY]at hz;have hm:=of_decide_eq_true hz.1;subst hm;cases o with
    |Name x p=>
     simp only[yS,qR]at hts;split at hts
     case isFalse=>cases hts
     case isTrue hx=>
      rw[aY]at hx;cases es with
      |nil=>cases hz.2|cons a es=>
       cases es with
       |cons b es=>cases hz.2|nil=>
        have hsa:bP a=aB:=by simpa using hs
        exact tr (J1 (L.gl hx.2) (L.lS _ _ hts) (ih _).1 hsa (jO hx.1).1 hl) rfl λ_=>rfl
    |_=>cases hts
  exact blt
theorem iJ{T:Tab}{F:Run}:∀(n:Nat) {X:Cx}{E:XK}{C:Cn} (L:Lk X T E C F) (e:aJ),Q2 X T E F e (cE C n e)
 |0,X,E,C,L,e=>dO
 |n+1,X,E,C,L,e=>by
  have ih:∀e,Q2 X T E F e (cE C n e):=λe=>iJ n L e;have tr:∀{e:aJ}{y:Ex},QE X T E e (aN F y)->lp e=aB->(∀σ,dQ F y σ=(aN F y σ).bind cV)->Q2 X T E F e y:=λ{e y} q pl e1=>by refine⟨q,?_⟩;have:=pZ L.K q pl;have e2:dQ F y=λσ=>(aN F y σ).bind cV:=funext e1;rw[e2];exact this
  unfold cE;split
  .exact aBi L _ _
  .exact aBd L _ _ _
  .unfold Gb;split
   .rename_i o ho;exact tr (I0 (l9 L ho) (ih _).1 (ih _).1) rfl λ_=>rfl
   .exact dO
  .unfold Gm;split
   .exact⟨J8 aEy (ih _).1,Ki⟩
   .exact⟨H9 L.K (ih _).1,V0 (ih _).2⟩
   .exact dO
  .split
   .rename_i neg aE ht;unfold Cn.DV at ht;split at ht
    .split at ht
     case isFalse=>cases ht
     case isTrue hx=>rw[aY]at hx;obtain⟨k,hk,e⟩:=Option.map_eq_some_iff.mp ht;cases e;exact⟨Zn (neg:=aF) (L.gl hx.2) (L.gX _ _ hk) (ih _).1 (jO hx.1).1,AS (neg:=aF) (L.gl hx.2) (L.gX _ _ hk) (ih _).1 (jO hx.1).1⟩
    .split at ht
     case isFalse=>cases ht
     case isTrue hx=>rw[aY]at hx;obtain⟨k,hk,e⟩:=Option.map_eq_some_iff.mp ht;cases e;exact⟨Zn (neg:=aB) (L.gl hx.2) (L.gX _ _ hk) (ih _).1 (jO hx.1).1,AS (neg:=aB) (L.gl hx.2) (L.gX _ _ hk) (ih _).1 (jO hx.1).1⟩
    .cases ht
   .unfold Gf;split
    .split
     .rename_i hb;exact⟨F7 (Yu L _) (ih _).1 (ih _).1 (BW hb),U9 (Yu L _) (ih _).1 (ih _).1 (BW hb)⟩
     .exact dO
    .exact dO
  .rename_i op vs _;unfold Gd;cases vs with
   |nil=>split<;>exact dO|cons v vs=>
    split
    .obtain⟨h1,h2⟩:=Qu L ih v vs;exact⟨h1,h2.qt⟩
    .obtain⟨h1,h2⟩:=Yt L ih v vs;exact⟨h1,h2.qt⟩
  .exact⟨G1 (ih _).2 (ih _).1 (ih _).1,Ki⟩
  .split
   .rename_i hs;exact tr (J4 (tF hs ih)) rfl λ_=>rfl
   .exact dO
  .split
   .rename_i hs;exact tr (G9 (tF hs ih)) rfl λ_=>rfl
   .exact dO
  .unfold Gj;split
   .exact tr (J0 L.K (ih _).1 (Yw ih (Gh n)) (Yw ih (Gh n))) rfl λ_=>rfl
   .split
    .rename_i hb;exact aBf L ih _ _ _ hb
    .exact dO
  .split
   .rename_i h;exact aBg L ih h
   unfold Ge;split
   .split
    .exact aBc L ih _ _ _ _
    .exact aBh L ih _ _ _ _ _
    .exact dO
   .exact dO
  .unfold Gg;split
   .exact tr F9 rfl λ_=>rfl
   .exact dO
  .unfold Fz;split
   .rename_i hb;split
    .rename_i hz;rw[aY,decide_eq_true_eq]at hz;obtain⟨rfl,_⟩:=hz;exact tr (K0 (λc hc=>by obtain⟨x,hx,e⟩:=List.mem_map.mp (List.contains_iff_mem.mp hc);obtain⟨D,_,h2,h3⟩:=L.jF x.1 x.2 hx;exact⟨D,e▸h2,h3⟩) (ih _).1 hb) rfl λ_=>rfl
    all_goals exact dO
   .exact dO
  .unfold Gi;split
   .split
    .rename_i hb;rw[aY]at hb;have LY:=λs H a fp=>L.comp hb.1 s H a fp;split
     .exact tr (Zk (ct:=aD) (L.wb hb.1) L.calm (qa L ih _ _) (λs H a fp=>Av (LY s H a fp) _) (λc z=>by cases z) (λ_=>rfl) (L.gQ (lK hb.1).2.2.2.2.2) (L.fr (lK hb.1).2.2.2.2.2) (L.rt (lK hb.1).2.2.2.2.2) (λs H a fp xe h=>(iJ n (L.lL hb.1 s H a fp xe h) _).1) (by simp[Cn.imp]) (λi j x e1 e2=>L.imp e1 e2) hb.2) rfl λ_=>rfl
     .exact tr (Zk (ct:=aA _) (L.wb hb.1) L.calm (qa L ih _ _) (λs H a fp=>Av (LY s H a fp) _) (λc z s H a fp=>by cases z;exact(iJ n (LY s H a fp) _).2) (λz=>by cases z) (L.gQ (lK hb.1).2.2.2.2.2) (L.fr (lK hb.1).2.2.2.2.2) (L.rt (lK hb.1).2.2.2.2.2) (λs H a fp xe h=>(iJ n (L.lL hb.1 s H a fp xe h) _).1) (by simp[Cn.imp]) (λi j x e1 e2=>L.imp e1 e2) hb.2) rfl λ_=>rfl
     .exact dO
    .exact dO
   .exact dO
  .exact dO
def Out.drop(i:Nat):Out->Out
 |.nx σ=>.nx (σ.set i aD)
 |.brk σ=>.brk (σ.set i aD)
 |.cnt σ=>.cnt (σ.set i aD)
 |.ret v=>.ret v
def cw(i:Option Nat)(ms:aH->M Out)(σ:aH)(c:Nat):M Out:=λh1=>match i with
 |some i=>((fH (ms (σ.set i (aA (.ref h1.nx))))).bind λo=>M.ret (o.drop i)) (h1.new (.xo c))
 |none=>fH (ms σ) (h1.new (.xo c))
def kx(k:Option (Option Nat))(σ:aH)(v:AV):Out:=match k with
 |none=>.ret v
 |some aD=>.nx σ
 |some (aA j)=>.nx (σ.set j (aA v))
def qv(mc:M AV)(ok:AV->Out)(hd:Nat->M Out):M Out:=λh=>match mc h with
 |.ok v h1=>.ok (ok v) h1
 |.exc c _ h1=>hd c h1
 |.bad=>.bad
def lj(cs:List (Nat×Bool))(c:Nat)(a b:M Out):M Out:=match cs.lookup (c%64) with
 |some aB=>a
 |some aF=>b
 |none=>M.bad
def BI(m:M AV)(c:Nat):M Out:=m.bind λv h=>match v with
 |.int i=>if 0<=i then .exc (c+64*(i.toNat+1)) .aK h else .bad
 |_=>.bad
def X6(mr:M (List AV))(c:Nat):M Out:=mr.bind λxs=>M.guard (xs.length<=sizeLine) λh=>.exc c .aK h
section
variable {X:Cx}{T:Tab}{E:XK}
theorem W.fH{α β:Type}{Rp:Rl α β}{m:M α}{h:AH}{ρ:List Addr}{H:Hp}{Q:β->Hp->Prop}{E E':XK}(w:W T Rp (AM.fH m h) ρ H Q E):W T Rp (m h) ρ H Q E':=by
 unfold AM.fH at w;cases e:m h with
 |ok a h1=>rw[e]at w;exact w|exc c x h1=>rw[e]at w;exact w.elim|bad=>rw[e]at w;exact w.elim
theorem cT.drop{ρ:List Addr}{H:Hp}{σ:aH}{σ':L2.St}(S:cT T ρ H σ σ')(i:Nat):cT T ρ H (σ.set i aD) (σ'.set i aD):=by
 refine⟨by simp[S.1],λj u q=>?_⟩;by_cases hj:i=j
 .subst hj;by_cases hl:i<σ.length
  .rw[gu hl]at q;cases q
  .rw[sv (by simpa using hl)]at q;cases q
 .rw[gr hj]at q ⊢;exact S.2 j u q
def Yk(k:Option (Option Nat))(σ:L2.St)(v:V):gB:=match k with
 |none=>.ret v
 |some aD=>.nx σ
 |some (aA j)=>.nx (σ.set j (aA v))
theorem a8{ρ:List Addr}{H:Hp}{σ:aH}{σ':L2.St}{v:AV}{v':V}(S:cT T ρ H σ σ')(r:aT T ρ H v v'):∀k,RO T ρ H (kx k σ v) (Yk k σ' v')
 |none=>r
 |some aD=>S
 |some (aA j)=>S.set r j
inductive sP(X:Cx)(call:aJ):Option (Option Nat)->Stmt->Prop
 |ret (p:Pos):sP X call aD (.Return (aA call) p)
 |expr (p:Pos):sP X call (aA aD) (.Expr call p)
 |asg (j:Nat) (y:Str) (p p':Pos) (hN:X.N.Nodup) (hj:X.N[j]?=aA y) (hl:oG X.env.scope y) (hf:X.fn y=aB):sP X call (aA (aA j)) (.Assign [.Name y p'] call p)
theorem sP.kW{call:aJ}{k:Option (Option Nat)}{st:Stmt}{pn:List (Addr×Obj)}{E1:Value->aG->Prop}(h:sP X call k st):sP (X.kW pn E1) call k st:=by
 cases h with
 |ret p=>exact .ret p|expr p=>exact .expr p|asg j y p p' hN hj hl hf=>exact .asg j y p p' hN hj hl hf
def Lm(k:Option (Option Nat))(te:TE):TS:=match k with
 |none=>Bg (DH te) qm
 |some aD=>Bg (DC te) qm
 |some (aA j)=>Bg (Be te (xk j)) qm
theorem aDq{k:Option (Option Nat)}{te:TE}{D:Ends}{σ:L2.St}{H:Hp}(h:te σ H λv H1=>iK D (Yk k σ v) H1):Lm k te D σ H:=by
 match k with
 |none=>exact h|some aD=>exact h|some (aA j)=>exact h
theorem OP{call:aJ}{te:TE}{k:Option (Option Nat)}{st:Stmt}(hp:PE X call te)(hs:bP call=aB)(hlc:rJ call=aF)(h:sP X call k st):oH X [st] (Lm k te):=by
 cases h with
 |ret p=>exact lu (Zi hp) lx|expr p=>exact lu (Zh hp (pz hs hlc)) lx|asg j y p p' hN hj hl hf=>exact lu (D3 hN hj hl hp (pz hs hlc) (.inl hf)) lx
def DQ(T:Tab)(m:aH->M AV)(EE:L2.St->XK):TE:=λσ' H Q=>∃ρ σ h,bL T ρ h H/\cT T ρ H σ σ'/\W T (aT T) (m σ h) ρ H Q (EE σ')
def QC(X:Cx)(T:Tab)(e:aJ)(m:aH->M AV):Prop:=∀pn E1 EE,vi (dU X.prog X.w) (X.kW pn E1) EE->PE (X.kW pn E1) e (DQ T m EE)
def tsS(T:Tab)(ms:aH->M Out):TS:=λD σ' H=>∃ρ σ h,bL T ρ h H/\cT T ρ H σ σ'/\W T (RO T) (ms σ h) ρ H (iK D) E0
inductive sU(X:Cx)(T:Tab):List pB->List Hd->(aH->Nat->M Out)->Prop
 |nil:sU X T [] [] λ_ _=>M.bad
 |cons {x:Str}{np cx:Pos}{Dc:Addr}{nm:Option Str}{i:Option Nat}{b₀:Stmt}{suite:List Stmt}{cs:List (Nat×Bool)}{ms:aH->M Out}{hs:List pB}{ds:List Hd}{g:aH->Nat->M Out} (hg:Gl X x) (hm:X.mg x=aA (.ref Dc)) (hD:L2.clsIn X.K Dc=aB)
  (hdb:(x==("__debug__":Str))=aF) (hn:ve X nm i) (hc:∀c b,cs.lookup c=aA b->∃C,T.C c=aA C/\L2.clsIn X.K C=aB/\(mroOf X.K C).contains (.ref Dc)=b) (hsu:∀a,uY (X.held a) T E0 (b₀::suite) ms) (t:sU X T hs ds g) :
  sU X T (.ExceptHandler (aA (.Name x np)) nm (b₀::suite) cx::hs) (⟨Dc,i,tsS T ms⟩::ds) λσ c=>lj cs c (cw i ms σ c) (g σ c)
section
variable {x fn:Str}{np fp cp pos apos:Pos}{e o:aJ}{es:List aJ}{mr:aH->M (List AV)}{ma mc:aH->M AV}{g:List AV->M AV}{hs:List pB}{ds:List Hd}{gh:aH->Nat->M Out}{k:Option (Option Nat)}
theorem sU.ok(q:sU X T hs ds gh):bh X hs ds:=by
 induction q with
 |nil=>exact .nil|cons hg hm hD hdb hn hc hsu t ih=>exact .cons hg hm hD hdb hn (λa pins s σ' H D I ⟨ρ,σ,h,R,S,w⟩=>(hsu a).choose_spec.1 pins s σ' H D I ((hsu a).choose_spec.2 ρ σ σ' h H D R S w)) ih
theorem sU.reads(q:sU X T hs ds gh){ρ:List Addr}{σ:aH}{σ':L2.St}{h:AH}{H:Hp}{D:Ends}{c:Nat}(R:bL T ρ h H)(S:cT T ρ H σ σ'):W T (RO T) (gh σ c h) ρ H (iK D) E ->
  ∃C,T.C (c%64)=aA C/\L2.clsIn X.K C=aB/\∀a dx,H a=aD->XD H dx c->vP X.K C D σ' a (aZ H a (.ext (lB a (.ref C) dx))) ds:=by
 induction q with
 |nil=>exact λw=>w.elim|@cons x np cx Dc nm i b₀ suite cs ms hs ds g hg hm hD hdb hn hc hsu t ih=>
  intro w;dsimp only[lj]at w;cases l:cs.lookup (c%64) with
  |none=>rw[l]at w;exact w.elim|some b=>
   obtain⟨C,h1,h2,h3⟩:=hc _ b l;rw[l]at w;cases b with
   |false=>obtain⟨C',g1,g2,g3⟩:=ih w;rw[h1]at g1;cases g1;exact⟨C,h1,h2,λa dx ha hx=>by unfold vP;rw[if_neg (by rw[h3];exact dG)];exact g3 a dx ha hx⟩
   |true=>
    refine⟨C,h1,h2,λa dx ha hx=>?_⟩;unfold vP;rw[if_pos h3];obtain⟨R2,ex⟩:=R.alloc (o:=.xo c) ha ⟨C,dx,h1,gY,λz=>let ⟨d,od,g1,g2⟩:=hx z;⟨d,od,g1,by rw[bW (gW g2 ha)];exact g2⟩⟩;have w2:=w.ext ex;unfold cw at w2;cases i with
    |none=>exact⟨_,_,_,R2,S.ext ex,W.fH (E:=E) w2⟩|some i=>
     refine⟨_,_,_,R2,(S.ext ex).set (.ref (n:=h.nx) (by rw[<- R.len];simp)) i,W.fH (E:=E) (W.bind w2 λρ3 o o' h3 H3 e3 R3 q3 w3=>?_)⟩;cases o with
     |nx σ2=>cases o' with
      |nx σ2'=>exact(W.here (Q:=iK D) (b:=gB.nx (σ2'.set i aD)) w3 R3 (cT.drop q3 i):D.nx (σ2'.set i aD) H3)|_=>exact q3.elim
     |brk σ2=>cases o' with
      |brk σ2'=>exact(W.here (Q:=iK D) (b:=gB.brk (σ2'.set i aD)) w3 R3 (cT.drop q3 i):D.bk (σ2'.set i aD) H3)|_=>exact q3.elim
     |cnt σ2=>cases o' with
      |cnt σ2'=>exact(W.here (Q:=iK D) (b:=gB.cnt (σ2'.set i aD)) w3 R3 (cT.drop q3 i):D.ct (σ2'.set i aD) H3)|_=>exact q3.elim
     |ret v=>cases o' with
      |ret v'=>exact(W.here (Q:=iK D) (b:=gB.ret v') w3 R3 q3:D.rt v' H3)|_=>exact q3.elim
theorem U6{call:aJ}{st:Stmt}{h₀:pB}(hst:X.stack=X.env::X.outer)(hf:X.env.frame=aA X.env.locals)(hN:X.N.Nodup)(hc:QC X T call mc)(hb:sP X call k st)(hsp:bP call=aB)(hlc:rJ call=aF)(hh:sU X T (h₀::hs) ds gh) :
  QS X T E (.Try [st] (h₀::hs) [] [] pos) (λσ=>qv (mc σ) (kx k σ) (gh σ)):=by
 refine⟨_,D5 (tb:=λpn E1 EE=>Lm k (DQ T mc EE)) hst hf hN hh.ok λpn E1 EE ps=>OP (X:=X.kW pn E1) (hc pn E1 EE ps) hsp hlc hb.kW,λρ σ σ' h H D R S w pn E1=>aDq ⟨ρ,σ,h,R,S,?_⟩⟩;dsimp only[qv]at w;cases e:mc σ h with
 |ok v h2=>rw[e]at w;exact λρ2 b H2 e2 R2 r2=>w ρ2 _ H2 e2 R2 (a8 (S.ext e2) r2 k)
 |bad=>rw[e]at w;exact w.elim|exc c x h2=>rw[e]at w;exact λρ2 H2 e2 R2=>let ⟨C,h1,h2,h3⟩:=hh.reads R2 (S.ext e2) (w.ext e2);⟨C,h1,λdx hx=>⟨C,rfl,h2,λa ha=>h3 a dx ha hx⟩⟩
theorem mj:QC X T e (λ_=>M.bad):=λpn E1 EE ps pins s σ' H Q I ⟨ρ,σ,h,R,S,w⟩=>w.elim
theorem E9(Fx:Fn X T E fn g) (hgf:Gl X fn) (hdf:(fn==("__debug__":Str))=aF) (hss:(e::es).all bP=aB) (ha:∀pn E1,QA (X.kW pn E1).dk T E0 (e::es) mr):QC X T (.Call (.Name fn fp) (e::es) [] cp) (λσ=>(fH (mr σ)).bind g):=by intro pn E1 EE ps;obtain⟨kk,f,fd,pl,F,hr,hm,hk,hb,_⟩:=Fx.ex;obtain⟨ta,pa,ra⟩:=ha pn E1;rw[hG,aY]at hss;exact(w9 (X:=X.kW pn E1) F (hr.mono (xD _)) hgf hm hk hb ps pa.dk hdf (dY hss.1) (zK hss.2)).of λσ' H Q ⟨ρ,σ,h,R,S,w⟩=>ra ρ σ σ' h H _ R S (W.fH (W.bind w λρ1 xs ys h1 H1 e1 R1 q1 w1=>⟨ρ1,h1,xs,R1,q1,w1⟩))
theorem Xl{c n:Nat}(h:c<64):(c+64*(n+1))%64=c/\(c+64*(n+1)) / 64-1=n:=by omega
theorem U5{c:Nat}{m:aH->M AV} (hc:X.calm=aB) (hx:X.ex=[]) (hg:Gl X x) (h:Qp X T x c) (hX:vk X E) (ha:QE X T E e m) (hs:bP e=aB) (hd:(x==("__debug__":Str))=aF) :
  QS X T E (.Raise (aA (.Call (.Name x np) [e] [] cp)) aD pos) (λσ=>BI (m σ) c):=by
 obtain⟨D,f,bmB,newId,mG,Bn,k,fd,ps,hm,hT,hl,q,FB,xa,F,hr,hb⟩:=h;obtain⟨ta,pa,ra⟩:=ha;refine⟨_,D0 hc hx hg hm q FB xa F hr hb hX (mM pa oW (dY hs)) hd (dY hs),λρ σ σ' h H D' R S w=>ra ρ σ σ' h H _ R S (W.bind w λρ1 v v' h1 H1 e1 R1 q1 w1=>?_)⟩;cases v with
 |int i=>
  cases q1;dsimp only at w1;by_cases hi:0<=i
  .rw[if_pos hi]at w1;refine⟨i,rfl,λd od hd1=>?_⟩;obtain⟨D2,h2,z⟩:=w1 ρ1 (aZ H1 d (.dX od (.xd [("line",.int i)]))) (Ext.jR hd1) (R1.keep hd1);rw[(Xl hl).1,hT]at h2;cases h2;refine z (aA d) λ_=>⟨d,od,rfl,?_⟩;rw[gY,(Xl hl).2,Int.toNat_of_nonneg hi]
  .rw[if_neg hi]at w1;exact w1.elim
 |_=>exact w1.elim
end
end
mutual
inductive Tg where
 |bad
 |nm (i:Nat)
 |tup (n:Nat) (ts:vC)
 |sub (o i:Ex)
inductive vC where
 |nil
 |cons (t:Tg) (ts:vC)
end
mutual
inductive Sx where
 |bad|pass|brk|cnt|pw
 |expr (e:Ex)
 |ret (e:Ex)
 |asg (t:Tg) (e:Ex)
 |ite (c:Ex) (a b:bX)
 |jW (t:Tg) (it:Ir) (b:bX)
 |aug (sub:Bool) (i:Nat) (e:Ex)
 |raise (c:Nat) (es:gO)
 |zI (c:Nat) (e:Ex)
 |Bs (k:Option (Option Nat)) (c:Ex) (hs:xQ)
inductive bX where
 |nil
 |cons (s:Sx) (ss:bX)
inductive xQ where
 |nil
 |cons (cs:List (Nat×Bool)) (i:Option Nat) (b:bX) (r:xQ)
end
mutual
noncomputable def nB(F:Run):Tg->AV->aH->M aH
 |.bad,_,_=>M.bad
 |.nm i,v,σ=>M.ret (σ.set i (aA v))
 |.tup n ts,v,σ=>tL n (vD F ts) v σ
 |.sub o i,v,σ=>(aN F o σ).bind λx=>(aN F i σ).bind λy=>(vM x y v).bind λ_=>M.ret σ
noncomputable def vD(F:Run):vC->List AV->aH->M aH
 |.nil,vs,σ=>Ho vs σ
 |.cons t ts,vs,σ=>Hn (nB F t) (vD F ts) vs σ
end
def cc(F:Run)(c:Ex)(σ:aH):M AV:=match c with
 |.call f es=>(fH (fA F es σ)).bind (F f)
 |_=>M.bad
mutual
noncomputable def iU(F:Run):Sx->aH->M Out
 |.bad,_=>M.bad
 |.pass,σ=>M.ret (.nx σ)
 |.brk,σ=>M.ret (.brk σ)
 |.cnt,σ=>M.ret (.cnt σ)
 |.pw,_=>M.ret (.ret .aK)
 |.expr e,σ=>(aN F e σ).bind λ_=>M.ret (.nx σ)
 |.ret e,σ=>(aN F e σ).bind λv=>M.ret (.ret v)
 |.asg t e,σ=>(aN F e σ).bind λv=>(nB F t v σ).bind λσ1=>M.ret (.nx σ1)
 |.ite c a b,σ=>yb (dQ F c σ) (iV F a σ) (iV F b σ)
 |.jW t it b,σ=>(cO F it σ).bind λi=>kN i (nB F t) (iV F b) FU 0 σ
 |.aug sub i e,σ=>ji sub i (aN F e σ) σ
 |.raise c es,σ=>X6 (fA F es σ) c
 |.zI c e,σ=>BI (aN F e σ) c
 |.Bs k c hs,σ=>qv (cc F c σ) (kx k σ) (tO F hs σ)
noncomputable def iV(F:Run):bX->aH->M Out
 |.nil,σ=>M.ret (.nx σ)
 |.cons s ss,σ=>BU (iU F s σ) (iV F ss)
noncomputable def tO(F:Run):xQ->aH->Nat->M Out
 |.nil,_,_=>M.bad
 |.cons cs i b r,σ,c=>lj cs c (cw i (iV F b) σ c) (tO F r σ c)
end
def qp:List Tg->vC
 |[]=>.nil
 |t::ts=>.cons t (qp ts)
def cG(C:Cn):Nat->aJ->Tg
 |0,_=>.bad
 |n+1,e=>match e with
  |.Name x _=>match C.slot x with
   |some i=>.nm i
   |none=>.bad
  |.Tuple es _ _=>if es.all nV then .tup es.length (qp (es.map (cG C n))) else .bad
  |.Subscript a b _=>if bP b then .sub (cE C EF a) (cE C EF b) else .bad
  |_=>.bad
def Vj:aJ->Bool
 |.Tuple ..=>aB
 |_=>aF
def zN:List Sx->bX
 |[]=>.nil
 |s::ss=>.cons s (zN ss)
def cA(C:Cn):aJ->Ex
 |.Name x _=>if jY x&&C.loc x then match C.N.idxOf? x with
   |some i=>.var i
   |none=>.bad
  else .bad
 |.Constant c _ _=>Gr c
 |_=>.bad
def cH(C:Cn):Stmt->Sx
 |.Pass _=>.pass
 |.Return aD _=>.pw
 |.Return (aA e) _=>.ret (cA C e)
 |.Assign [.Name y _] e _=>if bP e && !rJ e then match C.slot y with
   |some j=>.asg (.nm j) (cA C e)
   |none=>.bad
  else .bad
 |_=>.bad
def Lr(C:Cn):Stmt->Option (Option (Option Nat)×aJ)
 |.Return (aA c) _=>aA (aD,c)
 |.Expr c _=>aA (aA aD,c)
 |.Assign [.Name y _] c _=>(C.slot y).map λj=>(aA (aA j),c)
 |_=>aD
def ZK(C:Cn):Option Str->Option (Option Nat)
 |none=>aA aD
 |some n=>if decide (C.sc.names.lookup n=aA .local) then(C.N.idxOf? n).map aA else aD
def cC(C:Cn)(c:aJ):Ex:=match c with
 |.Call g es [] pos=>if es.all bP then match g with
  |.Name f _=>match C.fns.idxOf? f with
   |some j=>if jY f&&C.gl f && !es.isEmpty then .call j (rF (es.map (cE C EF))) else .bad
   |none=>.bad
  |_=>.bad
  else .bad
 |_=>.bad
def vx(C:Cn):List pB->Option xQ
 |[]=>aA .nil
 |.ExceptHandler (aA (.Name x _)) nm (b₀::suite) _::hs=>match C.cat.lookup x,ZK C nm,vx C hs with
  |some cs,aA i,aA r=>if jY x&&C.gl x then aA (.cons cs i (zN ((b₀::suite).map (cH C))) r) else aD
  |_,_,_=>aD
 |_=>aD
def cR(C:Cn)(x:Str)(es:List aJ):Sx:=match C.mU.lookup x with
 |some c=>
  .bad
 |none=>
  match C.jF.lookup x,es with
  |some c,[e]=>if jY x&&C.gl x&&bP e then .zI c (cE C EF e) else .bad
  |_,_=>
   .bad
def CZ(C:Cn)(y:Str)(yl:Nat)(e:aJ):Bool:=match e with
 |.ListComp _ _ scope pos=>decide (C.sc.kind = .function)&&decide (C.sc.names.lookup y=aA .local)&&(yl==pos.line) && !(scope.names.any λx=>x.1==y&&(x.2 == .local||x.2 == .cell))|_=>aF
def XW(e:aJ):Bool:=match e with
 |.ListComp _ [⟨_,_,[],0⟩] _ _=>aB
 |.ListComp _ [⟨_,_,[_],0⟩] _ _=>aB
 |_=>aF
def cL(C:Cn)(t e:aJ):Sx:=match t with
 |.Name y py=>match C.slot y with
  |some i=>if CZ C y py.line e&&XW e then .asg (.nm i) (cE C EF e) else
   if !decide (C.sc.names.lookup y=aA .local) then .asg (cG C 4 t) (cE C EF e) else
   .bad
  |none=>.bad
 |_=>.bad
def Ga(C:Cn)(t:aJ)(op:uO)(e:aJ):Sx:=match t with
 |.Name x _=>match C.slot x with
  |some i=>match op with
   |.Add=>.aug aF i (cE C EF e)
   |.Sub=>.aug aB i (cE C EF e)
   |_=>.bad
  |none=>.bad
 |_=>.bad
def Rj(C:Cn)(o:Option aJ):Sx:=match o with
 |none=>.pw
 |some e=>.ret (cE C EF e)
def Rf(C:Cn)(t e:aJ):Sx:=
 if rJ e then cL C t e else
 if Vj t&&Vj e then .bad else
 if bP e&&nV t then .asg (cG C 4 t) (cE C EF e) else .bad
def Rg(C:Cn)(ts:List aJ)(e:aJ):Sx:=match ts with
 |[t]=>Rf C t e
 |_=>.bad
def Ri(C:Cn)(o c:Option aJ):Sx:=match c with
 |none=>match o with
  |some (.Call (.Name x _) es [] _)=>cR C x es
  |_=>.bad
 |_=>.bad
def WH:aJ->Bool
 |.Call ..=>aB
 |_=>aF
def Gk(C:Cn)(bs:List Stmt)(hs:List pB)(os fs:List Stmt):Sx:=match os,fs,bs with
 |[],[],[st]=>match Lr C st,vx C hs with
  |some (k,c),aA h=>if !hs.isEmpty&&WH c then .Bs k (cC C c) h else .bad
  |_,_=>.bad
 |_,_,_=>.bad
def cS(C:Cn):Nat->Stmt->Sx
 |0,_=>.bad
 |n+1,s=>match s with
  |.Pass _=>.pass
  |.Break _=>.brk
  |.Continue _=>.cnt
  |.Return o _=>Rj C o
  |.Expr e _=>if bP e && !rJ e then .expr (cE C EF e) else .bad
  |.Assign ts e _=>Rg C ts e
  |.AugAssign t op e _=>Ga C t op e
  |.If c a b _=>.ite (cE C EF c) (zN (a.map (cS C n))) (zN (b.map (cS C n)))
  |.For t it b els _=>if els.isEmpty&&bP it then .jW (cG C 4 t) (cI C (cE C EF) t it) (zN (b.map (cS C n))) else .bad
  |.Raise o c _=>Ri C o c
  |.Try bs hs os fs _=>Gk C bs hs os fs
  |_=>.bad
section
variable {X:Cx}{T:Tab}{E:XK}{C:Cn}{F:Run}(L:Lk X T E C F)(ht:C.top=aB)
theorem aDu{es:List aJ}{f:aJ->Tg}(hs:es.all nV=aB)(h:∀e,QG X T E e (nB F (f e))):bj X T E es (vD F (qp (es.map f))):=by
 induction es with
 |nil=>exact Zr|cons e es ih=>rw[hG,aY]at hs;exact Zq (h e) (ih hs.2) hs.1
include L ht in
theorem Aw:∀(n:Nat) (e:aJ),QG X T E e (nB F (cG C n e))
 |0,e=>tW
 |n+1,e=>by
  have ih:=Aw n;unfold cG;split
  .split
   .rename_i i hi;unfold Cn.slot at hi;split at hi
    .rename_i hl;have hv:∀{x:Str},C.loc x=aB->oG X.env.scope x:=λ{x} hl=>by rw[L.sc];simp only[Cn.loc,uK,decide_eq_true_eq]at hl;exact hl
     exact yz (by rw[L.N];exact L.nd) (by rw[L.N];exact mF hi) (hv hl) (.inl (L.fn ht _))
    .cases hi
   .exact tW
  .split
   .rename_i hs;exact Zp L.K L.calm (aDu hs ih) hs
   .exact tW
  .split
   .rename_i hs;exact K1 (by have:=L.un;omega) (iJ EF L _).1 (iJ EF L _).1 hs
   .exact tW
  .exact tW
theorem ql{ss:List Stmt}{f:Stmt->Sx}(h:∀s,QS X T E s (iU F (f s))):uY X T E ss (iV F (zN (ss.map f))):=by
 induction ss with
 |nil=>exact U8|cons s ss ih=>exact U7 (h s) ih
include L in
theorem CD(a:Addr)(e:aJ):QE (X.held a) T E0 e (aN F (cA C e)):=by
 unfold cA;split
 .rename_i x pos;split
  .rename_i h;rw[aY]at h;obtain⟨h1,h2,_⟩:=jO h.1;split
   .rename_i i hi;have hv:xV X.env.scope x:=by
     have hl:=h.2;rw[L.sc];simp only[Cn.loc,uK,decide_eq_true_eq]at hl;rcases hl with hl|hl
     .exact .inl hl
     .exact .inr (.inl hl)
    exact Zo (X:=X.held a) (by show X.N[i]?=_;rw[L.N];exact mF hi) hv h1 h2
   .exact mm
  .exact mm
 .rename_i c _ _;cases c with
  |none=>exact nO Js λ_ _=>.aK|bool b=>exact nO Jq λ_ _=>.bl b|int i=>exact nO Jr λ_ _=>.int i|str x=>exact nO yw λ_ _=>.str x|_=>exact mm
 .exact mm
include L ht in
theorem aBe(a:Addr)(s:Stmt):QS (X.held a) T E0 s (iU F (cH C s)):=by
 unfold cH;split
 .exact AN
 .exact AQ
 .exact AO (CD L a _)
 .split
  .rename_i y _ e _ hs;rw[aY,qG]at hs;split
   .rename_i j hj;unfold Cn.slot at hj;split at hj
    .rename_i hl;have hv:oG X.env.scope y:=by rw[L.sc];simp only[Cn.loc,uK,decide_eq_true_eq]at hl;exact hl
     exact AK (CD L a e) (yz (X:=X.held a) (by show X.N.Nodup;rw[L.N];exact L.nd) (by show X.N[j]?=_;rw[L.N];exact mF hj) hv (.inl (L.fn ht _))) hs.1 hs.2 rfl λes k p e1=>by cases e1
    .cases hj
   .exact fS
  .exact fS
 .exact fS
include L in
theorem aBj(ht:C.top=aB)(x:Str)(es:List aJ)(np cp pos:Pos):QS X T E (.Raise (aA (.Call (.Name x np) es [] cp)) aD pos) (iU F (cR C x es)):=by
 unfold cR;split
 ·
   exact fS
 ·
  split
  .rename_i c e hc;split
   .rename_i h;simp only[aY]at h;obtain⟨⟨ho,hg⟩,hs⟩:=h;obtain⟨h1,h2,h3⟩:=L.gf ht;exact U5 L.calm h1 (L.gl hg) (h3 x c (kn hc)) h2 (iJ EF L e).1 hs (jO ho).1
   .exact fS
  ·
   exact fS
theorem aEk{C:Cn}{st:Stmt}{k:Option (Option Nat)}{c:aJ}(L:Lk X T E C F)(ht:C.top=aB)(h:Lr C st=aA (k,c)):sP X c k st:=by
 unfold Lr at h;split at h
 .cases h;exact .ret _
 .cases h;exact .expr _
 .rename_i y _ _ _;obtain⟨j,hj,e⟩:=Option.map_eq_some_iff.mp h;cases e;unfold Cn.slot at hj;split at hj
  .rename_i hl;have hv:oG X.env.scope y:=by rw[L.sc];simp only[Cn.loc,uK,decide_eq_true_eq]at hl;exact hl
   exact .asg j y _ _ (by rw[L.N];exact L.nd) (by rw[L.N];exact mF hj) hv (L.fn ht _)
  .cases hj
 .cases h
include L in
theorem aBa(c:aJ):QC X T c (cc F (cC C c)):=by
 have ha:∀(es:List aJ),es.all bP=aB->∀pn E1,QA (X.kW pn E1).dk T E0 es (fA F (rF (es.map (cE C EF)))):=λes hs pn E1=>tF (f:=cE C EF) hs (iJ EF (L.kW pn E1));unfold cC;split
 .rename_i g es pos;split
  .rename_i hs;split
   .rename_i f fp;split
    .rename_i j hj;split
     .rename_i h;simp only[aY,qG]at h;cases es with
      |nil=>cases h.2|cons e es=>exact E9 (L.fns j f (mF hj)) (L.gl h.1.2) (jO h.1.1).1 hs (ha _ hs)
     .exact mj
    .exact mj
   .exact mj
  .exact mj
 .exact mj
include L ht in
theorem CC:∀(hs:List pB) (r:xQ),vx C hs=aA r->∃ds,sU X T hs ds (tO F r)
 |[],r,h=>by cases h;exact⟨[],.nil⟩
 |d::hs,r,h=>by
  unfold vx at h;split at h
  .rename_i z;cases z
  .rename_i x np nm b₀ suite cx hs' z;cases z;split at h
   .rename_i cs i r' hc hi hr;split at h
    .rename_i ho;cases h;rw[aY]at ho;obtain⟨ds,q⟩:=CC hs r' hr;obtain⟨Dc,hm,hD,hcs⟩:=L.cat x cs hc;refine⟨_,.cons (L.gl ho.2) hm hD (jO ho.1).1 ?_ hcs (λa=>ql (aBe L ht a)) q⟩;cases nm with
     |none=>cases hi;exact .no|some n=>
      have hi:(if decide (C.sc.names.lookup n=aA .local) then(C.N.idxOf? n).map aA else aD)=aA i:=hi;split at hi
      .rename_i hk;obtain⟨i',hi',e'⟩:=Option.map_eq_some_iff.mp hi;cases e';exact .as (by rw[L.N];exact mF hi') (by have:=of_decide_eq_true hk;rw[<- L.sc]at this;exact this)
      .cases hi
    .cases h
   .cases h
  .cases h
include L ht in
theorem aBk(bs:List Stmt)(hs:List pB)(os fs:List Stmt)(pos:Pos):QS X T E (.Try bs hs os fs pos) (iU F (Gk C bs hs os fs)):=by
 unfold Gk;split
 .rename_i st;split
  .rename_i k c h hb hh;split
   .rename_i hz;rw[aY,qG]at hz;obtain⟨ds,q⟩:=CC L ht hs h hh;cases hs with
    |nil=>cases hz.1|cons h₀ hs=>
     cases c with
     |Call=>exact U6 (L.gQ ht) (L.fr ht) (by rw[L.N];exact L.nd) (aBa L _) (aEk L ht hb) rfl rfl q|_=>cases hz.2
   .exact fS
  .exact fS
 .exact fS
include L ht in
theorem aBb(t e:aJ)(rZ:Pos)(hlc:rJ e=aB):QS X T E (.Assign [t] e rZ) (iU F (cL C t e)):=by
 unfold cL;split
 .rename_i y py;split
  .rename_i i hi;split
   .rename_i hsw;rw[aY]at hsw;obtain⟨hsw,aR⟩:=hsw;cases e with
    |ListComp elt gens scope pos=>
     simp only[CZ,aY,qG,decide_eq_true_eq,beq_iff_eq]at hsw;obtain⟨⟨⟨hk,hy⟩,hln⟩,hnm⟩:=hsw;unfold Cn.slot at hi;split at hi
     .have hy':X.env.scope.names.lookup y=aA .local:=by rw[L.sc];exact hy
      have hb:X.env.blockKind = .function:=by
       have:X.env.scope.kind = .function:=by rw[L.sc];exact hk
       unfold Env.blockKind;rw[this];rfl
      have hs2:ax (.ListComp elt gens scope pos) (aA (.Name y py)) rZ.line X.env=pure aB:=by show(pure (X.env.blockKind == .function&&X.env.kindOf y==aA .local&&py.line==pos.line && !(scope.names.any λ(n,k)=>n==y&&(k == .local||k == .cell))):Sem Bool)=pure aB;rw[hb,show X.env.kindOf y=aA .local from hy',hln];have:(scope.names.any λ(n,k)=>n==y&&(k==NameKind.local||k==ag))=aF:=hnm;rw[this];simp
      have hN:X.N.Nodup:=by rw[L.N];exact L.nd
      have hi':X.N[i]?=aA y:=by rw[L.N];exact mF hi
      match gens,aR,hs2 with
      |[⟨t,it,[],0⟩],_,hs2=>
       show QS X T E _ (λσ=>(aN F (if C.rD scope&&bP it then .oM (C.imp scope) (br (C.comp scope) t) (cI C (cE C 39) t it) (cE (C.comp scope) 39 elt) else .bad) σ).bind λv=>(M.ret (σ.set i (aA v))).bind λσ1=>M.ret (.nx σ1));split
       .rename_i hb;rw[aY]at hb;have LY:=λs H a fp=>L.comp hb.1 s H a fp;exact AR (ct:=aD) hN hi' hy' hs2 (L.wb hb.1) L.calm (qa L (iJ 39 L) _ _) (λs H a fp=>Av (LY s H a fp) _) (λc z=>by cases z) (λ_=>rfl) (L.gQ (lK hb.1).2.2.2.2.2) (L.fr (lK hb.1).2.2.2.2.2) (L.rt (lK hb.1).2.2.2.2.2) (λs H a fp xe h=>(iJ 39 (L.lL hb.1 s H a fp xe h) _).1) (by simp[Cn.imp]) (λi j x e1 e2=>L.imp e1 e2) hb.2
       .exact fS
      |[⟨t,it,[c],0⟩],_,hs2=>
       show QS X T E _ (λσ=>(aN F (if C.rD scope&&bP it then .mD (C.imp scope) (br (C.comp scope) t) (cI C (cE C 39) t it) (cE (C.comp scope) 39 c) (cE (C.comp scope) 39 elt) else .bad) σ).bind λv=>(M.ret (σ.set i (aA v))).bind λσ1=>M.ret (.nx σ1));split
       .rename_i hb;rw[aY]at hb;have LY:=λs H a fp=>L.comp hb.1 s H a fp;exact AR (ct:=aA c) hN hi' hy' hs2 (L.wb hb.1) L.calm (qa L (iJ 39 L) _ _) (λs H a fp=>Av (LY s H a fp) _) (λc z s H a fp=>by cases z;exact(iJ 39 (LY s H a fp) _).2) (λz=>by cases z) (L.gQ (lK hb.1).2.2.2.2.2) (L.fr (lK hb.1).2.2.2.2.2) (L.rt (lK hb.1).2.2.2.2.2) (λs H a fp xe h=>(iJ 39 (L.lL hb.1 s H a fp xe h) _).1) (by simp[Cn.imp]) (λi j x e1 e2=>L.imp e1 e2) hb.2
       .exact fS
     .cases hi
    |_=>cases hlc
   .split
    .rename_i hc;have hk:¬X.env.kindOf y=aA .local:=by
      have:¬C.sc.names.lookup y=aA .local:=by simpa using hc
      rw[<- L.sc]at this;exact this
     cases e with
     |ListComp elt gens scope pos=>
      refine T9 (iJ EF L _).1 (Aw L ht 4 _) ?_ rfl rfl;show(pure (X.env.blockKind == .function&&X.env.kindOf y==aA .local&&py.line==pos.line && !(scope.names.any λ(n,k)=>n==y&&(k == .local||k == .cell))):Sem Bool)=pure aF;have:(X.env.kindOf y==aA NameKind.local)=aF:=by simpa using hk
      rw[this];simp
     |_=>cases hlc
    .exact fS
  .exact fS
 .exact fS
include L ht in
theorem aAz(t:aJ)(op:uO)(e:aJ)(pos:Pos):QS X T E (.AugAssign t op e pos) (iU F (Ga C t op e)):=by
 unfold Ga;split
 .rename_i x px;split
  .rename_i i hi;unfold Cn.slot at hi;split at hi
   .rename_i hl;have hv:oG X.env.scope x:=by rw[L.sc];simp only[Cn.loc,uK,decide_eq_true_eq]at hl;exact hl
    split
    .exact AL aF (by rw[L.N];exact L.nd) (by rw[L.N];exact mF hi) hv (.inl (L.fn ht _)) (iJ EF L _).1
    .exact AL aB (by rw[L.N];exact L.nd) (by rw[L.N];exact mF hi) hv (.inl (L.fn ht _)) (iJ EF L _).1
    .exact fS
   .cases hi
  .exact fS
 .exact fS
include L ht in
theorem CG:∀(n:Nat) (s:Stmt),QS X T E s (iU F (cS C n s))
 |0,s=>fS
 |n+1,s=>by
  have ih:=CG n;unfold cS;split
  .exact AN
  .exact U0
  .exact U1
  .unfold Rj;split
   .exact AQ
   .exact AO (iJ EF L _).1
  .split
   .rename_i hs;rw[aY,qG]at hs;exact U2 (iJ EF L _).1 hs.1 hs.2
   .exact fS
  .rename_i ts e rZ;unfold Rg;split
   case h_2=>exact fS
   case h_1 t=>
    unfold Rf;split
    .rename_i hlc;exact aBb L ht t e rZ hlc
    .rename_i hlc;split
     .exact fS
     .rename_i htt;split
      .rename_i hs;rw[aY]at hs;refine AK (iJ EF L _).1 (Aw L ht 4 _) hs.1 (by simpa using hlc) hs.2 λes k p e1 vs k2 p2 e2=>?_;subst e1;subst e2;exact htt rfl
      .exact fS
  .exact aAz L ht _ _ _ _
  .exact U4 (iJ EF L _).2 (ql ih) (ql ih)
  .rename_i els _;split
   .rename_i hs;rw[aY]at hs;cases els with
    |nil=>exact U3 (L.po ht) L.calm (qa L (iJ EF L) _ _) (Aw L ht 4 _) (ql ih) hs.2|cons _ _=>cases hs.1
   .exact fS
  .unfold Ri;split
   .split
    .exact aBj L ht _ _ _ _ _
    .exact fS
   .exact fS
  .exact aBk L ht _ _ _ _ _
  .exact fS
end
abbrev Pg:=Nat->Option (Nat×Nat×bX)
def Yv:Out->M AV
 |.nx _=>M.ret .aK
 |.ret v=>M.ret v
 |_=>M.bad
def run(P:Pg):Nat->Run
 |0,_,_=>M.bad
 |k+1,f,args=>match P f with
  |none=>M.bad
  |some (np,nn,b)=>M.guard (args.length=np) ((iV (run P k) b (args.map aA++cJ (nn-np) aD)).bind Yv)
def PN:Stmt->List Stmt
 |.ClassDef _ _ _ body ..=>body
 |_=>[]
structure Df where
 name:Str
 qual:Str
 st:Stmt
 N:List Str
 ps:List Str
structure Pr where
 defs:List Df
 yD:Nat
 jy:List (Str×AV)
 gP:List Str
 mU:List (Str×Nat):=[]
 cat:List (Str×List (Nat×Bool)):=[]
 eL:List (Str×List (Nat×Bool)):=[]
 gX:List (Str×List (Str×AV)):=[]
 lS:List (Str×List Str):=[]
 jF:List (Str×Nat×Nat):=[]
def SF:Nat:=30
def Pr.cn(p:Pr)(d:Df):Cn:=⟨d.N,oO d.st,(p.defs.take p.yD).map (·.name),p.jy,p.gP,p.mU,p.cat,p.eL,aB
 ,p.gX
 ,p.lS
 ,p.jF.map λx=>(x.1,x.2.1)
 ⟩
def Pr.bodyOf(p:Pr)(d:Df):Nat×Nat×bX:=(d.ps.length,d.N.length,zN ((vJ d.st).map (cS (p.cn d) SF)))
def Pr.ir(p:Pr):Pg:=λi=>(p.defs[i]?).map p.bodyOf
structure Qi(K:aX)(x qual:Str)(st:Stmt)(f:Addr)(fd:eW):Prop where
 ex:∃(oc:Value) (od:Option Addr) (dV kV doc pm:Value) (an:Option Addr) (cdv ct:Value) (osl:Array (Option Value)),
  fd=ib x qual (wk st) (vJ st) (oO st) dV kV doc pm an cdv ct/\K.lookup f=aA ⟨oc,od,.func fd,osl⟩/\Pb K cdv qual=aB
 kp:ic K (.ref f)=aB
structure uy(K:aX)(d:Df)(f:Addr)(fd:eW):Prop where
 fn:Qi K d.name d.qual d.st f fd
 bd:Binds K fd d.ps []
 sc:iy d.N d.ps (oO d.st)
inductive lG(K:aX):List Df->List Addr->List eW->Prop
 |nil:lG K [] [] []
 |cons {d:Df}{a:Addr}{f:eW}{ds:List Df}{as:List Addr}{fs:List eW} (h:uy K d a f) (t:lG K ds as fs):lG K (d::ds) (a::as) (f::fs)
theorem lG.get{K:aX}{ds:List Df}{as:List Addr}{fs:List eW}(h:lG K ds as fs){f0:eW}:∀(i:Nat) d,ds[i]?=aA d->uy K d (as.getD i 0) (fs.getD i f0):=by
 induction h with
 |nil=>intro i d e;simp at e|cons h t ih=>
  intro i d e;cases i with
  |zero=>cases(show aA _=aA d from e);exact h|succ i=>exact ih i d e
theorem aEz{α:Type}{us:List α}(h:us.length=0):us=[]:=zY h
theorem EZ{α:Type}{us:List α}(h:us.length=1):∃a0,us=[a0]:=by obtain⟨a,r,rfl⟩:=Dg h;obtain rfl:=aEz (us:=r) (by simpa using h);exact⟨a,rfl⟩
theorem FA{α:Type}{us:List α}(h:us.length=2):∃a0 a1,us=[a0,a1]:=by obtain⟨a,r,rfl⟩:=Dg h;obtain⟨b0,rfl⟩:=EZ (us:=r) (by simpa using h);exact⟨a,b0,rfl⟩
theorem FC{α:Type}{us:List α}(h:us.length=3):∃a0 a1 a2,us=[a0,a1,a2]:=by obtain⟨a,r,rfl⟩:=Dg h;obtain⟨b0,b1,rfl⟩:=FA (us:=r) (by simpa using h);exact⟨a,b0,b1,rfl⟩
theorem aFa{α:Type}{us:List α}(h:us.length=4):∃a0 a1 a2 a3,us=[a0,a1,a2,a3]:=by obtain⟨a,r,rfl⟩:=Dg h;obtain⟨b0,b1,b2,rfl⟩:=FC (us:=r) (by simpa using h);exact⟨a,b0,b1,b2,rfl⟩
def Il(d:Df):Bool:=match vJ d.st with
 |[.Assign [.Attribute (.Name a _) f _] (.Name b _) _]=>decide (f="line")&&decide (d.N=[a,b])&&decide (d.ps=[a,b])&&jY a&&jY b|_=>aF
structure Fj(P:bG)(w:bD)(p:Pr)(T:Tab)(mg:Str->Option Value)(ad:Nat->Addr)(fds:Nat->eW):Prop where
 df:∀(i:Nat) d,p.defs[i]?=aA d->uy T.K d (ad i) (fds i)
 gn:∀(i:Nat) d,(p.defs.take p.yD)[i]?=aA d->mg d.name=aA (.ref (ad i))
 gv:∀x v,p.jy.lookup x=aA v->∃u v',mg x=aA u/\RelV v' u/\∀ρ H,aT T ρ H v v'
 bl:∀x,p.gP.contains x=aB->mg x=aD
 tab:∀(aE:List (Str×Int)) a,T.G aE a->Qk P w T.K a aE
 gX:∀x aE,p.gX.lookup x=aA aE->∃(a:Addr) (us:List (Str×Value)),mg x=aA (.ref a)/\xS P w T.K a us /\
  (a==kF)=aF/\(∀k,aE.lookup k=aD->iC us k=aD) /\
  ∀k v,aE.lookup k=aA v->∃u v',iC us k=aA u/\RelV v' u/\∀ρ H,aT T ρ H v v'
 lS:∀x ts,p.lS.lookup x=aA ts->∃(a:Addr) (o:Obj) (its:Array Value) (n:Nat),mg x=aA (.ref a)/\T.K.lookup a=aA o/\o.cls = .type "tuple"/\o.dict=aD/\o.data = .seq its n/\its.size<=sizeLine/\Vals (ts.map V.str) its.toList
 mU:∀x c,p.mU.lookup x=aA c->∃(D:Addr) (bmB:List Value) (newId mG Bn:String),mg x=aA (.ref D)/\T.C c=aA D/\c<64/\KN T.K D bmB newId=aB/\zW Bn newId mG bmB
 cat:∀x cs,p.cat.lookup x=aA cs->∃D:Addr,mg x=aA (.ref D)/\L2.clsIn T.K D=aB/\∀c b,cs.lookup c=aA b->∃D':Addr,T.C c=aA D'/\L2.clsIn T.K D'=aB/\(mroOf T.K D').contains (.ref D)=b
 eL:∀y cs,p.eL.lookup y=aA cs->∃(v:V) (d:Value),(∀u,RelV v u->u=d)/\RelV v d/\(mg y=aA d\/(mg y=aD/\pK y=aA d)) /\
  ∀k b,cs.lookup k=aA b->∃D:Addr,T.C k=aA D/\W.uH T.K D=aB/\eO T.K (.ref D) d=aA b
 jF:∀x c i,(x,c,i)∈p.jF->∃(d:Df) (D:Addr) (bmB:List Value) (newId mG Bn:String),p.defs[i]?=aA d/\Il d=aB/\mg x=aA (.ref D)/\T.C c=aA D/\c<64/\wU T.K D (ad i) bmB newId=aB/\zW Bn newId mG bmB/\W.lA T.K D "line"=aB
theorem bB.ofStrs{T:Tab}{ρ:List Addr}{H:Hp}:∀(ts:List Str),bB T ρ H (ts.map AV.str) (ts.map V.str)
 |[]=>.nil
 |_::ts=>.cons (.str _) (bB.ofStrs ts)
theorem DN:∀{ks:List (Str×List Str)}{k:Str}{v:AV},(ks.map λp=>(p.1,AV.tup (p.2.map AV.str))).lookup k=aA v->∃ts,ks.lookup k=aA ts/\v = .tup (ts.map AV.str)
 |[],_,_,h=>by cases h
 | (x,ts)::r,k,v,h=>by
  rw[dS,gR]at h;rw[gR];cases hb:(k==x) with
  |true=>simp only[hb]at h ⊢;cases h;exact⟨ts,rfl,rfl⟩
  |false=>simp only[hb]at h ⊢;exact DN h
theorem aDr{P:bG}{w:bD}{T:Tab}{mg:Str->Option Value}{x:Str}{a:Addr}{o:Obj}{ks:List (Str×List Str)}(m:mg x=aA (.ref a))(l:T.K.lookup a=aA o)(e:JX Al (λ_=>aA o) a (fg o)=aB)
  (n:(ks.map (·.1)).Nodup) (q:JW (λ_=>aA o) a=(fg o).map λp=>(uQ P w).hash p.1) (t:qy T.K (fg o) ks=aB)
  (hs:(a==kF)=aF)
  :
  ∃(a:Addr) (us:List (Str×Value)),mg x=aA (.ref a)/\xS P w T.K a us /\
  (a==kF)=aF/\(∀k,(ks.map λp=>(p.1,AV.tup (p.2.map AV.str))).lookup k=aD->iC us k=aD) /\
  ∀k v,(ks.map λp=>(p.1,AV.tup (p.2.map AV.str))).lookup k=aA v->∃u v',iC us k=aA u/\RelV v' u/\∀ρ H,aT T ρ H v v':=by
 obtain⟨g1,g2⟩:=EL t;refine⟨a,_,m,XJ l e (by rw[g1];exact n) q,hs,λk hk=>?_,λk v hk=>?_⟩
 .unfold iC;rw[List.find?_eq_none.mpr λy hy=>?_]
  .rfl
  .obtain⟨z,hz,rfl⟩:=List.mem_map.mp hy;have h1:z.1∈ks.map (·.1):=g1▸JA hz;obtain⟨u,hu,e⟩:=List.mem_map.mp h1;intro c;have c:z.1=k:=of_decide_eq_true c;exact List.lookup_eq_none_iff.mp hk _ (JA hu) |> λx=>absurd (c.symm.trans e.symm) (by simpa using x)
 obtain⟨ts,h1,rfl⟩:=DN hk;obtain⟨b,ob,vs,nn,z1,z2,z3,z4,z5,z6⟩:=g2 k ts h1;exact⟨_,.ref b,z1,rfl,λρ H=>.tup (.inr ⟨ob,vs,nn,z2,z3,z4,z5,z6⟩) (bB.ofStrs ts)⟩
section
variable {P:bG}{w:bD}{T:Tab}{mg:Str->Option Value}{base:aQ}{p:Pr}{ad:Nat->Addr}{fds:Nat->eW}
theorem aBr{ρ:List Addr}{H:Hp}{args:List AV}{vs:List V}{N:List Str}{n:Nat}(r:bB T ρ H args vs)(hn:N.length=n):cT T ρ H (args.map aA++cJ (n-args.length) aD) (L2.start N vs):=by
 subst hn;unfold L2.start;have hl:=r.length;refine⟨by simp[hl],λi v e=>?_⟩;by_cases hi:i<args.length
 .rw[uL (by simpa using hi),gK]at e;cases q:args[i]? with
  |none=>rw[q]at e;cases e|some a=>rw[q]at e;cases e;obtain⟨y,h1,h2⟩:=r.get q;exact⟨y,by rw[uL (by rw[aV,<- hl];exact hi),gK,h1];rfl,h2⟩
 .rw[IM (by simpa using hi),IS]at e;split at e<;>cases e
theorem Uk{K:aX}{x qual:Str}{st:Stmt}{f:Addr}{fd:eW}{N ps:List Str}{k:Nat}{sp:Sp}(F:Qi K x qual st f fd)(S:iy N ps (oO st))(len:∀vs H Q E,sp vs H Q E->vs.length=ps.length)
  (Hr:∀(cdv:Value) (A:bS) (outer:List Env) (s:aG) (H:Hp) (vs:List V) (Q:VK) (E:XK),fL k (A.deeper (uU qual (oO st) s.heap.objs.size f cdv))->sp vs H Q E ->
   ∃t,oH (pS (dU P w) P w K mg base N qual (oO st) f cdv A outer s H E) (vJ st) t/\t { nx:=λ_ H'=>Q .aK H',rt:=Q } (L2.start N vs) H):iN P w K mg base (dU P w) (k+1) f fd ps sp:=by
 obtain⟨oc,od,dV,kV,doc,pm,an,cdv,ct,osl,rfl,lk,hcd⟩:=F.ex;exact TR lk hcd S len λA outer s H vs Q E hr hsp=>Hr cdv A outer s H vs Q E hr hsp
theorem aJb{K:aX}{d:Df}{f:Addr}{fd:eW}(D:uy K d f fd)(h:Il d=aB):iN P w K mg base (dU P w) 1 f fd d.ps (Kz K "line"):=by
 unfold Il at h;split at h
 .rename_i a p1 g p2 b p3 p4 hb;simp only[aY,decide_eq_true_eq]at h;obtain⟨⟨⟨⟨hf,hN⟩,hps⟩,oa⟩,ob⟩:=h;subst hf;have vis:∀y,y∈[a,b]->xV (oO d.st) y:=λy hy=>(D.sc.par y (by rw[hps];exact hy)).elim .inl λz=>.inr (.inl z);refine Uk (k:=0) D.fn D.sc (λvs H Q E ⟨_,_,_,e,_⟩=>by rw[e,hps];rfl) λcdv A outer s H vs Q E hr hsp=>?_;obtain⟨ad,C,i,rfl,ha,xa,q⟩:=hsp;rw[hb,hN];exact⟨_,lu (D6 (Jt (i:=0) rfl (vis a (.head _)) (jO oa).1 (jO oa).2.1) (Jt (i:=1) rfl (vis b (.tail _ (.head _))) (jO ob).1 (jO ob).2.1) (pz rfl rfl)) lx,
   ⟨.int i,rfl,⟨.ref ad,rfl,ad,C,i,rfl,rfl,ha,xa,λe od h1 h2=>q e od h1 h2⟩⟩⟩
 .cases h
theorem BQ(O:Fj P w p T mg ad fds):∀(k i:Nat) (d:Df),p.defs[i]?=aA d->iN P w T.K mg base (dU P w) (2*k+2) (ad i) (fds i) d.ps (CH T (run p.ir k i))
 |0,i,d,hd=>⟨λvs H Q E ⟨ρ,h,args,_,_,w⟩=>w.elim,λA outer s H args us vs Q E _ _ _ _ ⟨ρ,h,ar,_,_,w⟩=>w.elim⟩
 |k+1,i,d,hd=>by
  have ih:=BQ O k;have D:=O.df i d hd;have hir:p.ir i=aA (p.bodyOf d):=by unfold Pr.ir;rw[hd];rfl
  refine Uk (k:=2*k+3) D.fn D.sc (λvs H Q E h=>?_) (λcdv A outer s H vs Q E hr h=>?_)
  .obtain⟨ρ,h,args,R,r,w⟩:=h;simp only[run,hir,Pr.bodyOf]at w;obtain⟨hl,_⟩:=cv w;rw[<- r.length,hl]
  .obtain⟨ρ,h,args,R,r,wq⟩:=h;simp only[run,hir,Pr.bodyOf]at wq;obtain⟨hl,wq⟩:=cv wq;have L:Lk (pS (dU P w) P w T.K mg base d.N d.qual (oO d.st) (ad i) cdv A outer s H E) T E (p.cn d) (run p.ir k):={
    K:=rfl
    N:=rfl
    sc:=rfl
    nd:=D.sc.nd
    fn:=λ_ _=>rfl
    calm:=rfl
    po:=λ_=>PassesOwn.leaving
    rt:=λ_=>Y9
    gv:=O.gv
    fns:=λj x hx=>by
     have hx':((p.defs.take p.yD).map (·.name))[j]?=aA x:=hx;rw[gK]at hx';cases q:(p.defs.take p.yD)[j]? with
     |none=>rw[q]at hx';cases hx'|some d'=>
      rw[q]at hx';cases hx';have q':p.defs[j]?=aA d':=by
       rw[Dj]at q;split at q
       .exact q
       .cases q
      have D':=O.df j d' q';exact⟨2*k+2,ad j,fds j,d'.ps,ih j d' q',hr,O.gn j d' q,D'.fn.kp,D'.bd,u7⟩
    gP:=O.bl
    tab:=O.tab
    gX:=O.gX
    lS:=O.lS
    un:=hr.units
    mU:=O.mU
    cat:=O.cat
    eL:=O.eL
    ra:=λ_=>X9
    jF:=λx c h=>by obtain⟨y,hy,e⟩:=List.mem_map.mp h;cases e;obtain⟨d',D',bmB,n1,n2,Bn,_,_,h1,h2,_,_,_,h3⟩:=O.jF y.1 y.2.1 y.2.2 hy;exact⟨D',h1,h2,h3⟩
    gf:=λ_=>⟨rfl,X8,λx c h=>by obtain⟨y,hy,e⟩:=List.mem_map.mp h;cases e;obtain⟨d',D',bmB,n1,n2,Bn,hd',hx,h1,h2,hl,h4,h5,h3⟩:=O.jF y.1 y.2.1 y.2.2 hy;exact⟨D',ad y.2.2,bmB,n1,n2,Bn,1,fds y.2.2,d'.ps,h1,h2,hl,h4,h5,h3,aJb (O.df _ d' hd') hx,hr.mono (Nat.le_add_left 2 _),(O.df _ d' hd').bd⟩⟩
    gQ:=λ_=>rfl
    fr:=λ_=>rfl }
   obtain⟨t,ps,rs⟩:=ql (ss:=vJ d.st) (f:=cS (p.cn d) SF) (CG L rfl SF);refine⟨t,ps,rs ρ _ (L2.start d.N vs) h H _ R ?_ (W.bind wq λρ1 o o' h1 H1 e1 R1 q1 w1=>?_)⟩
   .rw[<- hl];exact aBr r rfl
   .cases o with
    |nx σ=>cases o' with
     |nx σ'=>exact(W.here (Q:=Q) (Rp:=aT T) (a:=AV.aK) (b:=V.aK) w1 R1 aT.aK:Q V.aK H1)|_=>exact q1.elim
    |ret v=>cases o' with
     |ret v'=>exact(W.here (Q:=Q) (Rp:=aT T) (a:=v) (b:=v') w1 R1 q1:Q v' H1)|_=>exact q1.elim
    |brk σ=>exact w1.elim|cnt σ=>exact w1.elim
def Ay(K:aX):Sp:=λvs H Q _=>∃(a:Addr) (ns:List Int),vs=[.ref a]/\sQ K H a (ns.map V.int)/\ns.length<=63/\∀H',Q (.bl aB) H'
def h0(ns:List Int):AH:=⟨1,λm=>if m=0 then aA (.lst aF (ns.map AV.int)) else aD⟩
def Keeps(P:Pg)(k i:Nat):Prop:=∀ns:List Int,ns.length<=63->∃h',run P k i [.ref 0] (h0 ns) = .ok (.bl aB) h'
theorem UP{H:Hp}{a:Addr}{ns:List Int}(h:sQ T.K H a (ns.map V.int)):bL T [a] (h0 ns) H:=by
 have z:∀{n:Nat}{o:gN},(h0 ns).ob n=aA o->n=0/\o = .lst aF (ns.map AV.int):=λ{n o} e=>by
  have e':(if n=0 then aA (gN.lst aF (ns.map AV.int)) else aD)=aA o:=e;by_cases hn:n=0
  .rw[if_pos hn]at e';exact⟨hn,(dB e').symm⟩
  .rw[if_neg hn]at e';cases e'
 refine⟨rfl,λn o e=>?_,λn o b e q=>?_,λn m b o u e1 e2 m1 m2 _ _=>?_⟩
 .rw[(z e).1];exact JT
 .obtain⟨rfl,rfl⟩:=z e;cases q;exact⟨_,h,bB.ints ns⟩
 .rw[(z e1).1,(z e2).1]
theorem XU(O:Fj P w p T mg ad fds){k i:Nat}{d:Df}(hd:p.defs[i]?=aA d)(h:Keeps p.ir k i):iN P w T.K mg base (dU P w) (2*k+2) (ad i) (fds i) d.ps (Ay T.K):=by refine(BQ O k i d hd).imp λvs H Q E ⟨a,ns,e,hf,hl,q⟩=>?_;subst e;obtain⟨h',e⟩:=h ns hl;refine⟨[a],h0 ns,[.ref 0],UP hf,.cons (.ref rfl) .nil,?_⟩;rw[e];intro ρ' b H' _ _ r;cases r;exact q H'
theorem UB{K:aX}{H:Hp}{a:Addr}{xs:List V}(ho:vg H)(h:cW K H a xs):sQ K H a xs:=by
 rcases h with(h|h)|h
 .rcases ho a with z|⟨o,ys,z⟩
  .rw[h]at z;cases z
  .rw[h]at z;cases z
 .exact .inl h
 .exact .inr h
end
theorem walk{l:Pa}{q:bG}{loose:List Str}{XP:(Str->Option Value)->aQ->Prop}{YP:bD->aQ->Prop}{d:DefRec}{K:dD->aX}{k:Nat}{x:Str}(hn:l.most=aA 63)(hdf:d.params.defaults=[])(hr:fL k xI)
  (hY:∀(w:bD) (h:aQ),YP w h->(K w.params).In h)
  (F:∀(w:bD) (mg:Str->Option Value) (fa:Addr) (h:aQ),(K w.params).In h->h.Ns eJ mg->mg d.name=aA (.ref fa) ->
   ∃fd:eW,(∀(s:aG) (u:Value),gg s fd ⟨[u],[]⟩ [(x,u)])/\∀base:aQ,(K w.params).In base->base.Ns eJ mg->iN l.prog w (K w.params) mg base (dU l.prog w) k fa fd [x] (Ay (K w.params))) :
  KI q loose XP YP l.row.toRowW d [] (λf vs=>Pf f vs):=
 L2.aFl (n:=63) (k:=k) (x:=x) (CX:=λw=>dU l.prog w) (sp:=λw=>Ay (K w.params)) hn (by decide) hdf hr hY F (λ_ _ a ns hl ho hS=>⟨a,ns,rfl,UB ho hS,hl,λ_=>rfl⟩) λ_ _ _ _ _ z=>wg z
def We{α:Type}(Xc:Nat->AH->Prop)(m:M α)(h:AH)(Q:α->AH->Prop):Prop:=match m h with
 |.ok a h'=>Q a h'
 |.exc c _ h'=>Xc c h'
 |.bad=>False
abbrev Wp{α:Type}(m:M α)(h:AH)(Q:α->AH->Prop):Prop:=We (λ_ _=>False) m h Q
variable {Xc:Nat->AH->Prop}
section
variable {α β:Type}{m:M α}{k:α->M β}{h h':AH}{Q:α->AH->Prop}{Q2:β->AH->Prop}{F:Run}{σ:aH}
theorem bA(w:We Xc m h λa h1=>We Xc (k a) h1 Q2):We Xc (M.bind m k) h Q2:=by
 unfold We at w ⊢;unfold M.bind;cases e:m h with
 |ok a h1=>rw[e]at w;exact w|exc c x h1=>rw[e]at w;exact w|bad=>rw[e]at w;exact w.elim
theorem We.mono{Q':α->AH->Prop}(w:We Xc m h Q)(f:∀a h1,Q a h1->Q' a h1):We Xc m h Q':=by
 unfold We at w ⊢;cases e:m h with
 |ok a h1=>rw[e]at w;exact f a h1 w|exc c x h1=>rw[e]at w;exact w|bad=>rw[e]at w;exact w.elim
theorem We.eq{a:α}(e:m h = .ok a h')(q:Q a h'):We Xc m h Q:=by unfold We;rw[e];exact q
theorem We.ex(w:We (λ_ _=>False) m h Q):∃a h',m h = .ok a h'/\Q a h':=by
 unfold We at w;cases e:m h with
 |ok a h1=>rw[e]at w;exact⟨a,h1,rfl,w⟩|exc c x h1=>rw[e]at w;exact w.elim|bad=>rw[e]at w;exact w.elim
theorem gb{p:Prop} [Decidable p] (hp:p)(w:We Xc m h Q):We Xc (M.guard p m) h Q:=by unfold We at w ⊢;unfold M.guard;rw[if_pos hp];exact w
variable {V1:AV->AH->Prop}{B1:Bool->AH->Prop}{L1:List AV->AH->Prop}
theorem gZ{i:Nat}{v:AV}(e:σ[i]?=aA (aA v))(q:V1 v h):We Xc (aN F (.var i) σ) h V1:=by show We Xc (yK i σ) h V1;unfold We yK;rw[e];exact q
theorem aHt{o:Op}{a b:Ex}(w:We Xc (aN F a σ) h λx h1=>We Xc (aN F b σ) h1 λy h2=>We Xc (o.g x y) h2 V1):We Xc (aN F (.op o a b) σ) h V1:=bA (w.mono λ_ _ z=>bA z)
theorem aHm{o:Cp}{a b:Ex}(w:We Xc (aN F a σ) h λx h1=>We Xc (aN F b σ) h1 λy h2=>We Xc (o.g x y) h2 V1):We Xc (aN F (.cmp o a b) σ) h V1:=bA (w.mono λ_ _ z=>bA z)
theorem aHq{a:Ex}(w:We Xc (aN F a σ) h λx h1=>We Xc (jv x) h1 V1):We Xc (aN F (.neg a) σ) h V1:=bA w
theorem aHs{a:Ex}(w:We Xc (aN F a σ) h λx h1=>We Xc (cV x) h1 λb h2=>V1 (.bl (!b)) h2):We Xc (aN F (.not a) σ) h V1:=bA (w.mono λ_ _ z=>bA z)
theorem aHj{a b:Ex}(w:We Xc (aN F a σ) h λx h1=>We Xc (cV x) h1 λt h2=>if t=aB then We Xc (aN F b σ) h2 V1 else V1 x h2):We Xc (aN F (.and a b) σ) h V1:=
 bA (w.mono λx _ z=>bA (z.mono λt _ y=>by
  cases t with
  |true=>exact y|false=>exact y))
theorem aHu{a b:Ex}(w:We Xc (aN F a σ) h λx h1=>We Xc (cV x) h1 λt h2=>if t=aB then V1 x h2 else We Xc (aN F b σ) h2 V1):We Xc (aN F (.or a b) σ) h V1:=
 bA (w.mono λx _ z=>bA (z.mono λt _ y=>by
  cases t with
  |true=>exact y|false=>exact y))
theorem aHn{c a b:Ex}(w:We Xc (dQ F c σ) h λt h1=>if t=aB then We Xc (aN F a σ) h1 V1 else We Xc (aN F b σ) h1 V1):We Xc (aN F (.ite c a b) σ) h V1:=bA (w.mono λt _ y=>by
 cases t with
 |true=>exact y|false=>exact y)
theorem GC{o o':Cp}{a b c:Ex}(w:We Xc (aN F a σ) h λx h1=>We Xc (aN F b σ) h1 λy h2=>We Xc (o.g x y) h2 λz h3=>∃t,z = .bl t/\if t=aB then We Xc (aN F c σ) h3 λu h4=>We Xc (o'.g y u) h4 V1 else V1 (.bl aF) h3) :
 We Xc (aN F (.chain o o' a b c) σ) h V1:=bA (w.mono λx _ z=>bA (z.mono λy _ z=>bA (z.mono λu h3 ⟨t,e,q⟩=>by
 subst e;cases t with
 |true=>exact bA (h:=h3) q|false=>exact q)))
theorem aHz{es:gO}(w:We Xc (fA F es σ) h λxs h1=>xs.length<=sizeLine/\V1 (.tup xs) h1):We Xc (aN F (.tup es) σ) h V1:=bA (w.mono λxs _ z=>gb z.1 z.2)
theorem aHp{es:gO}(w:We Xc (fA F es σ) h λxs h1=>xs.length<=sizeLine/\V1 (.ref h1.nx) (h1.new (.lst aB xs))):We Xc (aN F (.lst es) σ) h V1:=bA (w.mono λxs _ z=>gb z.1 z.2)
theorem aHy{a lo hi:Ex}(w:We Xc (aN F a σ) h λx h1=>We Xc (nM lo (aN F lo σ)) h1 λl h2=>We Xc (nM hi (aN F hi σ)) h2 λu h3=>We Xc (lO x l u) h3 V1):We Xc (aN F (.slice a lo hi) σ) h V1:=
 bA (w.mono λ_ _ z=>bA (z.mono λ_ _ z=>bA z))
theorem GB{f:Nat}{es:gO}(w:We Xc (fA F es σ) h λxs h1=>We Xc (F f xs) h1 V1):We Xc (aN F (.call f es) σ) h V1:=bA w
theorem aHl{f:Bi}{es:gO}(w:We Xc (fA F es σ) h λxs h1=>We Xc (f.g xs) h1 V1):We Xc (aN F (.bi f es) σ) h V1:=bA w
theorem GF{t:BT}{a:Ex}(w:We Xc (aN F a σ) h λx h1=>We Xc (yE t x) h1 V1):We Xc (aN F (.fE t a) σ) h V1:=bA w
theorem aHo{o a:Ex}(w:We Xc (aN F o σ) h λx h1=>iX h1 x=aB/\We Xc (aN F a σ) h1 λy h2=>We Xc (vL x y) h2 V1):We Xc (aN F (.yR o a) σ) h V1:=bA (w.mono λx h1 ⟨z1,z2⟩=>by unfold We;simp only[if_pos z1];exact bA z2)
theorem aHk{o a:Ex}(w:We Xc (aN F o σ) h λx h1=>iX h1 x=aB/\We Xc (aN F a σ) h1 λy h2=>We Xc (kP x y) h2 V1):We Xc (aN F (.app o a) σ) h V1:=bA (w.mono λx h1 ⟨z1,z2⟩=>by unfold We;simp only[if_pos z1];exact bA z2)
theorem GG(q:L1 [] h):We Xc (fA F .nil σ) h L1:=q
theorem Cc{e:Ex}{es:gO}(w:We Xc (aN F e σ) h λx h1=>We Xc (fA F es σ) h1 λxs h2=>L1 (x::xs) h2):We Xc (fA F (.cons e es) σ) h L1:=bA (w.mono λ_ _ z=>bA z)
theorem aIp{o:Cp}{a b:Ex}(w:We Xc (aN F a σ) h λx h1=>We Xc (aN F b σ) h1 λy h2=>We Xc (o.g x y) h2 λz h3=>∃t,z = .bl t/\B1 t h3):We Xc (dQ F (.cmp o a b) σ) h B1:=
 bA (bA (w.mono λ_ _ z=>bA (z.mono λ_ _ z=>z.mono λu h3 ⟨t,e,q⟩=>by subst e;exact q)))
theorem aIo{o o':Cp}{a b c:Ex}(w:We Xc (aN F (.chain o o' a b c) σ) h λz h3=>∃t,z = .bl t/\B1 t h3):We Xc (dQ F (.chain o o' a b c) σ) h B1:=
 bA (w.mono λu h3 ⟨t,e,q⟩=>by subst e;exact q)
theorem aIr{a:Ex}(w:We Xc (dQ F a σ) h λt h1=>B1 (!t) h1):We Xc (dQ F (.not a) σ) h B1:=bA w
theorem aIm{a b:Ex}(w:We Xc (dQ F a σ) h λt h1=>if t=aB then We Xc (dQ F b σ) h1 B1 else B1 aF h1):We Xc (dQ F (.and a b) σ) h B1:=bA (w.mono λt _ y=>by
 cases t with
 |true=>exact y|false=>exact y)
theorem aIs{a b:Ex}(w:We Xc (dQ F a σ) h λt h1=>if t=aB then B1 aB h1 else We Xc (dQ F b σ) h1 B1):We Xc (dQ F (.or a b) σ) h B1:=bA (w.mono λt _ y=>by
 cases t with
 |true=>exact y|false=>exact y)
theorem aIt{i:Nat}(w:We Xc (aN F (.var i) σ) h λx h1=>We Xc (cV x) h1 B1):We Xc (dQ F (.var i) σ) h B1:=bA w
theorem aIn{f:Nat}{es:gO}(w:We Xc (aN F (.call f es) σ) h λx h1=>We Xc (cV x) h1 B1):We Xc (dQ F (.call f es) σ) h B1:=bA w
theorem aIq{t:BT}{a:Ex}(w:We Xc (aN F (.fE t a) σ) h λx h1=>We Xc (cV x) h1 B1):We Xc (dQ F (.fE t a) σ) h B1:=bA w
theorem aFr{i j:Int}(q:V1 (.int (i+j)) h):We Xc (Op.g .add (.int i) (.int j)) h V1:=q
theorem aGv{i j:Int}(q:V1 (.int (i-j)) h):We Xc (Op.g .sub (.int i) (.int j)) h V1:=q
theorem Bx{p:Int->Int->Bool}{f:Int->Int->Int}{i j:Int}(hp:p i j=aB)(q:V1 (.int (f i j)) h):We Xc (lN p f (.int i) (.int j)) h V1:=by unfold We lN;simp only[if_pos hp];exact q
theorem aGn{i j:Int}(hp:rL i j=aB)(q:V1 (.int (i*j)) h):We Xc (Op.g .mul (.int i) (.int j)) h V1:=Bx hp q
theorem aFz{i j:Int}(hp:tD j=aB)(q:V1 (.int (i / j)) h):We Xc (Op.g .fdiv (.int i) (.int j)) h V1:=Bx (p:=λ_ j=>tD j) hp q
theorem aGm{i j:Int}(hp:0<j)(q:V1 (.int (i%j)) h):We Xc (Op.g .mod (.int i) (.int j)) h V1:=Bx (p:=λ_ j=>decide (0<j)) (decide_eq_true hp) q
theorem FV{i j:Int}(hp:lq i j=aB)(q:V1 (.int (i ^ j.toNat)) h):We Xc (Op.g .pow (.int i) (.int j)) h V1:=Bx (f:=λi j=>i ^ j.toNat) hp q
theorem aGl{i j:Int}(q:V1 (.bl (decide (i<j))) h):We Xc (Cp.g .lt (.int i) (.int j)) h V1:=q
theorem aGj{i j:Int}(q:V1 (.bl (decide (i<=j))) h):We Xc (Cp.g .le (.int i) (.int j)) h V1:=q
theorem aGb{i j:Int}(q:V1 (.bl (decide (j<i))) h):We Xc (Cp.g .gt (.int i) (.int j)) h V1:=q
theorem aGa{i j:Int}(q:V1 (.bl (decide (j<=i))) h):We Xc (Cp.g .ge (.int i) (.int j)) h V1:=q
theorem aFw{i j:Int}(q:V1 (.bl (decide (i=j))) h):We Xc (Cp.g .eq (.int i) (.int j)) h V1:=q
theorem aGq{i j:Int}(q:V1 (.bl (!decide (i=j))) h):We Xc (Cp.g .ne (.int i) (.int j)) h V1:=q
theorem aFx{i j:Str}(q:V1 (.bl (decide (i=j))) h):We Xc (Cp.g .eq (.str i) (.str j)) h V1:=q
theorem aGr{i j:Str}(q:V1 (.bl (!decide (i=j))) h):We Xc (Cp.g .ne (.str i) (.str j)) h V1:=q
theorem aGo{x y:AV}{b:Bool}(e:tE x y=aA b)(q:V1 (.bl (!b)) h):We Xc (Cp.g .ne x y) h V1:=by show We Xc (tK x y) h V1;unfold We tK;rw[e];exact q
theorem aGf{x:AV}(q:V1 (.bl (fV x)) h):We Xc (Cp.g .nI x .aK) h V1:=q
theorem aGg{x:AV}(q:V1 (.bl (!fV x)) h):We Xc (Cp.g .isn x .aK) h V1:=q
theorem Kw{x:AV}{xs:List AV}(e:eD h x=aA xs):fG h x=aD:=by
 cases x with
 |ref n=>
  simp only[eD]at e;simp only[fG];cases o:h.ob n with
  |none=>rfl|some u=>
   rw[o]at e;cases u with
   |lst m ys=>rfl|_=>cases e
 |_=>rfl
theorem Me{x y:AV}{xs:List AV}(e:eD h y=aA xs)(f:(eR x&&xs.all eR)=aB)(q:V1 (.bl (jN x xs)) h):We Xc (Cp.g .oU x y) h V1:=by show We Xc (jM aF x y) h V1;have ed:fG h y=aD:=Kw e;unfold We jM;simp only[ed];unfold pU;rw[e];simp only[if_pos f];exact q
theorem aGs{x y:AV}{xs:List AV}(e:eD h y=aA xs)(f:(eR x&&xs.all eR)=aB)(q:V1 (.bl (!jN x xs)) h):We Xc (Cp.g .nin x y) h V1:=by show We Xc (jM aB x y) h V1;have ed:fG h y=aD:=Kw e;unfold We jM;simp only[ed];unfold pU;rw[e];simp only[if_pos f];exact q
theorem iL{x v:AV}{i:Int}{xs:List AV}(e:eD h x=aA xs)(e2:eP xs i=aA v)(q:V1 v h):We Xc (Op.g .ix x (.int i)) h V1:=by
 show We Xc (tJ x (.int i)) h V1;have ed:fG h x=aD:=Kw e;unfold We tJ;simp only[ed];unfold Hj;unfold yF;cases x with
 |str z=>cases e|aK=>cases e|bl _=>cases e|int _=>cases e|pV _=>cases e|tup ys=>simp only[e,qR,e2];exact q|ref n=>simp only[e,qR,e2];exact q
theorem aGh{cs:List (Nat×Bool)}{n c:Nat}{b:Bool}(e:h.ob n=aA (.xo c))(l:cs.lookup (c%64)=aA b)(q:V1 (.bl b) h):We Xc (tH cs (.ref n)) h V1:=by unfold We tH;simp only[e,l];exact q
theorem aHa{cs:List Nat}{n c:Nat}(e:h.ob n=aA (.xo c))(l:(cs.contains (c%64)&&decide (c / 64≠0))=aB)(q:V1 (.int (c / 64-1:Nat)) h):We Xc (vN cs (.ref n)) h V1:=by unfold We vN;simp only[e,if_pos l];exact q
theorem FQ{t s:BT}{x:AV}(e:rA h x=aA s)(q:V1 (.bl (s.sub t)) h):We Xc (yE t x) h V1:=by unfold We yE;rw[e];exact q
theorem zS{x:AV}{xs:List AV}(e:eD h x=aA xs)(q:V1 (.int xs.length) h):We Xc (Bi.g .len [x]) h V1:=by
 show We Xc (yH [x]) h V1;unfold We yH;cases x with
 |str z=>cases e|aK=>cases e|bl _=>cases e|int _=>cases e|pV _=>cases e|tup ys=>simp only[e];exact q|ref n=>simp only[e];exact q
theorem FZ{x:AV}{xs:List AV}(e:eD h x=aA xs)(q:V1 (.tup xs) h):We Xc (Bi.g .tuple [x]) h V1:=by show We Xc (xn [x]) h V1;unfold We xn yT;simp only[qR,e];exact q
theorem wR{n:Nat}{v:AV}{xs:List AV}(e:h.ob n=aA (.lst aB xs))(hz:xs.length<sizeLine)(q:V1 .aK (h.put n (.lst aB (xs++[v])))):We Xc (kP (.ref n) v) h V1:=by unfold We kP;simp only[e,if_pos hz];exact q
theorem Bw{n k:Nat}{xs ys:List AV}(e:h.ob n=aA (.lst aB xs))(e2:h.ob k=aA (.lst aB ys))(hz:xs.length+ys.length<=sizeLine)(q:V1 (.ref h.nx) (h.new (.lst aB (xs++ys)))):We Xc (Op.g .add (.ref n) (.ref k)) h V1:=by show We Xc (lM (.ref n) (.ref k)) h V1;unfold We lM;simp only[e,e2,if_pos hz];exact q
theorem FW{n:Nat}{b:Bool}{lo hi:Option Int}{xs:List AV}(e:h.ob n=aA (.lst b xs))(q:V1 (.ref h.nx) (h.new (.lst aB (jU xs lo hi)))):We Xc (lO (.ref n) lo hi) h V1:=by unfold We lO;simp only[e];exact q
variable {P1:Option Int->AH->Prop}
theorem aHv{e:Ex}(he:∀m,nM e m=m.bind jw)(w:We Xc (aN F e σ) h λx h1=>∃i,x = .int i/\P1 (aA i) h1):We Xc (nM e (aN F e σ)) h P1:=by rw[he];exact bA (w.mono λx h1 ⟨i,e,q⟩=>by subst e;exact q)
end
def Wt(Xc:Nat->AH->Prop)(m:M Out)(h:AH)(N:aH->AH->Prop)(R:AV->AH->Prop)(B C:aH->AH->Prop):Prop:=We Xc m h λo h1=>match o with
 |.nx σ=>N σ h1
 |.ret v=>R v h1
 |.brk σ=>B σ h1
 |.cnt σ=>C σ h1
abbrev Ws(m:M Out)(h:AH)(N:aH->AH->Prop)(R:AV->AH->Prop)(B C:aH->AH->Prop):Prop:=Wt (λ_ _=>False) m h N R B C
section
variable {F:Run}{σ:aH}{h:AH}{N B C:aH->AH->Prop}{R:AV->AH->Prop}
theorem aIe{s:Sx}{ss:bX}(w:Wt Xc (iU F s σ) h (λσ1 h1=>Wt Xc (iV F ss σ1) h1 N R B C) R B C):Wt Xc (iV F (.cons s ss) σ) h N R B C:=
 bA (We.mono w λo h1 z=>by
  cases o with
  |nx σ1=>exact z|ret v=>exact z|brk σ1=>exact z|cnt σ1=>exact z)
theorem aIk{e:Ex}(w:We Xc (aN F e σ) h R):Wt Xc (iU F (.ret e) σ) h N R B C:=bA w
theorem aIf{e:Ex}(w:We Xc (aN F e σ) h λ_ h1=>N σ h1):Wt Xc (iU F (.expr e) σ) h N R B C:=bA w
theorem aIb{t:Tg}{e:Ex}(w:We Xc (aN F e σ) h λv h1=>We Xc (nB F t v σ) h1 N):Wt Xc (iU F (.asg t e) σ) h N R B C:=bA (w.mono λ_ _ z=>bA z)
theorem aFk{n:Nat}{ts:vC}{v:AV}{xs:List AV}{Q:aH->AH->Prop}(e:eD h v=aA xs)(hl:xs.length=n)(w:We Xc (vD F ts xs σ) h Q):We Xc (nB F (.tup n ts) v σ) h Q:=by show We Xc (tL n (vD F ts) v σ) h Q;unfold We tL;simp only[e,if_pos hl];exact w
theorem aFh{t:Tg}{ts:vC}{v:AV}{vs:List AV}{Q:aH->AH->Prop}(w:We Xc (nB F t v σ) h λσ1 h1=>We Xc (vD F ts vs σ1) h1 Q):We Xc (vD F (.cons t ts) (v::vs) σ) h Q:=bA w
theorem aIi{c:Ex}{a b:bX}(w:We Xc (dQ F c σ) h λt h1=>if t=aB then Wt Xc (iV F a σ) h1 N R B C else Wt Xc (iV F b σ) h1 N R B C):Wt Xc (iU F (.ite c a b) σ) h N R B C:=bA (w.mono λt _ y=>by
 cases t with
 |true=>exact y|false=>exact y)
theorem ck{it:fR}{g:AV->aH->M aH}{body:aH->M Out}(I:Nat->aH->AH->Prop)(n:Nat)
  (turn:∀i σ h,i<n->I i σ h->∃v,it i h=aA (aA v)/\We Xc (g v σ) h λσ1 h1=>Wt Xc (body σ1) h1 (I (i+1)) R N (I (i+1)))
  (done:∀σ h,I n σ h->it n h=aA aD/\N σ h):∀(f i:Nat) (σ:aH) (h:AH),i<=n->n-i<f->I i σ h->Wt Xc (kN it g body f i σ) h N R B C
 |0,i,σ,h,hi,hf,_=>by omega
 |f+1,i,σ,h,hi,hf,hI=>by
  have ih:=ck I n turn done f;by_cases hn:i<n
  .obtain⟨v,e,w⟩:=turn i σ h hn hI;unfold Wt We kN;simp only[e];refine bA (w.mono λσ1 h1 w1=>bA (We.mono w1 λo h2 z=>?_));cases o with
   |nx σ2=>exact ih (i+1) σ2 h2 hn (by omega) z|cnt σ2=>exact ih (i+1) σ2 h2 hn (by omega) z|brk σ2=>exact z|ret v=>exact z
  .have e0:i=n:=by omega
   subst e0;obtain⟨e,q⟩:=done σ h hI;unfold Wt We kN;simp only[e];exact q
theorem gc{c:Nat}{e:Ex}(w:We Xc (aN F e σ) h λv h1=>∃n:Nat,v = .int n/\Xc (c+64*(n+1)) h1):Wt Xc (iU F (.zI c e) σ) h N R B C:=bA (w.mono λv h1 ⟨n,e,z⟩=>by subst e;unfold We;dsimp only;rw[if_pos (HY n),gm];exact z)
theorem aIl{k:Option (Option Nat)}{c:Ex}{hs:xQ}
  (w:We (λcl h2=>Wt Xc (tO F hs σ cl) h2 N R B C) (cc F c σ) h λv h2=>match kx k σ v with
   |.nx σ=>N σ h2
   |.ret v=>R v h2
   |.brk σ=>B σ h2
   |.cnt σ=>C σ h2):Wt Xc (iU F (.Bs k c hs) σ) h N R B C:=by
 show We Xc (qv (cc F c σ) (kx k σ) (tO F hs σ)) h _;unfold We qv;unfold We at w;cases g:cc F c σ h with
 |ok v h2=>rw[g]at w;exact w|bad=>rw[g]at w;exact w.elim|exc c x h2=>rw[g]at w;exact w
theorem aIj{cs:List (Nat×Bool)}{c:Nat}{a b:M Out}(l:cs.lookup (c%64)=aA aB)(w:Wt Xc a h N R B C):Wt Xc (lj cs c a b) h N R B C:=by unfold lj;rw[l];exact w
theorem aIh{cs:List (Nat×Bool)}{c:Nat}{i:Option Nat}{b:bX}{r:xQ}(l:cs.lookup (c%64)=aA aB)(w:Wt Xc (cw i (iV F b) σ c) h N R B C):Wt Xc (tO F (.cons cs i b r) σ c) h N R B C:=aIj l w
theorem aHr{α:Type}{m:M α}{Q:α->AH->Prop}(w:Wp m h Q):We Xc (fH m) h Q:=by obtain⟨xs,h1,e,w⟩:=We.ex w;exact We.eq (by unfold fH;rw[e]) w
theorem aFm{f:Nat}{es:gO}{V1:AV->AH->Prop}(w:Wp (fA F es σ) h λxs h1=>We Xc (F f xs) h1 V1):We Xc (cc F (.call f es) σ) h V1:=bA (aHr w)
theorem aIg{i c:Nat}{ms:bX}(w:Ws (iV F ms (σ.set i (aA (.ref h.nx)))) (h.new (.xo c)) (λσ h=>N (σ.set i aD) h) R (λσ h=>B (σ.set i aD) h) (λσ h=>C (σ.set i aD) h)):Wt Xc (cw (aA i) (iV F ms) σ c) h N R B C:=by
 unfold Wt cw;obtain⟨o,h1,e,q⟩:=We.ex w;show We Xc ((fH (iV F ms (σ.set i (aA (.ref h.nx))))).bind λo=>M.ret (o.drop i)) (h.new (.xo c)) _;refine bA (We.eq (show fH _ _ = .ok o h1 by unfold fH;rw[e]) ?_);cases o with
 |nx σ1=>exact q|ret v=>exact q|brk σ1=>exact q|cnt σ1=>exact q
theorem mT{t:Tg}{it:Ir}{b:bX}(w:We Xc (cO F it σ) h λi h1=>Wt Xc (kN i (nB F t) (iV F b) FU 0 σ) h1 N R B C):Wt Xc (iU F (.jW t it b) σ) h N R B C:=bA w
variable {Q:fR->AH->Prop}
theorem Cb{e:Ex}(w:We Xc (aN F e σ) h λx h1=>We Xc (tI x) h1 Q):We Xc (cO F (.seq e) σ) h Q:=bA w
theorem aHb{es:gO}(w:We Xc (fA F es σ) h λxs h1=>∃j,xs=[.int j]/\wF j=aB/\Q (qD 0 j.toNat) h1):We Xc (cO F (.wD es) σ) h Q:=bA (w.mono λxs h1 ⟨j,e,r,q⟩=>by subst e;unfold We xl;simp only[if_pos r];exact q)
theorem fz{e:Ex}(w:We Xc (aN F e σ) h λx h1=>∃n b xs,x = .ref n/\h1.ob n=aA (.lst b xs)/\Q (rE (gU n)) h1):We Xc (cO F (.enum e) σ) h Q:=bA (w.mono λx h1 ⟨n,b,xs,e,r,q⟩=>by subst e;unfold We xj;simp only[r];exact q)
theorem GA{es:gO}(w:We Xc (fA F es σ) h λxs h1=>∃x y it jt,xs=[x,y]/\nF x h1 = .ok it h1/\nF y h1 = .ok jt h1/\Q (uI it jt) h1):We Xc (cO F (.zip es) σ) h Q:=bA (w.mono λxs h1 ⟨x,y,it,jt,e,e1,e2,q⟩=>by subst e;unfold We xp;simp only[e1,e2];exact q)
theorem aHd{z:Str}(q:Q (jS ((oY z).map AV.str)) h):We Xc (tI (.str z)) h Q:=q
theorem aHe{xs:List AV}(q:Q (jS xs) h):We Xc (tI (.tup xs)) h Q:=q
theorem mS{n:Nat}{b:Bool}{xs:List AV}(e:h.ob n=aA (.lst b xs))(q:Q (gU n) h):We Xc (tI (.ref n)) h Q:=by unfold We tI nF;simp only[e];exact q
theorem aHw{P:Pg}{k f np nn:Nat}{b:bX}{args:List AV}(e:P f=aA (np,nn,b))(hl:args.length=np)(w:Wt Xc (iV (run P k) b (args.map aA++cJ (nn-np) aD)) h (λ_ h1=>R .aK h1) R (λ_ _=>False) (λ_ _=>False)):We Xc (run P (k+1) f args) h R:=by
 show We Xc (match P f with
  |none=>M.bad
  |some (np,nn,b)=>M.guard (args.length=np) ((iV (run P k) b (args.map aA++cJ (nn-np) aD)).bind Yv)) h R
 rw[e];refine gb hl (bA (We.mono w λo h1 z=>?_));cases o with
 |nx σ=>exact z|ret v=>exact z|brk σ=>exact z.elim|cnt σ=>exact z.elim
end
theorem Keeps.of{P:Pg}{k i:Nat}(h:∀ns:List Int,ns.length<=63->Wp (run P k i [.ref 0]) (h0 ns) λv _=>v = .bl aB):Keeps P k i:=λns hl=>by obtain⟨a,h',e,q⟩:=(h ns hl).ex;subst q;exact⟨h',e⟩
end AM
namespace AM
open PySem PySem.Spec PyProof.Rows L2
theorem Jc{i j:Int}(h1:-18446744073709551616<i)(h2:i<18446744073709551616):rL i j=aB:=by
 have e:(18446744073709551616:Nat)=2 ^ 64:=by decide
 simp only[rL,uK,aY,decide_eq_true_eq];exact .inl (.inl (by omega))
theorem ZF{i j:Int}(h1:-18446744073709551616<j)(h2:j<18446744073709551616):rL i j=aB:=by
 have e:(18446744073709551616:Nat)=2 ^ 64:=by decide
 simp only[rL,uK,aY,decide_eq_true_eq];exact .inl (.inr (by omega))
theorem dR{h:AH}{n:Nat}{b:Bool}{xs:List AV}(e:h.ob n=aA (.lst b xs)):eD h (.ref n)=aA xs:=by simp only[eD,e]
def cell(ns:List Int)(i:Int):Int:=ns.getD i.toNat 0
theorem MU{ns:List Int}{i:Int}(h0:0<=i)(h1:i<(ns.map AV.int).length):eP (ns.map AV.int) i=aA (.int (cell ns i)):=by
 have hl:i.toNat<ns.length:=by rw[aV]at h1;omega
 unfold eP kR;rw[if_pos h0,if_pos h1];simp only[qR,gK,cell,List.getD,cZ hl,JV,Option.getD_some]
def wd{α:Type}(xs:List α)(lo hi:Option Int):List α:=(xs.drop (HT.bF xs.length 0 lo)).take (HT.bF xs.length xs.length hi-HT.bF xs.length 0 lo)
theorem QF{α:Type}(xs:List α)(f:α->AV)(lo hi:Option Int):jU (xs.map f) lo hi=(wd xs lo hi).map f:=by unfold jU wd;rw[aV,<- List.map_drop,<- IZ]
theorem bO{h:AH}{o:gN}:(h.new o).ob h.nx=aA o:=by simp only[AH.new,if_pos]
theorem gH{h:AH}{o:gN}{n:Nat}(hn:n≠h.nx):(h.new o).ob n=h.ob n:=by simp only[AH.new,if_neg hn]
theorem rO{h:AH}{o:gN}{n:Nat}:(h.put n o).ob n=aA o:=by simp only[AH.put,if_pos]
theorem tU{h:AH}{o:gN}{n k:Nat}(hn:k≠n):(h.put n o).ob k=h.ob k:=by simp only[AH.put,if_neg hn]
theorem mI{h:AH}{n i:Nat}{b:Bool}{xs:List AV}(e:h.ob n=aA (.lst b xs)):gU n i h=aA xs[i]?:=by simp only[gU,e]
theorem Tf{h:AH}{n i:Nat}{b:Bool}{xs:List AV}{v:AV}(e:h.ob n=aA (.lst b xs))(hv:xs[i]?=aA v):rE (gU n) i h=aA (aA (.tup [.int i,v])):=by simp only[rE,mI e,hv]
theorem Te{h:AH}{n i:Nat}{b:Bool}{xs:List AV}(e:h.ob n=aA (.lst b xs))(hv:xs[i]?=aD):rE (gU n) i h=aA aD:=by simp only[rE,mI e,hv]
theorem jo{n:Nat}{bb:Bool}{xs:List AV}{g:AV->aH->M aH}{body:aH->M Out}{N B C:aH->AH->Prop}{R:AV->AH->Prop}{σ:aH}{h:AH}(I:Nat->aH->AH->Prop)(hn:xs.length<FU)(i0:I 0 σ h)(il:∀i σ h,I i σ h->h.ob n=aA (.lst bb xs))
  (turn:∀(i:Nat) x σ h,xs[i]?=aA x->I i σ h->We Xc (g (.tup [.int i,x]) σ) h λσ1 h1=>Wt Xc (body σ1) h1 (I (i+1)) R N (I (i+1)))
  (done:∀σ h,I xs.length σ h->N σ h):Wt Xc (kN (rE (gU n)) g body FU 0 σ) h N R B C:=by
 refine ck I xs.length (λi σ h hi hI=>?_) (λσ h hI=>⟨Te (il _ _ _ hI) (by simp),done σ h hI⟩) FU 0 σ h (kD _) (by omega) i0;exact⟨_,Tf (il _ _ _ hI) (cZ hi),turn i _ σ h (cZ hi) hI⟩
theorem TU{xs:List AV}{g:AV->aH->M aH}{body:aH->M Out}{N B C:aH->AH->Prop}{R:AV->AH->Prop}{σ:aH}{h:AH}(I:Nat->aH->AH->Prop)(hn:xs.length<FU)(i0:I 0 σ h)
  (turn:∀(i:Nat) x σ h,xs[i]?=aA x->I i σ h->We Xc (g x σ) h λσ1 h1=>Wt Xc (body σ1) h1 (I (i+1)) R N (I (i+1)))
  (done:∀σ h,I xs.length σ h->N σ h):Wt Xc (kN (jS xs) g body FU 0 σ) h N R B C:=by
 refine ck I xs.length (λi σ h hi hI=>?_) (λσ h hI=>⟨by simp[jS],done σ h hI⟩) FU 0 σ h (kD _) (by omega) i0;exact⟨_,by simp only[jS,cZ hi],turn i _ σ h (cZ hi) hI⟩
theorem xi{n:Nat}{bb:Bool}{xs:List AV}{g:AV->aH->M aH}{body:aH->M Out}{N B C:aH->AH->Prop}{R:AV->AH->Prop}{σ:aH}{h:AH}(I:Nat->aH->AH->Prop)(hn:xs.length<FU)(i0:I 0 σ h)(il:∀i σ h,I i σ h->h.ob n=aA (.lst bb xs))
  (turn:∀(i:Nat) x σ h,xs[i]?=aA x->I i σ h->We Xc (g x σ) h λσ1 h1=>Wt Xc (body σ1) h1 (I (i+1)) R N (I (i+1)))
  (done:∀σ h,I xs.length σ h->N σ h):Wt Xc (kN (gU n) g body FU 0 σ) h N R B C:=by
 refine ck I xs.length (λi σ h hi hI=>?_) (λσ h hI=>⟨by rw[mI (il _ _ _ hI)];simp,done σ h hI⟩) FU 0 σ h (kD _) (by omega) i0;exact⟨_,by rw[mI (il _ _ _ hI),cZ hi],turn i _ σ h (cZ hi) hI⟩
theorem Hf{lo:Int}{n:Nat}{g:AV->aH->M aH}{body:aH->M Out}{N B C:aH->AH->Prop}{R:AV->AH->Prop}{σ:aH}{h:AH}(I:Nat->aH->AH->Prop)(hn:n<FU)(i0:I 0 σ h)
  (turn:∀(i:Nat) σ h,i<n->I i σ h->We Xc (g (.int (lo+i)) σ) h λσ1 h1=>Wt Xc (body σ1) h1 (I (i+1)) R N (I (i+1)))
  (done:∀σ h,I n σ h->N σ h):Wt Xc (kN (qD lo n) g body FU 0 σ) h N R B C:=by
 refine ck I n (λi σ h hi hI=>?_) (λσ h hI=>⟨by simp[qD],done σ h hI⟩) FU 0 σ h (kD _) (by omega) i0;exact⟨_,by simp only[qD,if_pos hi],turn i σ h hi hI⟩
theorem An{j:Int}(h1:-4611686018427387904<=j)(h2:j<4611686018427387904):wF j=aB:=by simp only[wF,aY,decide_eq_true_eq];omega
end AM
namespace AM
structure Kp(h h':AH):Prop where
 nx:h.nx<=h'.nx
 ob:∀n,n<h.nx->h'.ob n=h.ob n
theorem Kp.refl{h:AH}:Kp h h:=⟨cB _,λ_ _=>rfl⟩
theorem Kp.trans{a b c:AH}(x:Kp a b)(y:Kp b c):Kp a c:=⟨eN x.nx y.nx,λn hn=>(y.ob n (cP hn x.nx)).trans (x.ob n hn)⟩
theorem Kp.new{a b:AH}{o:gN}(x:Kp a b):Kp a (b.new o):=⟨Oi x.nx,λn hn=>(gH (bU (cP hn x.nx))).trans (x.ob n hn)⟩
theorem Kp.put{a b:AH}{o:gN}{k:Nat}(x:Kp a b)(hk:a.nx<=k):Kp a (b.put k o):=⟨x.nx,λn hn=>(tU (bU (cP hn hk))).trans (x.ob n hn)⟩
end AM
namespace AM
open PySem PySem.Spec PyProof.Rows L2
inductive je where
 |sum|less|times|share|rest|both|aBl|odd|up|down|below|same
def je.nm:je->Str
 |.sum=>"sum" |.less=>"less" |.times=>"times" |.share=>"share" |.rest=>"rest" |.both=>"both" |.aBl=>"some" |.odd=>"odd" |.up=>"up" |.down=>"down" |.below=>"below" |.same=>"same"
def aMw(ws:List Int):Prop:=∀w∈ws,0<=w/\w<18446744073709551616
theorem Gv{b:Int}(b0:0<b)(b1:b<18446744073709551616):tD b=aB:=by
 have e:(18446744073709551616:Int)<2 ^ 1000:=by decide
 simp only[tD,aY,decide_eq_true_eq];exact⟨b0,Int.lt_trans b1 e⟩
section
variable {Xc:Nat->AH->Prop}{α:Type}{m:M α}{h:AH}{Q:α->AH->Prop}{F:Run}{σ:aH}{V1:AV->AH->Prop}{L1:List AV->AH->Prop}
theorem FK(w:Wp m h Q):We Xc (fH m) h Q:=by obtain⟨a,h1,e,q⟩:=w.ex;exact We.eq (show fH m h = .ok a h1 by unfold fH;rw[e]) q
theorem zU{imp:List (Option Nat)}{t:CT}{it:Ir}{e:Ex}(w:We Xc (cO F it σ) h λi h1=>We Xc (eQ i (pN t) (λ_=>M.ret aB) (aN F e) FU 0 [] (nH imp σ)) h1 λys h2=>V1 (.ref h2.nx) (h2.new (.lst aB ys))):We Xc (aN F (.oM imp t it e) σ) h V1:=
 bA (w.mono λ_ _ z=>bA (z.mono λ_ _ y=>y))
theorem zV{imp:List (Option Nat)}{t:CT}{it:Ir}{c e:Ex}(w:We Xc (cO F it σ) h λi h1=>We Xc (eQ i (pN t) (dQ F c) (aN F e) FU 0 [] (nH imp σ)) h1 λys h2=>V1 (.ref h2.nx) (h2.new (.lst aB ys))):We Xc (aN F (.mD imp t it c e) σ) h V1:=
 bA (w.mono λ_ _ z=>bA (z.mono λ_ _ y=>y))
theorem uF{i:Nat}{v:AV}{Q:aH->AH->Prop}(q:Q (σ.set i (aA v)) h):We Xc (pN (.nm i) v σ) h Q:=q
theorem Mc{i j:Nat}{a b:AV}{Q:aH->AH->Prop}(q:Q ((σ.set i (aA a)).set j (aA b)) h):We Xc (pN (.tup [i,j]) (.tup [a,b]) σ) h Q:=q
theorem vH{it:fR}{g:AV->aH->M aH}{mt:aH->M Bool}{me:aH->M AV}(I:Nat->List AV->aH->AH->Prop)(n:Nat)
  (turn:∀i ys σ h,i<n->I i ys σ h->∃v,it i h=aA (aA v)/\Wp (g v σ) h λσ1 h1=>Wp (mt σ1) h1 λb h2=>if b=aB then We Xc (me σ1) h2 λy h3=>ys.length<sizeLine/\I (i+1) (ys++[y]) σ1 h3 else I (i+1) ys σ1 h2)
  (done:∀ys σ h,I n ys σ h->it n h=aA aD/\L1 ys h):∀(f i:Nat) (ys:List AV) (σ:aH) (h:AH),i<=n->n-i<f->I i ys σ h->We Xc (eQ it g mt me f i ys σ) h L1
 |0,i,ys,σ,h,_,hf,_=>absurd hf (ua _)
 |f+1,i,ys,σ,h,hi,hf,hI=>by
  by_cases hx:i<n
  .obtain⟨v,e,w⟩:=turn i ys σ h hx hI;have e1:eQ it g mt me (f+1) i ys σ h=((fH (g v σ)).bind λσ1=>(fH (mt σ1)).bind λb=>if b=aB then(me σ1).bind λy=>M.guard (ys.length<sizeLine) (eQ it g mt me f (i+1) (ys++[y]) σ1) else eQ it g mt me f (i+1) ys σ1) h:=by simp only[eQ,e]
   unfold We;rw[e1];refine bA (FK (w.mono λσ1 h1 w1=>bA (FK (w1.mono λb h2 w2=>?_))));cases b with
   |true=>rw[if_pos rfl]at w2 ⊢;exact bA (w2.mono λy h3 w3=>gb w3.1 (vH I n turn done f (i+1) _ σ1 h3 hx (by omega) w3.2))
   |false=>rw[if_neg dG]at w2 ⊢;exact vH I n turn done f (i+1) ys σ1 h2 hx (by omega) w2
  .have:i=n:=by omega
   subst this;obtain⟨e,q⟩:=done ys σ h hI;unfold We;have e1:eQ it g mt me (f+1) i ys σ h = .ok ys h:=by simp only[eQ,e]
   rw[e1];exact q
variable {g:AV->aH->M aH}{mt:aH->M Bool}{me:aH->M AV}
theorem qw{h:AH}{A B:AH->Prop}(q:A h):Wp (M.ret aB) h λb h2=>if b=aB then A h2 else B h2:=by
 show if aB=aB then A h else B h
 rw[if_pos rfl];exact q
theorem PR{lo:Int}{n:Nat}(I:Nat->List AV->aH->AH->Prop)(hn:n<FU)(i0:I 0 [] σ h)
  (turn:∀(i:Nat) ys σ h,i<n->I i ys σ h->Wp (g (.int (lo+i)) σ) h λσ1 h1=>We Xc (me σ1) h1 λy h3=>ys.length<sizeLine/\I (i+1) (ys++[y]) σ1 h3)
  (done:∀ys σ h,I n ys σ h->L1 ys h):We Xc (eQ (qD lo n) g (λ_=>M.ret aB) me FU 0 [] σ) h L1:=by
 refine vH I n (λi ys σ h hi hI=>?_) (λys σ h hI=>⟨by simp[qD],done ys σ h hI⟩) FU 0 [] σ h (kD _) (by omega) i0;exact⟨_,by simp only[qD,if_pos hi],(turn i ys σ h hi hI).mono λσ1 h1 w=>qw w⟩
theorem PU{xs:List AV}(I:Nat->List AV->aH->AH->Prop)(hn:xs.length<FU)(i0:I 0 [] σ h)
  (turn:∀(i:Nat) x ys σ h,xs[i]?=aA x->I i ys σ h->Wp (g x σ) h λσ1 h1=>We Xc (me σ1) h1 λy h3=>ys.length<sizeLine/\I (i+1) (ys++[y]) σ1 h3)
  (done:∀ys σ h,I xs.length ys σ h->L1 ys h):We Xc (eQ (jS xs) g (λ_=>M.ret aB) me FU 0 [] σ) h L1:=by
 refine vH I xs.length (λi ys σ h hi hI=>?_) (λys σ h hI=>⟨by simp[jS],done ys σ h hI⟩) FU 0 [] σ h (kD _) (by omega) i0;exact⟨xs[i],by simp only[jS,cZ hi],(turn i _ ys σ h (cZ hi) hI).mono λσ1 h1 w=>qw w⟩
theorem Gq{n:Nat}{bb:Bool}{xs:List AV}(I:Nat->List AV->aH->AH->Prop)(hn:xs.length<FU)(i0:I 0 [] σ h)(il:∀i ys σ h,I i ys σ h->h.ob n=aA (.lst bb xs))
  (turn:∀(i:Nat) x ys σ h,xs[i]?=aA x->I i ys σ h->Wp (g x σ) h λσ1 h1=>We Xc (me σ1) h1 λy h3=>ys.length<sizeLine/\I (i+1) (ys++[y]) σ1 h3)
  (done:∀ys σ h,I xs.length ys σ h->L1 ys h):We Xc (eQ (gU n) g (λ_=>M.ret aB) me FU 0 [] σ) h L1:=by
 refine vH I xs.length (λi ys σ h hi hI=>?_) (λys σ h hI=>⟨by rw[mI (il _ _ _ _ hI)];simp,done ys σ h hI⟩) FU 0 [] σ h (kD _) (by omega) i0;exact⟨_,by rw[mI (il _ _ _ _ hI),cZ hi],(turn i _ ys σ h (cZ hi) hI).mono λσ1 h1 w=>qw w⟩
theorem PQ{n:Nat}{bb:Bool}{xs:List AV}(I:Nat->List AV->aH->AH->Prop)(hn:xs.length<FU)(i0:I 0 [] σ h)(il:∀i ys σ h,I i ys σ h->h.ob n=aA (.lst bb xs))
  (turn:∀(i:Nat) x ys σ h,xs[i]?=aA x->I i ys σ h->Wp (g (.tup [.int i,x]) σ) h λσ1 h1=>We Xc (me σ1) h1 λy h3=>ys.length<sizeLine/\I (i+1) (ys++[y]) σ1 h3)
  (done:∀ys σ h,I xs.length ys σ h->L1 ys h):We Xc (eQ (rE (gU n)) g (λ_=>M.ret aB) me FU 0 [] σ) h L1:=by
 refine vH I xs.length (λi ys σ h hi hI=>?_) (λys σ h hI=>⟨Te (il _ _ _ _ hI) (by simp),done ys σ h hI⟩) FU 0 [] σ h (kD _) (by omega) i0;exact⟨_,Tf (il _ _ _ _ hI) (cZ hi),(turn i _ ys σ h (cZ hi) hI).mono λσ1 h1 w=>qw w⟩
variable {N:aH->AH->Prop}{R:AV->AH->Prop}{B C:aH->AH->Prop}
end
theorem TV{Xc:Nat->AH->Prop}{n1 n2:Nat}{b1 b2:Bool}{xs ys:List AV}{g:AV->aH->M aH}{body:aH->M Out}{N B C:aH->AH->Prop}{R:AV->AH->Prop}{σ:aH}{h:AH}(I:Nat->aH->AH->Prop)(hl:xs.length=ys.length)(hn:xs.length<FU)(i0:I 0 σ h)
  (il:∀i σ h,I i σ h->h.ob n1=aA (.lst b1 xs)/\h.ob n2=aA (.lst b2 ys))
  (turn:∀(i:Nat) x y σ h,xs[i]?=aA x->ys[i]?=aA y->I i σ h->We Xc (g (.tup [x,y]) σ) h λσ1 h1=>Wt Xc (body σ1) h1 (I (i+1)) R N (I (i+1)))
  (done:∀σ h,I xs.length σ h->N σ h):Wt Xc (kN (uI (gU n1) (gU n2)) g body FU 0 σ) h N R B C:=by
 refine ck I xs.length (λi σ h hi hI=>?_) (λσ h hI=>⟨?_,done σ h hI⟩) FU 0 σ h (kD _) (by omega) i0
 .obtain⟨g1,g2⟩:=il _ _ _ hI;have e1:=cZ hi;have e2:=cZ (show i<ys.length by omega);exact⟨_,by simp only[uI,mI g1,mI g2,e1,e2],turn i _ _ σ h e1 e2 hI⟩
 .obtain⟨g1,g2⟩:=il _ _ _ hI;simp[uI,mI g1,mI g2]
theorem Hi{h:AH}{n:Nat}{b:Bool}{xs:List AV}(e:h.ob n=aA (.lst b xs)):nF (.ref n) h = .ok (gU n) h:=by simp only[nF,e]
theorem zR{Xc:Nat->AH->Prop}{xs ys:List AV}{h:AH}{V1:AV->AH->Prop}(hz:xs.length+ys.length<=sizeLine)(q:V1 (.tup (xs++ys)) h):We Xc (Op.g .add (.tup xs) (.tup ys)) h V1:=gb hz q
theorem zT{Xc:Nat->AH->Prop}{xs:List AV}{lo hi:Option Int}{h:AH}{V1:AV->AH->Prop}(hz:¬(HT.bF xs.length 0 lo=0/\HT.bF xs.length xs.length hi=xs.length))(q:V1 (.tup (jU xs lo hi)) h):We Xc (lO (.tup xs) lo hi) h V1:=by unfold We lO;simp only[if_neg hz];exact q
section
variable {Xc:Nat->AH->Prop}{h:AH}{F:Run}{σ:aH}{V1:AV->AH->Prop}{L1:List AV->AH->Prop}
theorem aGz{aE:List (Str×AV)}{k:Str}{v:AV}(e:aE.lookup k=aA v)(q:V1 v h):We Xc (yJ aE (.str k)) h V1:=by unfold We yJ;simp only[e];exact q
theorem FX{i:Int}(e:i.natAbs.log2<1920)(q:V1 (.str (toString i)) h):We Xc (Bi.g .str [.int i]) h V1:=by show We Xc (cu [.int i]) h V1;unfold We cu;simp only[if_pos e];exact q
theorem CW:∀(ts:List Str),wH (ts.map AV.str)=aA ts
 |[]=>rfl|t::ts=>by rw[dS,wH,CW ts];rfl
theorem aGi{z:Str}{n:Nat}{b:Bool}{ts:List Str}(e:h.ob n=aA (.lst b (ts.map AV.str)))(hj:si z ts=aB)(q:V1 (.str (Ec z ts)) h):We Xc (yG z (.ref n)) h V1:=by unfold We yG;simp only[e,CW,if_pos hj];exact q
theorem By{z:Str}{i:Int}{c:Nat}(hz:z.length<=sizeLine)(e:eP z.cps.toList i=aA c)(q:V1 (.str ⟨#[c]⟩) h):We Xc (Op.g .ix (.str z) (.int i)) h V1:=by show We Xc (tJ (.str z) (.int i)) h V1;unfold We tJ;simp only[fG];unfold Hj;unfold yF;simp only[if_pos hz,e];exact q
theorem CB{v:Int}(h0:-(18446744073709551616:Int)<=v)(h1:v<=18446744073709551616):v.natAbs.log2<1920:=by
 by_cases hz:v.natAbs=0
 .rw[hz];decide
 .refine(JN hz).mpr (cP (m:=2 ^ 65) ?_ (Nat.pow_le_pow_right (by decide) (by decide)));have:(2:Nat) ^ 65=36893488147419103232:=by decide
  omega
end
section
variable {Xc:Nat->AH->Prop}{h:AH}{F:Run}{σ:aH}{V1:AV->AH->Prop}{B1:Bool->AH->Prop}{N B C:aH->AH->Prop}{R:AV->AH->Prop}
theorem aIc{sub:Bool}{i:Nat}{e:Ex}{a:Int}(l:σ[i]?=aA (aA (.int a)))(w:We Xc (aN F e σ) h λy h1=>∃j:Int,y = .int j/\N (σ.set i (aA (.int (if sub=aB then a-j else a+j)))) h1):Wt Xc (iU F (.aug sub i e) σ) h N R B C:=by show We Xc (ji sub i (aN F e σ) σ) h _;unfold ji;simp only[l];exact bA (w.mono λy h1 ⟨j,e1,q⟩=>by subst e1;exact q)
theorem GD{f:Dm}{o:Ex}{es:gO}(w:We Xc (aN F o σ) h λx h1=>(fG h1 x).isSome=aB/\We Xc (fA F es σ) h1 λxs h2=>We Xc (f.g x xs) h2 V1):We Xc (aN F (.dm f o es) σ) h V1:=bA (w.mono λx h1 ⟨z1,z2⟩=>by unfold We;simp only[if_pos z1];exact bA z2)
theorem wj{n:Nat}{aE:List (aU×AV)}(e:h.ob n=aA (.bQ aE)):fG h (.ref n)=aA aE:=by simp only[fG,e]
theorem aFu{n:Nat}{aE:List (aU×AV)}{y z:AV}{k:aU}(e:h.ob n=aA (.bQ aE))(hk:iY y=aA k)(q:V1 ((bT aE k).getD z) h):We Xc (Dm.g .get (.ref n) [y,z]) h V1:=by show We Xc (jr (.ref n) [y,z]) h V1;unfold We jr;simp only[wj e,hk];exact q
theorem FR{n:Nat}{aE:List (aU×AV)}{y v:AV}{k:aU}(e:h.ob n=aA (.bQ aE))(hk:iY y=aA k)(l:bT aE k=aA v)(q:V1 v h):We Xc (Op.g .ix (.ref n) y) h V1:=by show We Xc (tJ (.ref n) y) h V1;unfold We tJ;simp only[wj e,hk,qR,l];exact q
theorem aGd{n:Nat}{aE:List (aU×AV)}{y:AV}{k:aU}(e:h.ob n=aA (.bQ aE))(hk:iY y=aA k)(q:V1 (.bl (bT aE k).isSome) h):We Xc (Cp.g .oU y (.ref n)) h V1:=by show We Xc (jM aF y (.ref n)) h V1;unfold We jM;simp only[wj e,hk];exact q
theorem FI{o i:Ex}{v:AV}{Q:aH->AH->Prop}(w:We Xc (aN F o σ) h λx h1=>We Xc (aN F i σ) h1 λy h2=>∃(n:Nat) (aE:List (aU×AV)) (k:aU),x = .ref n/\iY y=aA k/\h2.ob n=aA (.bQ aE)/\aE.length<sizeLine/\Q σ (h2.put n (.bQ (jP aE k v)))):We Xc (nB F (.sub o i) v σ) h Q:=
 bA (w.mono λx _ z=>bA (z.mono λy h2 ⟨n,aE,k,e1,e2,e3,e4,q⟩=>bA (by
  subst e1;unfold We vM;simp only[wj e3,e2,if_pos e4];exact q)))
theorem Lv{aE:List (aU×AV)}{k k':aU}{v:AV}:bT (jP aE k v) k'=if k=k' then aA v else bT aE k':=by
 induction aE with
 |nil=>
  by_cases e:k=k'
  .simp[bT,jP,e]
  .simp[bT,jP,e]
 |cons p r ih=>
  obtain⟨k0,v0⟩:=p;by_cases e0:k0=k
  .subst e0;have e1:jP ((k0,v0)::r) k0 v=(k0,v)::r.map (λkv=>if kv.1=k0 then(kv.1,v) else kv):=by simp[jP]
   rw[e1];by_cases e:k0=k'
   .subst e;simp[bT]
   .have:bT (r.map λkv=>if kv.1=k0 then(kv.1,v) else kv) k'=bT r k':=by
     clear ih e1;induction r with
     |nil=>rfl|cons q s ih2=>
      obtain⟨k2,v2⟩:=q;by_cases e2:k2=k0
      .subst e2;simp only[dS,if_true];have l1:bT ((k2,v)::s.map λkv=>if kv.1=k2 then(kv.1,v) else kv) k'=bT (s.map λkv=>if kv.1=k2 then(kv.1,v) else kv) k':=by simp[bT,e]
       have l2:bT ((k2,v2)::s) k'=bT s k':=by simp[bT,e]
       rw[l1,l2,ih2]
      .simp only[dS,e2,if_false];by_cases e3:k2=k'
       .simp[bT,e3]
       .have l1:bT ((k2,v2)::s.map λkv=>if kv.1=k0 then(kv.1,v) else kv) k'=bT (s.map λkv=>if kv.1=k0 then(kv.1,v) else kv) k':=by simp[bT,e3]
        have l2:bT ((k2,v2)::s) k'=bT s k':=by simp[bT,e3]
        rw[l1,l2,ih2]
    have l1:bT ((k0,v)::r.map λkv=>if kv.1=k0 then(kv.1,v) else kv) k'=bT (r.map λkv=>if kv.1=k0 then(kv.1,v) else kv) k':=by simp[bT,e]
    have l2:bT ((k0,v0)::r) k'=bT r k':=by simp[bT,e]
    rw[l1,this,if_neg e,l2]
  .have e1:jP ((k0,v0)::r) k v=(k0,v0)::jP r k v:=by unfold jP;simp only[kC,e0,decide_false,Mz];split<;>simp[e0]
   rw[e1];by_cases e3:k0=k'
   .have ne:k≠k':=λz=>e0 (e3.trans z.symm);simp[bT,e3,ne]
   .have l1:bT ((k0,v0)::jP r k v) k'=bT (jP r k v) k':=by simp[bT,e3]
    have l2:bT ((k0,v0)::r) k'=bT r k':=by simp[bT,e3]
    rw[l1,l2,ih]
theorem aFv{x y:AV}{b:Bool}(e:tE x y=aD)(e2:oQ h x y=aA b)(q:V1 (.bl b) h):We Xc (Cp.g .eq x y) h V1:=by show We Xc (js x y) h V1;unfold We js;simp only[e,e2];exact q
theorem FT{x y:AV}{b:Bool}(e:tE x y=aD)(e2:oQ h x y=aA b)(q:V1 (.bl (!b)) h):We Xc (Cp.g .ne x y) h V1:=by show We Xc (tK x y) h V1;unfold We tK;simp only[e,e2];exact q
theorem Gz{f:AV->AV->Option Bool}:∀{xs ys:List AV},xs.length=ys.length->(∀(i:Nat) x y,xs[i]?=aA x->ys[i]?=aA y->f x y=aA aB)->oP f xs ys=aA aB
 |[],[],_,_=>rfl|[],_::_,hl,_=>by cases hl
 |_::_,[],hl,_=>by cases hl
 |x::xs,y::ys,hl,he=>by rw[oP,he 0 x y rfl rfl,Gz (by simpa using hl) λi p q h1 h2=>he (i+1) p q h1 h2];rfl
theorem RN{n m k:Nat}{b1 b2:Bool}{xs ys:List AV}(e1:h.ob n=aA (.lst b1 xs))(e2:h.ob m=aA (.lst b2 ys))(hl:xs.length=ys.length)(he:oP (iG h k) xs ys=aA aB):iG h (k+1) (.ref n) (.ref m)=aA aB:=by
 have s1:gJ h (.ref n)=aA (aB,xs):=by simp only[gJ,e1]
 have s2:gJ h (.ref m)=aA (aB,ys):=by simp only[gJ,e2]
 have hf:¬(eR (.ref n)=aB/\eR (.ref m)=aB):=λz=>by cases z.1
 have hz:¬(aB=aB/\xs.length≠ys.length):=λz=>z.2 hl;simp only[iG,if_neg hf,if_neg (show¬yr (.ref n) (.ref m)=aB from λz=>by cases z),s1,s2,if_true,he,JV,decide_eq_true hl,GY];rw[if_neg (λz=>z.2 hl)]
theorem Tp{n m:Nat}{b1 b2:Bool}{xs ys:List AV}{b:Bool}(e1:h.ob n=aA (.lst b1 xs))(e2:h.ob m=aA (.lst b2 ys))(he:iG h 12 (.ref n) (.ref m)=aA b):oQ h (.ref n) (.ref m)=aA b:=by
 have s1:gJ h (.ref n)=aA (aB,xs):=by simp only[gJ,e1]
 have s2:gJ h (.ref m)=aA (aB,ys):=by simp only[gJ,e2]
 simp only[oQ,s1,s2,he]
theorem RL{n m:Nat}{b1 b2:Bool}{xs:List AV}(e1:h.ob n=aA (.lst b1 xs))(e2:h.ob m=aA (.lst b2 [])):oQ h (.ref n) (.ref m)=aA (decide (xs=[])):=by
 refine Tp e1 e2 ?_;have s1:gJ h (.ref n)=aA (aB,xs):=by simp only[gJ,e1]
 have s2:gJ h (.ref m)=aA (aB,[]):=by simp only[gJ,e2]
 have hf:¬(eR (.ref n)=aB/\eR (.ref m)=aB):=λz=>by cases z.1
 simp only[iG,if_neg hf,if_neg (show¬yr (.ref n) (.ref m)=aB from λz=>by cases z),s1,s2];cases xs with
 |nil=>rfl|cons x xs=>rfl
end
theorem Kp.get{h h':AH}(g:Kp h h'){n:Nat}{o:Option gN}(hn:n<h.nx)(e:h.ob n=o):h'.ob n=o:=(g.ob n hn).trans e
theorem aMv{h:AH}{n:Nat}{o:gN}:(h.put n o).nx=h.nx:=rfl
theorem aMu{h:AH}{o:gN}:(h.new o).nx=h.nx+1:=rfl
theorem xX{Xc:Nat->AH->Prop}{n:Nat}{bb:Bool}{xs:List AV}{σ:aH}{h:AH}{L1:List AV->AH->Prop}{g:AV->aH->M aH}{mt:aH->M Bool}{me:aH->M AV}(I:Nat->List AV->aH->AH->Prop)(hn:xs.length<FU)(i0:I 0 [] σ h)(il:∀i ys σ h,I i ys σ h->h.ob n=aA (.lst bb xs))
  (turn:∀(i:Nat) x ys σ h,xs[i]?=aA x->I i ys σ h->Wp (g x σ) h λσ1 h1=>Wp (mt σ1) h1 λb h2=>if b=aB then We Xc (me σ1) h2 λy h3=>ys.length<sizeLine/\I (i+1) (ys++[y]) σ1 h3 else I (i+1) ys σ1 h2)
  (done:∀ys σ h,I xs.length ys σ h->L1 ys h):We Xc (eQ (gU n) g mt me FU 0 [] σ) h L1:=by
 refine vH I xs.length (λi ys σ h hi hI=>?_) (λys σ h hI=>⟨by rw[mI (il _ _ _ _ hI)];simp,done ys σ h hI⟩) FU 0 [] σ h (kD _) (by omega) i0;exact⟨_,by rw[mI (il _ _ _ _ hI),cZ hi],turn i _ ys σ h (cZ hi) hI⟩
theorem aAo:(1000:Nat)<sizeLine:=by decide
theorem fX{α:Type}{f:α->AV}{ws:List α}{i:Nat}{x:AV}(h:(ws.map f)[i]?=aA x):∃w,ws[i]?=aA w/\x=f w:=by rw[gK]at h;obtain⟨w,h1,h2⟩:=Option.map_eq_some_iff.mp h;exact⟨w,h1,h2.symm⟩
theorem Sk{xs:List AV}{n:Nat}:jU xs (aA (n:Int)) aD=xs.drop n:=by
 unfold jU;rw[HT.aAg,HT.Ar];rcases Nat.le_total n xs.length with h|h
 .rw[JO h,qQ (by rw[uM];exact cB _)]
 .rw[Nat.min_eq_right h,List.drop_eq_nil_of_le h,JP,List.drop_length];rfl
section
variable {Xc:Nat->AH->Prop}{h:AH}{F:Run}{σ:aH}{V1:AV->AH->Prop}{N B C:aH->AH->Prop}{R:AV->AH->Prop}
theorem kZ{i j:Str}(hz:i.length+j.length<=sizeLine)(q:V1 (.str (i++j)) h):We Xc (Op.g .add (.str i) (.str j)) h V1:=gb hz q
theorem rf{z:Str}(hz:z.length<=sizeLine)(q:V1 (.int z.length) h):We Xc (Bi.g .len [.str z]) h V1:=by show We Xc (yH [.str z]) h V1;unfold We yH;simp only[if_pos hz];exact q
end
section
variable {Xc:Nat->AH->Prop}{h:AH}{F:Run}{σ:aH}{V1:AV->AH->Prop}{B1:Bool->AH->Prop}{N B C:aH->AH->Prop}{R:AV->AH->Prop}
theorem aFt{n:Nat}{b:Bool}{bs:List Bool}(e:h.ob n=aA (.lst b (bs.map AV.bl)))(q:V1 (.bl (bs.any id)) h):We Xc (Kc.any.g (.ref n)) h V1:=by unfold We Kc.g;simp only[e,Kc.gl,Fv];exact q
theorem aFs{n:Nat}{b:Bool}{bs:List Bool}(e:h.ob n=aA (.lst b (bs.map AV.bl)))(q:V1 (.bl (bs.all id)) h):We Xc (Kc.all.g (.ref n)) h V1:=by unfold We Kc.g;simp only[e,Kc.gl,Fv];exact q
end
def aM(b:Bool)(A B:Prop):Prop:=match b with
 |true=>A
 |false=>B
theorem aM.ite{b:Bool}{A B:Prop}(w:aM b A B):if b=aB then A else B:=by
 cases b with
 |true=>exact w|false=>rw[if_neg dG];exact w
theorem aM.mp{b:Bool}{A B A' B':Prop}(w:aM b A B)(f:A->A')(g:B->B'):aM b A' B':=by
 cases b with
 |true=>exact f w|false=>exact g w
theorem aM.t{b:Bool}{A B:Prop}(e:b=aB)(q:A):aM b A B:=by rw[e];exact q
theorem aM.f{b:Bool}{A B:Prop}(e:b=aF)(q:B):aM b A B:=by rw[e];exact q
theorem aM.dt{c:Prop} [Decidable c] {A B:Prop}(e:c)(q:A):aM (decide c) A B:=aM.t (decide_eq_true e) q
theorem aM.df{c:Prop} [Decidable c] {A B:Prop}(e:¬c)(q:B):aM (decide c) A B:=aM.f (decide_eq_false e) q
theorem aM.nt{c:Prop} [Decidable c] {A B:Prop}(e:c)(q:B):aM (!decide c) A B:=aM.f (by rw[decide_eq_true e];rfl) q
theorem aM.nf{c:Prop} [Decidable c] {A B:Prop}(e:¬c)(q:A):aM (!decide c) A B:=aM.t (by rw[decide_eq_false e];rfl) q
theorem aM.dc{c:Prop} [Decidable c] {A B:Prop}(t:c->A)(f:¬c->B):aM (decide c) A B:=by
 by_cases z:c
 .exact aM.dt z (t z)
 .exact aM.df z (f z)
theorem aM.nd{c:Prop} [Decidable c] {A B:Prop}(t:¬c->A)(f:c->B):aM (!decide c) A B:=by
 by_cases z:c
 .exact aM.nt z (f z)
 .exact aM.nf z (t z)
theorem aM.by{b:Bool}{A B:Prop}(t:b=aB->A)(f:b=aF->B):aM b A B:=by
 cases b with
 |true=>exact t rfl|false=>exact f rfl
@[irreducible] def WC {α:Type} (Xc:Nat->AH->Prop) (m:M α) (h:AH) (Q:α->AH->Prop):Prop:=We Xc m h Q
theorem WC.of{α:Type}{Xc:Nat->AH->Prop}{m:M α}{h:AH}{Q:α->AH->Prop}(w:We Xc m h Q):WC Xc m h Q:=by unfold WC;exact w
theorem WC.we{α:Type}{Xc:Nat->AH->Prop}{m:M α}{h:AH}{Q:α->AH->Prop}(w:WC Xc m h Q):We Xc m h Q:=by unfold WC at w;exact w
@[irreducible] def WB (Xc:Nat->AH->Prop) (m:M Out) (h:AH) (N:aH->AH->Prop) (R:AV->AH->Prop) (B C:aH->AH->Prop):Prop:=Wt Xc m h N R B C
theorem WB.of{Xc:Nat->AH->Prop}{m:M Out}{h:AH}{N:aH->AH->Prop}{R:AV->AH->Prop}{B C:aH->AH->Prop}(w:Wt Xc m h N R B C):WB Xc m h N R B C:=by unfold WB;exact w
theorem WB.wt{Xc:Nat->AH->Prop}{m:M Out}{h:AH}{N:aH->AH->Prop}{R:AV->AH->Prop}{B C:aH->AH->Prop}(w:WB Xc m h N R B C):Wt Xc m h N R B C:=by unfold WB at w;exact w
def bI{α:Type}(o:Option α)(K:α->Prop):Prop:=match o with
 |some v=>K v
 |none=>False
theorem bI.of{α:Type}{o:Option α}{K:α->Prop}{v:α}(e:o=aA v)(q:K v):bI o K:=by rw[e];exact q
def BS:AV->Option Str
 |.str z=>aA z
 |_=>aD
def kg:AV->Option Int
 |.int i=>aA i
 |_=>aD
def FF(Xc:Nat->AH->Prop)(o:Op)(x y:AV)(h:AH)(Q:AV->AH->Prop):Prop:=match o with
 |.add=>match x,y with
  |.int i,.int j=>Q (.int (i+j)) h
  |x,y=>WC Xc (Op.g .add x y) h Q
 |.sub=>match x,y with
  |.int i,.int j=>Q (.int (i-j)) h
  |x,y=>WC Xc (Op.g .sub x y) h Q
 |.mod=>match x,y with
  |.int i,.int j=>aM (decide (0<j)) (Q (.int (i%j)) h) False
  |x,y=>WC Xc (Op.g .mod x y) h Q
 |.fdiv=>match x,y with
  |.int i,.int j=>aM (tD j) (Q (.int (i / j)) h) False
  |x,y=>WC Xc (Op.g .fdiv x y) h Q
 |.mul=>match x,y with
  |.int i,.int j=>aM (rL i j) (Q (.int (i*j)) h) False
  |x,y=>WC Xc (Op.g .mul x y) h Q
 |.ix=>match x,y with
  |.tup xs,.int i=>bI (eP xs i) λv=>Q v h
  |x,y=>WC Xc (Op.g .ix x y) h Q
 |o=>WC Xc (o.g x y) h Q
def wN(Xc:Nat->AH->Prop)(o:Cp)(x y:AV)(h:AH)(Q:AV->AH->Prop):Prop:=match o with
 |.lt=>match x,y with
  |.int i,.int j=>Q (.bl (decide (i<j))) h
  |x,y=>WC Xc (Cp.g .lt x y) h Q
 |.le=>match x,y with
  |.int i,.int j=>Q (.bl (decide (i<=j))) h
  |x,y=>WC Xc (Cp.g .le x y) h Q
 |.gt=>match x,y with
  |.int i,.int j=>Q (.bl (decide (j<i))) h
  |x,y=>WC Xc (Cp.g .gt x y) h Q
 |.ge=>match x,y with
  |.int i,.int j=>Q (.bl (decide (j<=i))) h
  |x,y=>WC Xc (Cp.g .ge x y) h Q
 |.eq=>match x,y with
  |.int i,.int j=>Q (.bl (decide (i=j))) h
  |.str i,.str j=>Q (.bl (decide (i=j))) h
  |x,y=>WC Xc (Cp.g .eq x y) h Q
 |.ne=>match x,y with
  |.int i,.int j=>Q (.bl (!decide (i=j))) h
  |.str i,.str j=>Q (.bl (!decide (i=j))) h
  |x,y=>WC Xc (Cp.g .ne x y) h Q
 |.nI=>match y with
  |.aK=>Q (.bl (fV x)) h
  |y=>WC Xc (Cp.g .nI x y) h Q
 |.isn=>match y with
  |.aK=>Q (.bl (!fV x)) h
  |y=>WC Xc (Cp.g .isn x y) h Q
 |o=>WC Xc (o.g x y) h Q
def uE(Xc:Nat->AH->Prop)(x:AV)(h:AH)(Q:Bool->AH->Prop):Prop:=match x with
 |.bl b=>Q b h
 |.int i=>Q (i != 0) h
 |x=>WC Xc (cV x) h Q
def Mb(Xc:Nat->AH->Prop)(f:Bi)(xs:List AV)(h:AH)(Q:AV->AH->Prop):Prop:=match f with
 |.len=>match xs with
  |[.tup ys]=>Q (.int ys.length) h
  |xs=>WC Xc (Bi.g .len xs) h Q
 |.int=>match xs with
  |[.int i]=>Q (.int i) h
  |[.bl b]=>Q (.int (if b then 1 else 0)) h
  |xs=>WC Xc (Bi.g .int xs) h Q
 |.min=>match xs with
  |[.int i,.int j]=>Q (.int (if j<i then j else i)) h
  |xs=>WC Xc (Bi.g .min xs) h Q
 |.max=>match xs with
  |[.int i,.int j]=>Q (.int (if j > i then j else i)) h
  |xs=>WC Xc (Bi.g .max xs) h Q
 |.tuple=>match xs with
  |[.tup ys]=>Q (.tup ys) h
  |xs=>WC Xc (Bi.g .tuple xs) h Q
 |f=>WC Xc (f.g xs) h Q
def FE(Xc:Nat->AH->Prop)(x:AV)(h:AH)(Q:AV->AH->Prop):Prop:=match x with
 |.int i=>Q (.int (-i)) h
 |x=>WC Xc (jv x) h Q
mutual
noncomputable def wE(Xc:Nat->AH->Prop)(F:Run):Ex->aH->AH->(AV->AH->Prop)->Prop
 |.var i,σ,h,Q=>bI σ[i]? λo=>bI o λv=>Q v h
 |.val v,_,h,Q=>Q v h
 |.op o a b,σ,h,Q=>wE Xc F a σ h λx h1=>wE Xc F b σ h1 λy h2=>FF Xc o x y h2 Q
 |.cmp o a b,σ,h,Q=>wE Xc F a σ h λx h1=>wE Xc F b σ h1 λy h2=>wN Xc o x y h2 Q
 |.neg a,σ,h,Q=>wE Xc F a σ h λx h1=>FE Xc x h1 Q
 |.not a,σ,h,Q=>wE Xc F a σ h λx h1=>uE Xc x h1 λb h2=>Q (.bl (!b)) h2
 |.and a b,σ,h,Q=>wE Xc F a σ h λx h1=>uE Xc x h1 λt h2=>aM t (wE Xc F b σ h2 Q) (Q x h2)
 |.or a b,σ,h,Q=>wE Xc F a σ h λx h1=>uE Xc x h1 λt h2=>aM t (Q x h2) (wE Xc F b σ h2 Q)
 |.ite c a b,σ,h,Q=>wT Xc F c σ h λt h1=>aM t (wE Xc F a σ h1 Q) (wE Xc F b σ h1 Q)
 |.tup es,σ,h,Q=>zQ Xc F es σ h λxs h1=>aM (Oh xs.length 64) (Q (.tup xs) h1) False
 |.lst es,σ,h,Q=>zQ Xc F es σ h λxs h1=>aM (Oh xs.length 64) (Q (.ref h1.nx) (h1.new (.lst aB xs))) False
 |.call f es,σ,h,Q=>zQ Xc F es σ h λxs h1=>WC Xc (F f xs) h1 Q
 |.bi f es,σ,h,Q=>zQ Xc F es σ h λxs h1=>Mb Xc f xs h1 Q
 |.fE t a,σ,h,Q=>wE Xc F a σ h λx h1=>bI (rA h1 x) λs=>Q (.bl (s.sub t)) h1
 |.chain o o' a b c,σ,h,Q=>wE Xc F a σ h λx h1=>wE Xc F b σ h1 λy h2=>wN Xc o x y h2 λz h3=>bI (qZ z) λt=>aM t (wE Xc F c σ h3 λu h4=>wN Xc o' y u h4 Q) (Q (.bl aF) h3)
 |.app o a,σ,h,Q=>wE Xc F o σ h λx h1=>aM (iX h1 x) (wE Xc F a σ h1 λy h2=>WC Xc (kP x y) h2 Q) False
 |.yR o a,σ,h,Q=>wE Xc F o σ h λx h1=>aM (iX h1 x) (wE Xc F a σ h1 λy h2=>WC Xc (vL x y) h2 Q) False
 |.xZ,_,h,Q=>Q (.ref h.nx) (h.new (.bQ []))
 |.tm k o a,σ,h,Q=>wE Xc F o σ h λx h1=>bI (BS x) λz=>wE Xc F a σ h1 λy h2=>WC Xc (iP k (.str z) y) h2 Q
 |.fq ts a,σ,h,Q=>wE Xc F a σ h λx h1=>WC Xc (yI ts x) h1 Q
 |.wK neg aE a,σ,h,Q=>wE Xc F a σ h λx h1=>WC Xc (nG neg aE x) h1 Q
 |.ft aE a,σ,h,Q=>wE Xc F a σ h λx h1=>WC Xc (yJ aE x) h1 Q
 |.join z a,σ,h,Q=>wE Xc F a σ h λx h1=>WC Xc (yG z x) h1 Q
 |.kc k a,σ,h,Q=>wE Xc F a σ h λx h1=>WC Xc (k.g x) h1 Q
 |.eL cs a,σ,h,Q=>wE Xc F a σ h λx h1=>WC Xc (tH cs x) h1 Q
 |.wV cs a,σ,h,Q=>wE Xc F a σ h λx h1=>WC Xc (vN cs x) h1 Q
 |e,σ,h,Q=>WC Xc (aN F e σ) h Q
noncomputable def wT(Xc:Nat->AH->Prop)(F:Run):Ex->aH->AH->(Bool->AH->Prop)->Prop
 |.var i,σ,h,Q=>bI σ[i]? λo=>bI o λv=>uE Xc v h Q
 |.cmp o a b,σ,h,Q=>wE Xc F a σ h λx h1=>wE Xc F b σ h1 λy h2=>wN Xc o x y h2 λz h3=>bI (qZ z) λt=>Q t h3
 |.not a,σ,h,Q=>wT Xc F a σ h λb h1=>Q (!b) h1
 |.and a b,σ,h,Q=>wT Xc F a σ h λt h1=>aM t (wT Xc F b σ h1 Q) (Q aF h1)
 |.or a b,σ,h,Q=>wT Xc F a σ h λt h1=>aM t (Q aB h1) (wT Xc F b σ h1 Q)
 |.chain o o' a b c,σ,h,Q=>wE Xc F a σ h λx h1=>wE Xc F b σ h1 λy h2=>wN Xc o x y h2 λz h3=>bI (qZ z) λt=>aM t (wE Xc F c σ h3 λu h4=>wN Xc o' y u h4 λz h5=>bI (qZ z) λt=>Q t h5) (Q aF h3)
 |.call f es,σ,h,Q=>zQ Xc F es σ h λxs h1=>WC Xc (F f xs) h1 λv h2=>uE Xc v h2 Q
 |.fE t a,σ,h,Q=>wE Xc F a σ h λx h1=>bI (rA h1 x) λs=>Q (s.sub t) h1
 |.wK neg aE a,σ,h,Q=>wE Xc F a σ h λx h1=>WC Xc (nG neg aE x) h1 λz h3=>bI (qZ z) λt=>Q t h3
 |.eL cs a,σ,h,Q=>wE Xc F a σ h λx h1=>WC Xc (tH cs x) h1 λv h3=>uE Xc v h3 Q
 |.tm k o a,σ,h,Q=>wE Xc F o σ h λx h1=>bI (BS x) λz=>wE Xc F a σ h1 λy h2=>WC Xc (iP k (.str z) y) h2 λv h3=>uE Xc v h3 Q
 |.kc k a,σ,h,Q=>wE Xc F a σ h λx h1=>WC Xc (k.g x) h1 λv h3=>uE Xc v h3 Q
 |e,σ,h,Q=>WC Xc (dQ F e σ) h Q
noncomputable def zQ(Xc:Nat->AH->Prop)(F:Run):gO->aH->AH->(List AV->AH->Prop)->Prop
 |.nil,_,h,Q=>Q [] h
 |.cons e es,σ,h,Q=>wE Xc F e σ h λx h1=>zQ Xc F es σ h1 λxs h2=>Q (x::xs) h2
end
mutual
noncomputable def wA(Xc:Nat->AH->Prop)(F:Run):Tg->AV->aH->AH->(aH->AH->Prop)->Prop
 |.nm i,v,σ,h,K=>K (σ.set i (aA v)) h
 |.tup n ts,v,σ,h,K=>bI (eD h v) λxs=>aM (decide (xs.length=n)) (Ma Xc F ts xs σ h K) False
 |t,v,σ,h,K=>WC Xc (nB F t v σ) h K
noncomputable def Ma(Xc:Nat->AH->Prop)(F:Run):vC->List AV->aH->AH->(aH->AH->Prop)->Prop
 |.nil,[],σ,h,K=>K σ h
 |.nil,_::_,_,_,_=>False
 |.cons _ _,[],_,_,_=>False
 |.cons t ts,v::vs,σ,h,K=>wA Xc F t v σ h λσ1 h1=>Ma Xc F ts vs σ1 h1 K
end
mutual
noncomputable def wS(Xc:Nat->AH->Prop)(F:Run):Sx->aH->AH->(aH->AH->Prop)->(AV->AH->Prop)->(aH->AH->Prop)->(aH->AH->Prop)->Prop
 |.pass,σ,h,N,_,_,_=>N σ h
 |.brk,σ,h,_,_,B,_=>B σ h
 |.cnt,σ,h,_,_,_,C=>C σ h
 |.pw,_,h,_,R,_,_=>R .aK h
 |.expr e,σ,h,N,_,_,_=>wE Xc F e σ h λ_ h1=>N σ h1
 |.ret e,σ,h,_,R,_,_=>wE Xc F e σ h R
 |.asg t e,σ,h,N,_,_,_=>wE Xc F e σ h λv h1=>wA Xc F t v σ h1 N
 |.ite c a b,σ,h,N,R,B,C=>wT Xc F c σ h λt h1=>aM t (mQ Xc F a σ h1 N R B C) (mQ Xc F b σ h1 N R B C)
 |.aug sub i e,σ,h,N,_,_,_=>bI σ[i]? λo=>bI o λv=>bI (kg v) λa=>wE Xc F e σ h λy h1=>bI (kg y) λj=>N (σ.set i (aA (.int (if sub=aB then a-j else a+j)))) h1
 |s,σ,h,N,R,B,C=>WB Xc (iU F s σ) h N R B C
noncomputable def mQ(Xc:Nat->AH->Prop)(F:Run):bX->aH->AH->(aH->AH->Prop)->(AV->AH->Prop)->(aH->AH->Prop)->(aH->AH->Prop)->Prop
 |.nil,σ,h,N,_,_,_=>N σ h
 |.cons s ss,σ,h,N,R,B,C=>wS Xc F s σ h (λσ1 h1=>mQ Xc F ss σ1 h1 N R B C) R B C
end
section
variable {Xc:Nat->AH->Prop}{F:Run}
theorem bI.ex{α:Type}{o:Option α}{K:α->Prop}(w:bI o K):∃v,o=aA v/\K v:=by
 cases o with
 |some v=>exact⟨v,rfl,w⟩|none=>exact w.elim
theorem aM.an{b:Bool}{A:Prop}(w:aM b A False):b=aB/\A:=by
 cases b with
 |true=>exact⟨rfl,w⟩|false=>exact w.elim
theorem aM.len{c:Prop} [Decidable c] {A:Prop}(w:aM (decide c) A False):c/\A:=⟨of_decide_eq_true (aM.an w).1,(aM.an w).2⟩
theorem Xf{n:Nat}(h:Oh n 64=aB):n<=sizeLine:=eN (Nat.le_of_ble_eq_true h) (by decide)
theorem aFe{o:Op}{x y:AV}{h:AH}{Q:AV->AH->Prop}(w:FF Xc o x y h Q):We Xc (o.g x y) h Q:=by
 cases o with
 |add=>cases x<;>first|exact WC.we w|(cases y<;>first|exact WC.we w|exact aFr w)
 |sub=>cases x<;>first|exact WC.we w|(cases y<;>first|exact WC.we w|exact aGv w)
 |mod=>cases x<;>first|exact WC.we w|(cases y<;>first|exact WC.we w|exact aGm (aM.len w).1 (aM.len w).2)
 |fdiv=>cases x<;>first|exact WC.we w|(cases y<;>first|exact WC.we w|exact aFz (aM.an w).1 (aM.an w).2)
 |mul=>cases x<;>first|exact WC.we w|(cases y<;>first|exact WC.we w|exact aGn (aM.an w).1 (aM.an w).2)
 |ix=>cases x<;>first|exact WC.we w|(cases y<;>first|exact WC.we w|(obtain⟨v,e,q⟩:=bI.ex w;exact iL rfl e q))
 |_=>exact WC.we w
theorem fv{o:Cp}{x y:AV}{h:AH}{Q:AV->AH->Prop}(w:wN Xc o x y h Q):We Xc (o.g x y) h Q:=by
 cases o with
 |lt=>cases x<;>first|exact WC.we w|(cases y<;>first|exact WC.we w|exact aGl w)
 |le=>cases x<;>first|exact WC.we w|(cases y<;>first|exact WC.we w|exact aGj w)
 |gt=>cases x<;>first|exact WC.we w|(cases y<;>first|exact WC.we w|exact aGb w)
 |ge=>cases x<;>first|exact WC.we w|(cases y<;>first|exact WC.we w|exact aGa w)
 |eq=>cases x<;>first|exact WC.we w|(cases y<;>first|exact WC.we w|exact aFw w|exact aFx w)
 |ne=>cases x<;>first|exact WC.we w|(cases y<;>first|exact WC.we w|exact aGq w|exact aGr w)
 |nI=>cases y<;>first|exact WC.we w|exact aGf w
 |isn=>cases y<;>first|exact WC.we w|exact aGg w
 |_=>exact WC.we w
theorem wO{x:AV}{h:AH}{Q:Bool->AH->Prop}(w:uE Xc x h Q):We Xc (cV x) h Q:=by cases x<;>first|exact WC.we w|exact w
theorem aFd{x:AV}{h:AH}{Q:AV->AH->Prop}(w:FE Xc x h Q):We Xc (jv x) h Q:=by cases x<;>first|exact WC.we w|exact w
theorem aFb{f:Bi}{xs:List AV}{h:AH}{Q:AV->AH->Prop}(w:Mb Xc f xs h Q):We Xc (f.g xs) h Q:=by
 unfold Mb at w;split at w
 .split at w
  .exact zS rfl w
  .exact WC.we w
 .split at w
  .exact w
  .exact w
  .exact WC.we w
 .split at w
  .exact w
  .exact WC.we w
 .split at w
  .exact w
  .exact WC.we w
 .split at w
  .exact FZ rfl w
  .exact WC.we w
 .exact WC.we w
theorem vv{m:M AV}{h:AH}{Q:Bool->AH->Prop}(w:We Xc m h λz h1=>bI (qZ z) λt=>Q t h1):We Xc m h λz h1=>∃t,z = .bl t/\Q t h1:=w.mono λz h1 w=>by obtain⟨t,e,q⟩:=bI.ex w;cases z<;>cases e;exact⟨_,rfl,q⟩
mutual
theorem bR(e:Ex):∀{σ:aH}{h:AH}{Q:AV->AH->Prop},wE Xc F e σ h Q->We Xc (aN F e σ) h Q:=by
 intro σ h Q w;cases e with
 |var i=>obtain⟨o,e1,w⟩:=bI.ex w;obtain⟨v,e2,w⟩:=bI.ex w;subst e2;exact gZ e1 w
 |val v=>exact w|op o a b=>exact aHt ((bR a w).mono λx h1 w=>(bR b w).mono λy h2 w=>aFe w)|cmp o a b=>exact aHm ((bR a w).mono λx h1 w=>(bR b w).mono λy h2 w=>fv w)|neg a=>exact aHq ((bR a w).mono λx h1 w=>aFd w)|not a=>exact aHs ((bR a w).mono λx h1 w=>wO w)|and a b=>exact aHj ((bR a w).mono λx h1 w=>(wO w).mono λt h2 w=>aM.ite (w.mp (bR b) id))|or a b=>exact aHu ((bR a w).mono λx h1 w=>(wO w).mono λt h2 w=>aM.ite (w.mp id (bR b)))|ite c a b=>exact aHn ((mR c w).mono λt h1 w=>aM.ite (w.mp (bR a) (bR b)))|tup es=>exact aHz ((sA es w).mono λxs h1 w=>⟨Xf (aM.an w).1,(aM.an w).2⟩)|lst es=>exact aHp ((sA es w).mono λxs h1 w=>⟨Xf (aM.an w).1,(aM.an w).2⟩)|call f es=>exact GB ((sA es w).mono λxs h1 w=>w.we)|bi f es=>exact aHl ((sA es w).mono λxs h1 w=>aFb w)|fE t a=>exact GF ((bR a w).mono λx h1 w=>by obtain⟨s,e,w⟩:=bI.ex w;exact FQ e w)
 |chain o o' a b c=>exact GC ((bR a w).mono λx h1 w=>(bR b w).mono λy h2 w=>vv ((fv w).mono λz h3 w=>by obtain⟨t,e,w⟩:=bI.ex w;exact bI.of e (aM.ite (w.mp (λw=>(bR c w).mono λu h4 w=>fv w) id))))
 |app o a=>exact aHk ((bR o w).mono λx h1 w=>⟨(aM.an w).1,(bR a (aM.an w).2).mono λy h2 w=>w.we⟩)|yR o a=>exact aHo ((bR o w).mono λx h1 w=>⟨(aM.an w).1,(bR a (aM.an w).2).mono λy h2 w=>w.we⟩)|xZ=>exact w|tm k o a=>exact bA ((bR o w).mono λx h1 w=>by obtain⟨z,e,w⟩:=bI.ex w;cases x<;>cases e;exact bA ((bR a w).mono λy h2 w=>w.we))
 |fq ts a=>exact bA ((bR a w).mono λx h1 w=>w.we)|wK neg aE a=>exact bA ((bR a w).mono λx h1 w=>w.we)|ft aE a=>exact bA ((bR a w).mono λx h1 w=>w.we)|join z a=>exact bA ((bR a w).mono λx h1 w=>w.we)|kc k a=>exact bA ((bR a w).mono λx h1 w=>w.we)|eL cs a=>exact bA ((bR a w).mono λx h1 w=>w.we)|wV cs a=>exact bA ((bR a w).mono λx h1 w=>w.we)|_=>exact WC.we w
theorem mR(e:Ex):∀{σ:aH}{h:AH}{Q:Bool->AH->Prop},wT Xc F e σ h Q->We Xc (dQ F e σ) h Q:=by
 intro σ h Q w;cases e with
 |var i=>obtain⟨o,e1,w⟩:=bI.ex w;obtain⟨v,e2,w⟩:=bI.ex w;subst e2;exact aIt (gZ e1 (wO w))
 |cmp o a b=>exact aIp ((bR a w).mono λx h1 w=>(bR b w).mono λy h2 w=>vv (fv w))|not a=>exact aIr (mR a w)|and a b=>exact aIm ((mR a w).mono λt h1 w=>aM.ite (w.mp (mR b) id))|or a b=>exact aIs ((mR a w).mono λt h1 w=>aM.ite (w.mp id (mR b)))|chain o o' a b c=>exact aIo (GC ((bR a w).mono λx h1 w=>(bR b w).mono λy h2 w=>vv ((fv w).mono λz h3 w=>by obtain⟨t,e,w⟩:=bI.ex w;exact bI.of e (aM.ite (w.mp (λw=>(bR c w).mono λu h4 w=>vv (fv w)) λw=>⟨_,rfl,w⟩)))))
 |call f es=>exact aIn (GB ((sA es w).mono λxs h1 w=>w.we.mono λv h2 w=>wO w))|fE t a=>exact aIq (GF ((bR a w).mono λx h1 w=>by obtain⟨s,e,w⟩:=bI.ex w;exact FQ e w))
 |wK neg aE a=>exact bA (bA ((bR a w).mono λx h1 w=>w.we.mono λz h3 w=>by obtain⟨t,e,q⟩:=bI.ex w;cases z<;>cases e;exact q))
 |tm k o a=>exact bA (bA ((bR o w).mono λx h1 w=>by obtain⟨z,e,w⟩:=bI.ex w;cases x<;>cases e;exact bA ((bR a w).mono λy h2 w=>w.we.mono λv h3 w=>wO w)))
 |kc k a=>exact bA (bA ((bR a w).mono λx h1 w=>w.we.mono λv h3 w=>wO w))|eL cs a=>exact bA (bA ((bR a w).mono λx h1 w=>w.we.mono λv h3 w=>wO w))|_=>exact WC.we w
theorem sA(es:gO):∀{σ:aH}{h:AH}{Q:List AV->AH->Prop},zQ Xc F es σ h Q->We Xc (fA F es σ) h Q:=by
 intro σ h Q w;cases es with
 |nil=>exact w|cons e es=>exact Cc ((bR e w).mono λx h1 w=>sA es w)
end
mutual
theorem kY(t:Tg):∀{v:AV}{σ:aH}{h:AH}{K:aH->AH->Prop},wA Xc F t v σ h K->We Xc (nB F t v σ) h K:=by
 intro v σ h K w;cases t with
 |nm i=>exact w|tup n ts=>obtain⟨xs,e,w⟩:=bI.ex w;exact aFk e (aM.len w).1 (FD ts (aM.len w).2)
 |_=>exact WC.we w
theorem FD(ts:vC):∀{vs:List AV}{σ:aH}{h:AH}{K:aH->AH->Prop},Ma Xc F ts vs σ h K->We Xc (vD F ts vs σ) h K:=by
 intro vs σ h K w;cases ts with
 |nil=>
  cases vs with
  |nil=>exact w|cons=>exact w.elim
 |cons t ts=>
  cases vs with
  |nil=>exact w.elim|cons v vs=>exact aFh ((kY t w).mono λσ1 h1 w=>FD ts w)
end
mutual
theorem aFf(s:Sx):∀{σ:aH}{h:AH}{N:aH->AH->Prop}{R:AV->AH->Prop}{B C:aH->AH->Prop},wS Xc F s σ h N R B C->Wt Xc (iU F s σ) h N R B C:=by
 intro σ h N R B C w;cases s with
 |pass=>exact w|brk=>exact w|cnt=>exact w|pw=>exact w|expr e=>exact aIf (bR e w)|ret e=>exact aIk (bR e w)|asg t e=>exact aIb ((bR e w).mono λv h1 w=>kY t w)|ite c a b=>exact aIi ((mR c w).mono λt h1 w=>aM.ite (w.mp (jE a) (jE b)))|aug sub i e=>
  obtain⟨o,e1,w⟩:=bI.ex w;obtain⟨v,e2,w⟩:=bI.ex w;obtain⟨a,e3,w⟩:=bI.ex w;subst e2;cases v<;>cases e3;exact aIc e1 ((bR e w).mono λy h1 w=>by obtain⟨j,e4,w⟩:=bI.ex w;cases y<;>cases e4;exact⟨_,rfl,w⟩)
 |_=>exact WB.wt w
theorem jE(ss:bX):∀{σ:aH}{h:AH}{N:aH->AH->Prop}{R:AV->AH->Prop}{B C:aH->AH->Prop},mQ Xc F ss σ h N R B C->Wt Xc (iV F ss σ) h N R B C:=by
 intro σ h N R B C w;cases ss with
 |nil=>exact w|cons s ss=>
  refine aIe ((aFf s w).mono λo h1 w=>?_);cases o with
  |nx σ=>exact jE ss w|ret v=>exact w|brk σ=>exact w|cnt σ=>exact w
end
end
def Bu(Xc:Nat->AH->Prop)(F:Run)(e:Ex)(σ:aH)(h:AH)(K:Option Int->AH->Prop):Prop:=match e with
 |.no=>K aD h
 |e=>wE Xc F e σ h λx h1=>bI (kg x) λi=>K (aA i) h1
theorem FG{Xc:Nat->AH->Prop}{F:Run}{e:Ex}{σ:aH}{h:AH}{K:Option Int->AH->Prop}(w:Bu Xc F e σ h K):We Xc (nM e (aN F e σ)) h K:=by
 unfold Bu at w;split at w
 .exact w
 .rename_i hn;have key:We Xc (aN F e σ) h λx h1=>∃i,x = .int i/\K (aA i) h1:=(bR e w).mono λx h1 w=>by obtain⟨i,e,q⟩:=bI.ex w;cases x<;>cases e;exact⟨_,rfl,q⟩
  exact aHv (λm=>by unfold nM;split;exact absurd rfl hn;rfl) key
theorem lU{Xc:Nat->AH->Prop}{F:Run}{a lo hi:Ex}{σ:aH}{h:AH}{Q:AV->AH->Prop}(w:wE Xc F a σ h λx h1=>Bu Xc F lo σ h1 λl h2=>Bu Xc F hi σ h2 λu h3=>WC Xc (lO x l u) h3 Q):WC Xc (aN F (.slice a lo hi) σ) h Q:=
 WC.of (aHy ((bR a w).mono λ_ _ w=>(FG w).mono λ_ _ w=>(FG w).mono λ_ _ w=>w.we))
theorem aHx{Xc:Nat->AH->Prop}{P:Pg}{k f np nn:Nat}{b:bX}{args:List AV}{h:AH}{R:AV->AH->Prop}(e:P f=aA (np,nn,b))(hl:args.length=np)(w:mQ Xc (run P k) b (args.map aA++cJ (nn-np) aD) h (λ_ h1=>R .aK h1) R (λ_ _=>False) (λ_ _=>False)):We Xc (run P (k+1) f args) h R:=aHw e hl (jE b w)
section
variable {Xc:Nat->AH->Prop}{F:Run}{σ:aH}{h:AH}{Q:fR->AH->Prop}
theorem VS{x:AV}{K:Int->Prop}(w:bI (kg x) K):∃i,x = .int i/\K i:=by obtain⟨i,e,q⟩:=bI.ex w;cases x<;>cases e;exact⟨_,rfl,q⟩
theorem Ca{a:Ex}(w:wE Xc F a σ h λx h1=>bI (kg x) λj=>wF j=aB/\Q (qD 0 j.toNat) h1):We Xc (cO F (.wD (.cons a .nil)) σ) h Q:=
 aHb (Cc ((bR a w).mono λx h1 w=>GG (by obtain⟨j,rfl,w⟩:=VS w;exact⟨j,rfl,w⟩)))
theorem nX{a:Ex}(w:wE Xc F a σ h λx h1=>We Xc (tI x) h1 Q):We Xc (cO F (.seq a) σ) h Q:=Cb (bR a w)
end
def Ik:Option (Option Value)->Addr->Bool
 |some (aA (.ref a)),f=>a==f
 |_,_=>aF
def Ij:Option (Option Value)->Bool
 |some aD=>aB
 |_=>aF
theorem WL{o:Option (Option Value)}{f:Addr}(h:Ik o f=aB):o=aA (aA (.ref f)):=by
 unfold Ik at h;split at h
 .rw[eq_of_beq h]
 .cases h
theorem WK{o:Option (Option Value)}(h:Ij o=aB):o=aA aD:=by
 unfold Ij at h;split at h
 .rfl
 .cases h
def ku(K:aX)(p:Pr)(lI:List Addr):Bool:=((p.defs.take p.yD).zip lI).all (λx=>Ik (gS K eJ x.1.name) x.2)&&p.gP.all λx=>Ij (gS K eJ x)
theorem lG.len{K:aX}{ds:List Df}{as:List Addr}{fs:List eW}(h:lG K ds as fs):ds.length=as.length:=by
 induction h with
 |nil=>rfl|cons _ _ ih=>rw[hJ,hJ,ih]
theorem lG.one{K:aX}{nm qu:Str}{st:Stmt}{N ps:List Str}{f:Addr}{oc dV kV doc pm cd ct:Value}{od an:Option Addr}{sl:Array (Option Value)}{ds:List Df}{as:List Addr}{fs:List eW}
  (l:K.lookup f=aA ⟨oc,od,.func (ib nm qu (wk st) (vJ st) (oO st) dV kV doc pm an cd ct),sl⟩) (c:Pb K cd qu=aB) (k:ic K (.ref f)=aB)
  (b:Binds K (ib nm qu (wk st) (vJ st) (oO st) dV kV doc pm an cd ct) ps []) (s:iy N ps (oO st)) (t:lG K ds as fs):lG K (⟨nm,qu,st,N,ps⟩::ds) (f::as) (ib nm qu (wk st) (vJ st) (oO st) dV kV doc pm an cd ct::fs):=
 .cons ⟨⟨⟨_,_,_,_,_,_,_,_,_,_,rfl,l,c⟩,k⟩,b,s⟩ t
section
variable {P:bG}{w:bD}{K:aX}{h:aQ}{mg:Str->Option Value}{p:Pr}{lI:List Addr}{fds:List eW}{cs:List (Nat×Addr)}{G:List (Str×Int)->Addr->Prop}{f0:eW}
theorem Yl(X:K.In h)(N:h.Ns eJ mg)(D:lG K p.defs lI fds)(ok:ku K p lI=aB):∀(i:Nat) d,(p.defs.take p.yD)[i]?=aA d->mg d.name=aA (.ref (lI.getD i 0)):=λi d hd=>by
 unfold ku at ok;rw[aY]at ok;have hi:=(List.getElem?_eq_some_iff.mp hd).1;rw[eT,D.len]at hi;have ha:lI[i]?=aA (lI.getD i 0):=by rw[aJo,cZ (by omega)];rfl
 have hm:(d,lI.getD i 0)∈(p.defs.take p.yD).zip lI:=fQ (i:=i) (by rw[IT];exact⟨hd,ha⟩);exact iA X N (WL (List.all_eq_true.mp ok.1 _ hm))
theorem ZZ(X:K.In h)(N:h.Ns eJ mg)(ok:ku K p lI=aB):∀x,p.gP.contains x=aB->mg x=aD:=λx hx=>by unfold ku at ok;rw[aY]at ok;exact KP X N (WK (List.all_eq_true.mp ok.2 x (List.contains_iff_mem.mp hx)))
end
end AM
namespace AMx
open PySem PySem.Spec PyProof.Rows L2 AM
def top(i:Nat):Stmt:=PySem.Challenge.pw_aheadmill_k12_labels.main.body.getD i (.Pass ⟨0,0,0,0⟩)
def cb(i j:Nat):Stmt:=(PN (top i)).getD j (.Pass ⟨0,0,0,0⟩)
def jC:List (Str×List Str):=[("set",["box","word"]),("move",["box","box"]),("sum",["box","box","box"]),("less",["box","box","box"]),("times",["box","box","box"]),("share",["box","box","box"]),("rest",["box","box","box"]),("both",["box","box","box"]),("some",["box","box","box"]),("odd",["box","box","box"]),("up",["box","box","box"]),("down",["box","box","box"]),("below",["box","box","box"]),("same",["box","box","box"]),("load",["box","box","step"]),("store",["box","box","step"]),("jump",["box","target"]),("go",["target"]),("fault",["word"])]
def qo:List (Str×AV):=jC.map λp=>(p.1,AV.tup (p.2.map AV.str))
noncomputable abbrev RW:Nat:=0
noncomputable abbrev TK:Nat:=1
noncomputable abbrev SW:Nat:=2
noncomputable abbrev RY:Nat:=3
noncomputable abbrev SX:Nat:=4
noncomputable abbrev TF:Nat:=5
noncomputable abbrev TH:Nat:=6
noncomputable abbrev RX:Nat:=7
noncomputable abbrev SY:Nat:=8
noncomputable abbrev TB:Nat:=9
noncomputable abbrev RZ:Nat:=10
noncomputable abbrev TJ:Nat:=11
noncomputable abbrev SA:Nat:=12
noncomputable abbrev RV:Nat:=13
noncomputable abbrev Tx:Nat:=14
noncomputable abbrev SH:Nat:=15
noncomputable abbrev SO:Nat:=16
noncomputable abbrev SS:Nat:=17
noncomputable abbrev Tu:Nat:=18
noncomputable abbrev SV:Nat:=19
noncomputable abbrev SM:Nat:=20
noncomputable abbrev SK:Nat:=21
noncomputable abbrev SQ:Nat:=22
noncomputable abbrev jm:Nat:=23
noncomputable abbrev SE:Nat:=24
noncomputable abbrev SJ:Nat:=25
noncomputable abbrev Tv:Nat:=26
noncomputable abbrev SN:Nat:=27
noncomputable abbrev SU:Nat:=28
noncomputable abbrev SI:Nat:=29
noncomputable abbrev Ts:Nat:=30
noncomputable abbrev SG:Nat:=31
noncomputable abbrev SR:Nat:=32
noncomputable abbrev SD:Nat:=33
noncomputable abbrev aMo:Nat:=34
noncomputable abbrev aMp:Nat:=35
noncomputable abbrev aMn:Nat:=36
def Gs:List Df:=[⟨"bare","bare",top 19,["line"],["line"]⟩,⟨"words_in","words_in",top 20,["line"],["line"]⟩,⟨"made_of","made_of",top 21,["text","signs"],["text","signs"]⟩,⟨"is_label","is_label",top 22,["word"],["word"]⟩,⟨"number_in","number_in",top 23,["figures","greatest","number"],["figures","greatest"]⟩,⟨"step_in","step_in",top 24,["word","number"],["word"]⟩,⟨"target_in","target_in",top 25,["word"],["word"]⟩,⟨"box_in","box_in",top 26,["word"],["word"]⟩,⟨"part_in","part_in",top 27,["form","word"],["form","word"]⟩,⟨"row_in","row_in",top 28,["line","words","forms","parts"],["line"]⟩,⟨"label_in","label_in",top 29,["line","left"],["line"]⟩,⟨"told_lines","told_lines",top 31,["text","told","number","line","label","row"],["text"]⟩,⟨"labels_in","labels_in",top 32,["told","labels","above","number","label","row"],["told"]⟩,⟨"aimed","aimed",top 33,["row","number","labels","many","target"],["row","number","labels","many"]⟩,⟨"read","read",top 34,["text","told","labels","rows"],["text"]⟩,⟨"_law_cell_at","_law_cell_at",top 36,["_law_script","_law_k"],["_law_script","_law_k"]⟩,⟨"_law_number","_law_number",top 37,["_law_cell","_law_k"],["_law_cell","_law_k"]⟩,⟨"_law_remark","_law_remark",top 38,["_law_number_here","_law_some","_law_signs","_law_k","_law_at"],["_law_number_here"]⟩,⟨"_law_line","_law_line",top 39,["_law_words","_law_number_here","_law_line_here","_law_k","_law_word"],["_law_words","_law_number_here"]⟩,⟨"_law_text","_law_text",top 40,["_law_items","_law_dress","_law_lines","_law_k","_law_item_here","_law_line_here","_law_words"],["_law_items","_law_dress"]⟩,⟨"_law_letters","_law_letters",top 41,["_law_number_here","_law_many","_law_small","_law_found","_law_k","_law_at"],["_law_number_here","_law_many"]⟩,⟨"_law_labels","_law_labels",top 42,["_law_cell","_law_number_here","_law_rest","_law_letters_here","_law_at","_law_small","_law_some","_law_k","_law_letter"],["_law_cell"]⟩,⟨"_law_plain_line","_law_plain_line",top 43,["_law_number_here","_law_some","_law_rows"],["_law_number_here"]⟩,⟨"_law_target_line","_law_target_line",top 44,["_law_target","_law_number_here","_law_row"],["_law_target","_law_number_here"]⟩,⟨"_law_bad_line","_law_bad_line",top 45,["_law_number_here","_law_label","_law_some"],["_law_number_here","_law_label"]⟩,⟨"_law_item","_law_item",top 46,["_law_cell","_law_k","_law_labels_here","_law_way","_law_number_here","_law_kind","_law_rest"],["_law_cell","_law_k","_law_labels_here","_law_way"]⟩,⟨"_law_once","_law_once",top 47,["_law_items","_law_labels_here","_law_found","_law_seen","_law_line_here","_law_what"],["_law_items","_law_labels_here"]⟩,⟨"_law_low","_law_low",top 48,["_law_items","_law_many","_law_found","_law_line_here","_law_what"],["_law_items"]⟩,⟨"_law_spots","_law_spots",top 49,["_law_items","_law_spots_here","_law_many","_law_line_here","_law_what"],["_law_items"]⟩,⟨"_law_due","_law_due",top 50,["_law_items","_law_spots_here","_law_many","_law_kinds","_law_seen","_law_k","_law_item_here","_law_rows","_law_row","_law_target"],["_law_items"]⟩,⟨"_law_is_program","_law_is_program",top 51,["_law_found","_law_due_here","_law_row","_law_other","_law_part"],["_law_found","_law_due_here"]⟩,⟨"_law_caught","_law_caught",top 52,["_law_lines","_law_caught_here","error"],["_law_lines"]⟩,⟨"_law_refused","_law_refused",top 53,["_law_lines","_law_kind","_law_line_here","_law_caught_here","_law_found"],["_law_lines","_law_kind","_law_line_here"]⟩,⟨"law","law",top 54,["_law_script","_law_way","_law_labels_here","_law_items","_law_dress","_law_lines","_law_kind","_law_due_here"],["_law_script"]⟩,⟨"__init__","NoRow.__init__",cb 7 0,["self","line"],["self","line"]⟩,⟨"__init__","Twice.__init__",cb 8 0,["self","line"],["self","line"]⟩,⟨"__init__","NoLabel.__init__",cb 9 0,["self","line"],["self","line"]⟩]
def ND:bX:=(.cons (.ret (.tm .st (.op .ix (.tm .pa (.var 0) (.val (.str "#"))) (.val (.int 0))) (.val (.str " ")))) .nil)
def OJ:bX:=(.cons (.ret (.mD [aD] (.nm 0) (.seq (.tm .sp (.call 0 (.cons (.var 0) .nil)) (.val (.str " ")))) (.cmp .ne (.var 0) (.val (.str ""))) (.var 0))) .nil)
def OB:bX:=(.cons (.ret (.and (.cmp .ne (.var 0) (.val (.str ""))) (.kc .all (.oM [aD,aA 1] (.nm 0) (.seq (.var 0)) (.cmp .oU (.var 0) (.var 1)))))) .nil)
def NG:bX:=(.cons (.ret (.and (.call 2 (.cons (.var 0) (.cons (.val (.str "abcdefghijklmnopqrstuvwxyz")) .nil))) (.cmp .le (.bi .len (.cons (.var 0) .nil)) (.val (.int 8))))) .nil)
def OC:bX:=(.cons (.ite (.or (.not (.call 2 (.cons (.var 0) (.cons (.val (.str "0123456789")) .nil)))) (.cmp .gt (.bi .len (.cons (.var 0) .nil)) (.bi .len (.cons (.bi .str (.cons (.var 1) .nil)) .nil))))
 (.cons (.ret (.val .aK)) .nil)
 .nil) (.cons (.ite (.and (.cmp .ne (.var 0) (.val (.str "0"))) (.tm .sw (.var 0) (.val (.str "0"))))
 (.cons (.ret (.val .aK)) .nil)
 .nil) (.cons (.asg (.nm 2) (.bi .int (.cons (.var 0) .nil))) (.cons (.ret (.ite (.cmp .le (.var 2) (.var 1)) (.var 2) (.val .aK))) .nil))))
def OG:bX:=(.cons (.ite (.not (.tm .sw (.var 0) (.val (.str "-"))))
 (.cons (.ret (.call 4 (.cons (.var 0) (.cons (.val (.int 999)) .nil)))) .nil)
 .nil) (.cons (.asg (.nm 1) (.call 4 (.cons (.slice (.var 0) (.val (.int 1)) .no) (.cons (.val (.int 999)) .nil)))) (.cons (.ret (.ite (.or (.cmp .nI (.var 1) (.val .aK)) (.cmp .eq (.var 1) (.val (.int 0)))) (.val .aK) (.neg (.var 1)))) .nil)))
def OH:bX:=(.cons (.ret (.ite (.call 3 (.cons (.var 0) .nil)) (.var 0) (.call 4 (.cons (.var 0) (.cons (.val (.int 400)) .nil))))) .nil)
def NF:bX:=(.cons (.ret (.ite (.cmp .oU (.var 0) (.val (.tup [.str "a",.str "b",.str "c",.str "d",.str "e",.str "f",.str "g",.str "h"]))) (.fq ["a","b","c","d","e","f","g","h"] (.var 0)) (.val .aK))) .nil)
def OD:bX:=(.cons (.ite (.cmp .eq (.var 0) (.val (.str "box")))
 (.cons (.ret (.call 7 (.cons (.var 1) .nil))) .nil)
 .nil) (.cons (.ite (.cmp .eq (.var 0) (.val (.str "step")))
 (.cons (.ret (.call 5 (.cons (.var 1) .nil))) .nil)
 .nil) (.cons (.ite (.cmp .eq (.var 0) (.val (.str "target")))
 (.cons (.ret (.call 6 (.cons (.var 1) .nil))) .nil)
 .nil) (.cons (.ret (.call 4 (.cons (.var 1) (.cons (.val (.int 18446744073709551615)) .nil)))) .nil))))
def OF:bX:=(.cons (.asg (.nm 1) (.call 1 (.cons (.var 0) .nil))) (.cons (.ite (.or (.cmp .eq (.var 1) (.lst .nil)) (.wK aB qo (.op .ix (.var 1) (.val (.int 0)))))
 (.cons (.ret (.val .aK)) .nil)
 .nil) (.cons (.asg (.nm 2) (.ft qo (.op .ix (.var 1) (.val (.int 0))))) (.cons (.ite (.cmp .ne (.bi .len (.cons (.var 1) .nil)) (.op .add (.bi .len (.cons (.var 2) .nil)) (.val (.int 1))))
 (.cons (.ret (.val .aK)) .nil)
 .nil) (.cons (.asg (.nm 3) (.oM [aD,aD] (.tup [0,1]) (.zip (.cons (.var 2) (.cons (.slice (.var 1) (.val (.int 1)) .no) .nil))) (.call 8 (.cons (.var 0) (.cons (.var 1) .nil))))) (.cons (.ite (.kc .any (.oM [aD] (.nm 0) (.seq (.var 3)) (.cmp .nI (.var 0) (.val .aK))))
 (.cons (.ret (.val .aK)) .nil)
 .nil) (.cons (.ret (.op .add (.tup (.cons (.op .ix (.var 1) (.val (.int 0))) .nil)) (.bi .tuple (.cons (.var 3) .nil)))) .nil)))))))
def NH:bX:=(.cons (.asg (.nm 1) (.call 0 (.cons (.var 0) .nil))) (.cons (.ite (.and (.tm .ew (.var 1) (.val (.str ":"))) (.call 3 (.cons (.slice (.var 1) .no (.neg (.val (.int 1)))) .nil)))
 (.cons (.ret (.slice (.var 1) .no (.neg (.val (.int 1))))) .nil)
 .nil) (.cons (.ret (.val .aK)) .nil)))
def OI:bX:=(.cons (.asg (.nm 1) (.lst .nil)) (.cons (.jW (.tup 2 (.cons (.nm 2) (.cons (.nm 3) .nil))) (.enum (.tm .sp (.var 0) (.val (.str "\n"))))
 (.cons (.ite (.cmp .ne (.call 0 (.cons (.var 3) .nil)) (.val (.str "")))
 (.cons (.asg (.nm 4) (.call 10 (.cons (.var 3) .nil))) (.cons (.asg (.nm 5) (.call 9 (.cons (.var 3) .nil))) (.cons (.ite (.and (.cmp .nI (.var 4) (.val .aK)) (.cmp .nI (.var 5) (.val .aK)))
 (.cons (.zI 6 (.var 2)) .nil)
 .nil) (.cons (.expr (.app (.var 1) (.tup (.cons (.var 2) (.cons (.var 4) (.cons (.var 5) .nil)))))) .nil))))
 .nil) .nil)) (.cons (.ret (.var 1)) .nil)))
def NI:bX:=(.cons (.asg (.nm 1) .xZ) (.cons (.asg (.nm 2) (.val (.int 0))) (.cons (.jW (.tup 3 (.cons (.nm 3) (.cons (.nm 4) (.cons (.nm 5) .nil)))) (.seq (.var 0))
 (.cons (.ite (.cmp .nI (.var 4) (.val .aK))
 (.cons (.aug aF 2 (.val (.int 1))) .nil)
 (.cons (.ite (.cmp .oU (.var 4) (.var 1))
 (.cons (.zI 7 (.var 3)) .nil)
 (.cons (.asg (.sub (.var 1) (.var 4)) (.var 2)) .nil)) .nil)) .nil)) (.cons (.ret (.var 1)) .nil))))
def NC:bX:=(.cons (.ite (.and (.cmp .ne (.op .ix (.var 0) (.val (.int 0))) (.val (.str "jump"))) (.cmp .ne (.op .ix (.var 0) (.val (.int 0))) (.val (.str "go"))))
 (.cons (.ret (.var 0)) .nil)
 .nil) (.cons (.asg (.nm 4) (.op .ix (.var 0) (.neg (.val (.int 1))))) (.cons (.ite (.fE .str (.var 4))
 (.cons (.ite (.cmp .nin (.var 4) (.var 2))
 (.cons (.zI 8 (.var 1)) .nil)
 .nil) (.cons (.ret (.op .add (.slice (.var 0) .no (.neg (.val (.int 1)))) (.tup (.cons (.op .ix (.var 2) (.var 4)) .nil)))) .nil))
 .nil) (.cons (.ite (.cmp .gt (.var 4) (.var 3))
 (.cons (.zI 8 (.var 1)) .nil)
 .nil) (.cons (.ret (.var 0)) .nil)))))
def OE:bX:=(.cons (.asg (.nm 1) (.call 11 (.cons (.var 0) .nil))) (.cons (.asg (.nm 2) (.call 12 (.cons (.var 1) .nil))) (.cons (.asg (.nm 3) (.mD [aD,aD,aD] (.tup [0,1,2]) (.seq (.var 1)) (.cmp .nI (.var 1) (.val .aK)) (.tup (.cons (.var 0) (.cons (.var 2) .nil))))) (.cons (.ret (.oM [aD,aD,aA 2,aA 3] (.tup [0,1]) (.seq (.var 3)) (.call 13 (.cons (.var 1) (.cons (.var 0) (.cons (.var 2) (.cons (.bi .len (.cons (.var 3) .nil)) .nil))))))) .nil))))
def NL:bX:=(.cons (.ite (.cmp .lt (.var 1) (.bi .len (.cons (.var 0) .nil)))
 (.cons (.ret (.op .ix (.var 0) (.var 1))) .nil)
 .nil) (.cons (.ret (.val (.int 0))) .nil))
def NT:bX:=(.cons (.ret (.op .mod (.op .mul (.op .add (.op .add (.op .mod (.var 0) (.op .pow (.val (.int 10)) (.val (.int 20)))) (.op .mul (.var 1) (.var 1))) (.val (.int 1))) (.op .add (.val (.int 48271)) (.op .mul (.val (.int 2)) (.var 1)))) (.val (.int 2147483647)))) .nil)
def NX:bX:=(.cons (.asg (.nm 1) (.val (.str " !#$&'()*+,-./0123456789:;<=>?@ABCXYZ[]^_abcxyz{|}~"))) (.cons (.asg (.nm 2) (.val (.str "#"))) (.cons (.jW (.nm 3) (.wD (.cons (.op .mod (.var 0) (.val (.int 9))) .nil))
 (.cons (.asg (.nm 4) (.op .add (.op .fdiv (.var 0) (.val (.int 9))) (.op .mul (.op .fdiv (.var 0) (.op .add (.var 3) (.val (.int 13)))) (.var 3)))) (.cons (.asg (.nm 2) (.op .add (.var 2) (.op .ix (.var 1) (.op .mod (.var 4) (.bi .len (.cons (.var 1) .nil)))))) .nil))) (.cons (.ret (.var 2)) .nil))))
def NR:bX:=(.cons (.asg (.nm 2) (.op .mul (.val (.str " ")) (.op .mod (.var 1) (.val (.int 3))))) (.cons (.jW (.tup 2 (.cons (.nm 3) (.cons (.nm 4) .nil))) (.enum (.var 0))
 (.cons (.ite (.cmp .gt (.var 3) (.val (.int 0)))
 (.cons (.asg (.nm 2) (.op .add (.var 2) (.op .mul (.val (.str " ")) (.op .add (.val (.int 1)) (.op .mod (.op .fdiv (.var 1) (.op .add (.var 3) (.val (.int 3)))) (.val (.int 3))))))) .nil)
 .nil) (.cons (.asg (.nm 2) (.op .add (.var 2) (.var 4))) .nil))) (.cons (.asg (.nm 2) (.op .add (.var 2) (.op .mul (.val (.str " ")) (.op .mod (.op .fdiv (.var 1) (.val (.int 9))) (.val (.int 3)))))) (.cons (.ite (.cmp .eq (.op .mod (.op .fdiv (.var 1) (.val (.int 27))) (.val (.int 3))) (.val (.int 0)))
 (.cons (.asg (.nm 2) (.op .add (.var 2) (.call 17 (.cons (.op .fdiv (.var 1) (.val (.int 81))) .nil)))) .nil)
 .nil) (.cons (.ret (.var 2)) .nil)))))
def OA:bX:=(.cons (.asg (.nm 2) (.lst .nil)) (.cons (.jW (.tup 2 (.cons (.nm 3) (.cons (.nm 4) .nil))) (.enum (.var 0))
 (.cons (.asg (.nm 5) (.op .ix (.var 4) (.val (.int 0)))) (.cons (.ite (.cmp .isn (.var 1) (.val .aK))
 (.cons (.asg (.nm 6) (.mD [aD] (.nm 0) (.seq (.tm .sp (.var 5) (.val (.str " ")))) (.cmp .ne (.var 0) (.val (.str ""))) (.var 0))) (.cons (.asg (.nm 5) (.call 18 (.cons (.var 6) (.cons (.call 16 (.cons (.var 1) (.cons (.op .add (.var 3) (.val (.int 300))) .nil))) .nil)))) .nil))
 .nil) (.cons (.expr (.app (.var 2) (.var 5))) .nil)))) (.cons (.ret (.join "\n" (.var 2))) .nil)))
def NQ:bX:=(.cons (.asg (.nm 2) (.val (.str "abcdefghijklmnopqrstuvwxyz"))) (.cons (.asg (.nm 3) (.val (.str ""))) (.cons (.jW (.nm 4) (.wD (.cons (.var 1) .nil))
 (.cons (.asg (.nm 5) (.op .add (.var 0) (.op .mul (.op .fdiv (.var 0) (.op .add (.var 4) (.val (.int 7)))) (.op .add (.var 4) (.val (.int 1)))))) (.cons (.asg (.nm 3) (.op .add (.var 3) (.op .ix (.var 2) (.op .mod (.var 5) (.val (.int 26)))))) .nil))) (.cons (.ret (.var 3)) .nil))))
def NP:bX:=(.cons (.asg (.nm 1) (.call 16 (.cons (.var 0) (.cons (.val (.int 3)) .nil)))) (.cons (.asg (.nm 2) (.op .fdiv (.var 1) (.val (.int 4)))) (.cons (.ite (.cmp .eq (.op .mod (.var 1) (.val (.int 2))) (.val (.int 0)))
 (.cons (.asg (.nm 3) (.call 20 (.cons (.var 2) (.cons (.val (.int 8)) .nil)))) (.cons (.ret (.oM [aD,aA 3] (.nm 0) (.wD (.cons (.val (.int 8)) .nil)) (.slice (.var 1) .no (.op .add (.var 0) (.val (.int 1)))))) .nil))
 .nil) (.cons (.ite (.cmp .eq (.op .mod (.var 1) (.val (.int 8))) (.val (.int 1)))
 (.cons (.ret (.lst (.cons (.val (.str "go")) (.cons (.val (.str "set")) (.cons (.val (.str "jump")) (.cons (.val (.str "a")) (.cons (.val (.str "h")) (.cons (.val (.str "fault")) (.cons (.val (.str "load")) (.cons (.val (.str "some")) .nil)))))))))) .nil)
 .nil) (.cons (.asg (.nm 3) (.call 20 (.cons (.op .fdiv (.var 2) (.val (.int 64))) (.cons (.op .mod (.var 2) (.val (.int 8))) .nil)))) (.cons (.asg (.nm 4) (.op .mod (.op .fdiv (.var 2) (.val (.int 8))) (.op .add (.bi .len (.cons (.var 3) .nil)) (.val (.int 1))))) (.cons (.asg (.nm 5) (.val (.str "abcdefghijklmnopqrstuvwxyz"))) (.cons (.asg (.nm 6) (.lst .nil)) (.cons (.jW (.nm 7) (.wD (.cons (.val (.int 8)) .nil))
 (.cons (.asg (.nm 8) (.op .ix (.var 5) (.op .mod (.op .add (.op .fdiv (.var 2) (.val (.int 50))) (.var 7)) (.val (.int 26))))) (.cons (.expr (.app (.var 6) (.op .add (.op .add (.slice (.var 3) .no (.var 4)) (.var 8)) (.slice (.var 3) (.var 4) .no)))) .nil))) (.cons (.ret (.var 6)) .nil))))))))))
def NV:bX:=(.cons (.asg (.nm 1) (.lst (.cons (.val (.str "")) (.cons (.val (.str "# loop:")) (.cons (.val (.str "  ")) (.cons (.val (.str "set a 5")) (.cons (.val (.str "set h 18446744073709551615")) (.cons (.val (.str "move b c")) .nil)))))))) (.cons (.asg (.nm 1) (.op .add (.var 1) (.lst (.cons (.val (.str "load c d -3")) (.cons (.val (.str "store a b 12")) (.cons (.val (.str "rest c a b")) (.cons (.val (.str "fault 9")) (.cons (.val (.str "same g g g")) .nil)))))))) (.cons (.asg (.nm 2) (.lst (.cons (.val .aK) (.cons (.val .aK) (.cons (.val .aK) (.cons (.tup (.cons (.val (.str "set")) (.cons (.val (.int 0)) (.cons (.val (.int 5)) .nil)))) (.cons (.tup (.cons (.val (.str "set")) (.cons (.val (.int 7)) (.cons (.op .sub (.op .pow (.val (.int 2)) (.val (.int 64))) (.val (.int 1))) .nil)))) (.cons (.tup (.cons (.val (.str "move")) (.cons (.val (.int 1)) (.cons (.val (.int 2)) .nil)))) .nil)))))))) (.cons (.asg (.nm 2) (.op .add (.var 2) (.lst (.cons (.tup (.cons (.val (.str "load")) (.cons (.val (.int 2)) (.cons (.val (.int 3)) (.cons (.neg (.val (.int 3))) .nil))))) (.cons (.tup (.cons (.val (.str "store")) (.cons (.val (.int 0)) (.cons (.val (.int 1)) (.cons (.val (.int 12)) .nil))))) (.cons (.tup (.cons (.val (.str "rest")) (.cons (.val (.int 2)) (.cons (.val (.int 0)) (.cons (.val (.int 1)) .nil))))) (.cons (.tup (.cons (.val (.str "fault")) (.cons (.val (.int 9)) .nil))) (.cons (.tup (.cons (.val (.str "same")) (.cons (.val (.int 6)) (.cons (.val (.int 6)) (.cons (.val (.int 6)) .nil))))) .nil)))))))) (.cons (.ret (.lst (.cons (.op .ix (.var 1) (.op .mod (.var 0) (.val (.int 11)))) (.cons (.op .ix (.var 2) (.op .mod (.var 0) (.val (.int 11)))) .nil)))) .nil)))))
def NZ:bX:=(.cons (.asg (.nm 2) (.tup (.cons (.val (.str "go")) (.cons (.var 0) .nil)))) (.cons (.ite (.cmp .gt (.op .mod (.var 1) (.val (.int 3))) (.val (.int 0)))
 (.cons (.asg (.nm 2) (.tup (.cons (.val (.str "jump")) (.cons (.op .mod (.op .fdiv (.var 1) (.val (.int 3))) (.val (.int 8))) (.cons (.var 0) .nil))))) (.cons (.ret (.lst (.cons (.op .add (.op .add (.op .add (.val (.str "jump ")) (.op .ix (.val (.str "abcdefgh")) (.op .ix (.var 2) (.val (.int 1))))) (.val (.str " "))) (.bi .str (.cons (.var 0) .nil))) (.cons (.var 2) .nil)))) .nil))
 .nil) (.cons (.ret (.lst (.cons (.op .add (.val (.str "go ")) (.bi .str (.cons (.var 0) .nil))) (.cons (.var 2) .nil)))) .nil)))
def NJ:bX:=(.cons (.asg (.nm 2) (.lst (.cons (.val (.str "go")) (.cons (.val (.str "set a")) (.cons (.op .add (.val (.str "jump ")) (.var 1)) (.cons (.var 1) (.cons (.op .add (.var 1) (.val (.str " :"))) (.cons (.val (.str ":")) .nil)))))))) (.cons (.asg (.nm 2) (.op .add (.var 2) (.lst (.cons (.op .add (.var 1) (.val (.str ": go 0"))) (.cons (.val (.str "goto 0")) (.cons (.val (.str "go 401")) (.cons (.val (.str "set i 0")) .nil))))))) (.cons (.asg (.nm 2) (.op .add (.var 2) (.lst (.cons (.op .add (.var 1) (.val (.str "::"))) (.cons (.op .add (.val (.str ":")) (.var 1)) (.cons (.val (.str "Loop:")) (.cons (.val (.str "go -1")) .nil))))))) (.cons (.asg (.nm 2) (.op .add (.var 2) (.lst (.cons (.val (.str "a1:")) (.cons (.val (.str "move a 1")) (.cons (.val (.str "abcdefghi:")) (.cons (.val (.str "go 00")) .nil))))))) (.cons (.ret (.lst (.cons (.op .ix (.var 2) (.op .mod (.var 0) (.val (.int 18)))) (.cons (.val (.str "BAD")) .nil)))) .nil)))))
def NO:bX:=(.cons (.asg (.nm 4) (.call 16 (.cons (.var 0) (.cons (.var 1) .nil)))) (.cons (.asg (.nm 5) (.op .mod (.var 4) (.val (.int 10)))) (.cons (.asg (.nm 6) (.op .fdiv (.var 4) (.val (.int 10)))) (.cons (.ite (.and (.cmp .eq (.var 3) (.val (.int 3))) (.cmp .eq (.op .mod (.var 6) (.val (.int 12))) (.val (.int 5))))
 (.cons (.ret (.call 24 (.cons (.op .fdiv (.var 6) (.val (.int 12))) (.cons (.op .ix (.var 2) (.op .mod (.op .fdiv (.var 6) (.val (.int 12))) (.val (.int 8)))) .nil)))) .nil)
 .nil) (.cons (.ite (.cmp .lt (.var 5) (.val (.int 3)))
 (.cons (.ret (.lst (.cons (.op .add (.op .ix (.var 2) (.op .mod (.var 6) (.val (.int 8)))) (.val (.str ":"))) (.cons (.op .ix (.var 2) (.op .mod (.var 6) (.val (.int 8)))) .nil)))) .nil)
 .nil) (.cons (.ite (.cmp .lt (.var 5) (.val (.int 5)))
 (.cons (.ret (.call 22 (.cons (.var 6) .nil))) .nil)
 .nil) (.cons (.ite (.cmp .lt (.var 5) (.val (.int 8)))
 (.cons (.ret (.call 23 (.cons (.op .ix (.var 2) (.op .mod (.var 6) (.val (.int 8)))) (.cons (.op .fdiv (.var 6) (.val (.int 8))) .nil)))) .nil)
 .nil) (.cons (.ret (.call 23 (.cons (.op .mod (.var 6) (.val (.int 32))) (.cons (.op .fdiv (.var 6) (.val (.int 32))) .nil)))) .nil))))))))
def NU:bX:=(.cons (.asg (.nm 2) (.lst .nil)) (.cons (.asg (.nm 3) (.lst .nil)) (.cons (.jW (.tup 2 (.cons (.nm 4) (.cons (.nm 5) .nil))) (.seq (.var 0))
 (.cons (.ite (.and (.fE .str (.var 5)) (.cmp .oU (.var 5) (.var 3)))
 (.cons (.expr (.app (.var 2) (.lst (.cons (.val (.str "")) (.cons (.val .aK) .nil))))) .nil)
 (.cons (.expr (.app (.var 2) (.lst (.cons (.var 4) (.cons (.var 5) .nil))))) (.cons (.ite (.fE .str (.var 5))
 (.cons (.expr (.app (.var 3) (.var 5))) .nil)
 .nil) .nil))) .nil)) (.cons (.ret (.op .add (.var 2) (.mD [aD,aA 3] (.nm 0) (.seq (.var 1)) (.cmp .nin (.var 0) (.var 1)) (.lst (.cons (.op .add (.var 0) (.val (.str ":"))) (.cons (.var 0) .nil)))))) .nil))))
def NS:bX:=(.cons (.asg (.nm 1) (.bi .len (.cons (.mD [aD,aD] (.tup [0,1]) (.seq (.var 0)) (.fE .tup (.var 1)) (.var 1)) .nil))) (.cons (.asg (.nm 2) (.lst .nil)) (.cons (.jW (.tup 2 (.cons (.nm 3) (.cons (.nm 4) .nil))) (.seq (.var 0))
 (.cons (.ite (.and (.fE .tup (.var 4)) (.and (.or (.cmp .eq (.op .ix (.var 4) (.val (.int 0))) (.val (.str "jump"))) (.cmp .eq (.op .ix (.var 4) (.val (.int 0))) (.val (.str "go")))) (.not (.fE .str (.op .ix (.var 4) (.neg (.val (.int 1))))))))
 (.cons (.expr (.app (.var 2) (.call 23 (.cons (.op .mod (.op .ix (.var 4) (.neg (.val (.int 1)))) (.op .add (.var 1) (.val (.int 1)))) (.cons (.op .ix (.lst (.cons (.val (.int 0)) (.cons (.op .add (.val (.int 1)) (.op .mul (.val (.int 3)) (.op .ix (.var 4) (.val (.int 1))))) .nil))) (.bi .int (.cons (.cmp .eq (.op .ix (.var 4) (.val (.int 0))) (.val (.str "jump"))) .nil))) .nil))))) .nil)
 (.cons (.expr (.app (.var 2) (.lst (.cons (.var 3) (.cons (.var 4) .nil))))) .nil)) .nil)) (.cons (.ret (.var 2)) .nil))))
def NY:bX:=(.cons (.asg (.nm 1) .xZ) (.cons (.asg (.nm 2) (.val (.int 0))) (.cons (.jW (.tup 2 (.cons (.nm 3) (.cons (.nm 4) .nil))) (.seq (.var 0))
 (.cons (.ite (.fE .tup (.var 4))
 (.cons (.asg (.nm 2) (.op .add (.var 2) (.val (.int 1)))) .nil)
 (.cons (.ite (.and (.cmp .isn (.var 4) (.val .aK)) (.cmp .nin (.var 4) (.var 1)))
 (.cons (.asg (.sub (.var 1) (.var 4)) (.var 2)) .nil)
 .nil) .nil)) .nil)) (.cons (.ret (.lst (.cons (.var 1) (.cons (.var 2) .nil)))) .nil))))
def NM:bX:=(.cons (.asg (.tup 2 (.cons (.nm 1) (.cons (.nm 2) .nil))) (.call 28 (.cons (.var 0) .nil))) (.cons (.asg (.nm 3) (.oM [aD] (.nm 0) (.seq (.var 0)) (.op .ix (.var 0) (.val (.int 1))))) (.cons (.ite (.cmp .oU (.val (.str "BAD")) (.var 3))
 (.cons (.ret (.lst (.cons (.val (.str "row")) (.cons (.yR (.var 3) (.val (.str "BAD"))) .nil)))) .nil)
 .nil) (.cons (.asg (.nm 4) (.lst .nil)) (.cons (.jW (.tup 2 (.cons (.nm 5) (.cons (.nm 6) .nil))) (.enum (.var 0))
 (.cons (.ite (.and (.fE .str (.op .ix (.var 6) (.val (.int 1)))) (.cmp .oU (.op .ix (.var 6) (.val (.int 1))) (.var 4)))
 (.cons (.ret (.lst (.cons (.val (.str "twice")) (.cons (.var 5) .nil)))) .nil)
 .nil) (.cons (.expr (.app (.var 4) (.op .ix (.var 6) (.val (.int 1))))) .nil))) (.cons (.asg (.nm 7) (.lst .nil)) (.cons (.jW (.tup 2 (.cons (.nm 5) (.cons (.nm 6) .nil))) (.enum (.var 0))
 (.cons (.asg (.nm 8) (.op .ix (.var 6) (.val (.int 1)))) (.cons (.ite (.and (.fE .tup (.var 8)) (.or (.cmp .eq (.op .ix (.var 8) (.val (.int 0))) (.val (.str "jump"))) (.cmp .eq (.op .ix (.var 8) (.val (.int 0))) (.val (.str "go")))))
 (.cons (.asg (.nm 9) (.dm .get (.var 1) (.cons (.op .ix (.var 8) (.neg (.val (.int 1)))) (.cons (.op .ix (.var 8) (.neg (.val (.int 1)))) .nil)))) (.cons (.ite (.or (.fE .str (.var 9)) (.cmp .gt (.var 9) (.var 2)))
 (.cons (.ret (.lst (.cons (.val (.str "label")) (.cons (.var 5) .nil)))) .nil)
 .nil) (.cons (.asg (.nm 8) (.op .add (.slice (.var 8) .no (.neg (.val (.int 1)))) (.tup (.cons (.var 9) .nil)))) .nil)))
 .nil) (.cons (.ite (.fE .tup (.var 8))
 (.cons (.expr (.app (.var 7) (.var 8))) .nil)
 .nil) .nil)))) (.cons (.ret (.lst (.cons (.val (.str "told")) (.cons (.var 7) .nil)))) .nil))))))))
def NN:bX:=(.cons (.ite (.or (.not (.fE .lst (.var 0))) (.cmp .ne (.bi .len (.cons (.var 0) .nil)) (.bi .len (.cons (.var 1) .nil))))
 (.cons (.ret (.val (.bl aF))) .nil)
 .nil) (.cons (.jW (.tup 2 (.cons (.nm 2) (.cons (.nm 3) .nil))) (.zip (.cons (.var 0) (.cons (.var 1) .nil)))
 (.cons (.ite (.or (.not (.fE .tup (.var 2))) (.or (.cmp .ne (.var 2) (.var 3)) (.not (.fE .str (.op .ix (.var 2) (.val (.int 0)))))))
 (.cons (.ret (.val (.bl aF))) .nil)
 .nil) (.cons (.jW (.nm 4) (.seq (.slice (.var 2) (.val (.int 1)) .no))
 (.cons (.ite (.or (.not (.fE .int (.var 4))) (.fE .bl (.var 4)))
 (.cons (.ret (.val (.bl aF))) .nil)
 .nil) .nil)) .nil))) (.cons (.ret (.val (.bl aB))) .nil)))
def NK:bX:=(.cons (.asg (.nm 1) (.val .aK)) (.cons (.Bs (aA aD) (.call 14 (.cons (.var 0) .nil))
 (.cons [(8,aB),(6,aB),(7,aB)] (aA 2) (.cons (.asg (.nm 1) (.var 2)) .nil) .nil)) (.cons (.ret (.var 1)) .nil)))
def NW:bX:=(.cons (.asg (.nm 3) (.call 31 (.cons (.var 0) .nil))) (.cons (.ite (.or (.cmp .nI (.var 3) (.val .aK)) (.not (.eL [(8,aB),(6,aB),(7,aB)] (.var 3))))
 (.cons (.ret (.val (.bl aF))) .nil)
 .nil) (.cons (.asg (.nm 4) (.lst (.cons (.eL [(8,aF),(6,aB),(7,aF)] (.var 3)) (.cons (.eL [(8,aF),(6,aF),(7,aB)] (.var 3)) (.cons (.eL [(8,aB),(6,aF),(7,aF)] (.var 3)) .nil))))) (.cons (.ite (.cmp .ne (.var 4) (.lst (.cons (.cmp .eq (.var 1) (.val (.str "row"))) (.cons (.cmp .eq (.var 1) (.val (.str "twice"))) (.cons (.cmp .eq (.var 1) (.val (.str "label"))) .nil)))))
 (.cons (.ret (.val (.bl aF))) .nil)
 .nil) (.cons (.ite (.or (.eL [(8,aF),(6,aF),(7,aF)] (.var 3)) (.or (.eL [(8,aF),(6,aF),(7,aF)] (.var 3)) (.eL [(8,aF),(6,aF),(7,aF)] (.var 3))))
 (.cons (.ret (.val (.bl aF))) .nil)
 .nil) (.cons (.ite (.or (.eL [(8,aF),(6,aF),(7,aF)] (.var 3)) (.eL [(8,aF),(6,aF),(7,aF)] (.var 3)))
 (.cons (.ret (.val (.bl aF))) .nil)
 .nil) (.cons (.ret (.and (.fE .int (.wV [8,6,7] (.var 3))) (.and (.not (.fE .bl (.wV [8,6,7] (.var 3)))) (.cmp .eq (.wV [8,6,7] (.var 3)) (.var 2))))) .nil)))))))
def vF:bX:=(.cons (.asg (.nm 1) (.op .mod (.call 15 (.cons (.var 0) (.cons (.val (.int 0)) .nil))) (.val (.int 4)))) (.cons (.asg (.nm 2) (.call 21 (.cons (.call 15 (.cons (.var 0) (.cons (.val (.int 1)) .nil))) .nil))) (.cons (.asg (.nm 3) (.oM [aD,aD,aA 2,aA 1] (.tup [0,1]) (.enum (.slice (.var 0) (.val (.int 2)) (.val (.int 52)))) (.call 25 (.cons (.var 1) (.cons (.var 0) (.cons (.var 2) (.cons (.var 3) .nil))))))) (.cons (.ite (.or (.cmp .eq (.var 1) (.val (.int 0))) (.cmp .eq (.var 1) (.val (.int 2))))
 (.cons (.asg (.nm 3) (.call 26 (.cons (.var 3) (.cons (.mD [aD,aA 1] (.nm 0) (.seq (.var 2)) (.cmp .eq (.var 1) (.val (.int 0))) (.var 0)) .nil)))) .nil)
 .nil) (.cons (.ite (.cmp .lt (.var 1) (.val (.int 2)))
 (.cons (.asg (.nm 3) (.call 27 (.cons (.var 3) .nil))) .nil)
 .nil) (.cons (.asg (.nm 4) (.val .aK)) (.cons (.ite (.cmp .eq (.op .mod (.op .fdiv (.call 15 (.cons (.var 0) (.cons (.val (.int 0)) .nil))) (.val (.int 4))) (.val (.int 2))) (.val (.int 1)))
 (.cons (.asg (.nm 4) (.op .fdiv (.call 15 (.cons (.var 0) (.cons (.val (.int 1)) .nil))) (.val (.int 7)))) .nil)
 .nil) (.cons (.asg (.nm 5) (.call 19 (.cons (.var 3) (.cons (.var 4) .nil)))) (.cons (.asg (.tup 2 (.cons (.nm 6) (.cons (.nm 7) .nil))) (.call 29 (.cons (.var 3) .nil))) (.cons (.ite (.cmp .eq (.var 6) (.val (.str "told")))
 (.cons (.ret (.call 30 (.cons (.call 14 (.cons (.var 5) .nil)) (.cons (.var 7) .nil)))) .nil)
 .nil) (.cons (.ite (.not (.call 32 (.cons (.var 5) (.cons (.var 6) (.cons (.var 7) .nil)))))
 (.cons (.ret (.val (.bl aF))) .nil)
 .nil) (.cons (.asg (.nm 3) (.call 27 (.cons (.call 26 (.cons (.mD [aD] (.nm 0) (.seq (.var 3)) (.cmp .ne (.op .ix (.var 0) (.val (.int 1))) (.val (.str "BAD"))) (.var 0)) (.cons (.var 2) .nil))) .nil))) (.cons (.asg (.tup 2 (.cons (.nm 6) (.cons (.nm 7) .nil))) (.call 29 (.cons (.var 3) .nil))) (.cons (.ret (.and (.cmp .eq (.var 6) (.val (.str "told"))) (.call 30 (.cons (.call 14 (.cons (.call 19 (.cons (.var 3) (.cons (.var 4) .nil))) .nil)) (.cons (.var 7) .nil))))) .nil))))))))))))))
def NA:bX:=(.cons (.asg .bad (.var 1)) .nil)
def NB:bX:=(.cons (.asg .bad (.var 1)) .nil)
def MZ:bX:=(.cons (.asg .bad (.var 1)) .nil)
def Ii:List (Nat×Nat×bX):=[(1,1,ND),(1,1,OJ),(2,2,OB),(1,1,NG),(2,3,OC),(1,2,OG),(1,1,OH),(1,1,NF),(2,2,OD),(1,4,OF),(1,2,NH),(1,6,OI),(1,6,NI),(4,5,NC),(1,4,OE),(2,2,NL),(2,2,NT),(1,5,NX),(2,5,NR),(2,7,OA),(2,6,NQ),(1,9,NP),(1,3,NV),(2,3,NZ),(2,3,NJ),(4,7,NO),(2,6,NU),(1,5,NS),(1,5,NY),(1,10,NM),(2,5,NN),(1,3,NK),(3,5,NW),(1,8,vF),(2,2,NA),(2,2,NB),(2,2,MZ)]
noncomputable abbrev pg:Pg:=λi=>Ii[i]?
end AMx
open AM
namespace AMx
open PySem PySem.Spec PyProof.Rows L2 AM
abbrev tl(z:aI):List Nat:=z.cps.toList
abbrev aP(l:List Nat):aI:=⟨l.toArray⟩
theorem eG{l:List Nat}:tl (aP l)=l:=rfl
theorem nJ{z:aI}:aP (tl z)=z:=by cases z;simp[aP,tl]
theorem bV{z:aI}:z.length=(tl z).length:=by simp[PySem.Str.length,tl]
theorem qk{x y:aI}(h:tl x=tl y):x=y:=by rw[<- nJ (z:=x),<- nJ (z:=y),h]
theorem Lh{z:aI}{c i:Nat}:HC z (aP [c]) i=decide ((tl z)[i]?=aA c):=by
 unfold HC;have e:(aP [c]).length=1:=rfl;rw[e];have:z.cps.extract i (i+1)=match (tl z)[i]? with
  |some d=>#[d]
  |none=>#[]:=by
  apply GS;rw[GX,IG];show((tl z).take (i+1)).drop i=_;cases h:(tl z)[i]? with
  |none=>have:=List.getElem?_eq_none_iff.mp h;rw[Nq (by rw[eT];omega)]
  |some d=>have hi:=(List.getElem?_eq_some_iff.mp h).1;rw[gM,h,List.drop_append,eT,JO (by omega),Nq (by rw[eT];omega),JP];rfl
 rw[this];cases h:(tl z)[i]? with
 |none=>simp|some d=>
  show(#[d]==#[c])=decide (aA d=aA c);by_cases e:d=c
  .subst e;simp
  .rw[decide_eq_false (λz=>e (dB z))];simp[e]
theorem Ug{α β:Type}(f:α->β->β):∀(l:List α) (b:β),(forIn (m:=Id) l b λa b=>pure (sI (f a b)))=pure (l.foldl (λb a=>f a b) b)
 |[],b=>rfl|a::l,b=>by rw[su];exact Ug f l (f a b)
def vU(z:aI)(c lim:Nat)(i:Nat)(st:Array Nat×Nat):Array Nat×Nat:=
 if(decide (st.1.size<lim)&&decide (st.2<=i)&&decide (i+1<=z.length)&&decide ((tl z)[i]?=aA c))=aB then(st.1.push i,i+1) else st
def jX(z:aI)(c k:Nat):List Nat:=(gL k).filter λi=>decide ((tl z)[i]?=aA c)
theorem Yi{z:aI}{c lim:Nat}:∀k,((gL k).foldl (λst i=>vU z c lim i st) (#[],0)).1.toList=(jX z c k).take lim/\((gL k).foldl (λst i=>vU z c lim i st) (#[],0)).2<=k
 |0=>by simp[jX]
 |k+1=>by
  obtain⟨h1,h2⟩:=Yi (z:=z) (c:=c) (lim:=lim) k;rw[tj,List.foldl_append,Ny,List.foldl_nil];generalize (gL k).foldl (λst i=>vU z c lim i st) (#[],0)=st at h1 h2;have hs:st.1.size=min lim (jX z c k).length:=by rw[<- Cj,h1,eT]
  have eh:jX z c (k+1)=jX z c k++if(tl z)[k]?=aA c then[k] else[]:=by
   unfold jX;rw[tj,pE];by_cases e:(tl z)[k]?=aA c
   .rw[if_pos e,Di,decide_eq_true e,if_pos rfl,IJ]
   .rw[if_neg e,Di,decide_eq_false e,if_neg dG,IJ]
  unfold vU;by_cases e:(tl z)[k]?=aA c
  .have hk:k+1<=z.length:=by rw[bV];exact(List.getElem?_eq_some_iff.mp e).1
   rw[eh,if_pos e,decide_eq_true h2,decide_eq_true hk,decide_eq_true e];by_cases hl:st.1.size<lim
   .rw[decide_eq_true hl,if_pos (show(aB&&aB&&aB&&aB)=aB from rfl)];refine⟨?_,cB _⟩;rw[Array.toList_push,h1,qQ (by omega),qQ (by rw[fP];simp;omega)]
   .rw[decide_eq_false hl,if_neg (by simp)];refine⟨?_,by omega⟩;rw[h1,aJx (by omega)]
  .rw[eh,if_neg e,decide_eq_false e,if_neg (by simp),iS];exact⟨h1,by omega⟩
theorem Jm{z:aI}{c lim:Nat}:qH z (aP [c]) 0 z.length lim=(jX z c (z.length+1)).take lim:=by
 have:=(Yi (z:=z) (c:=c) (lim:=lim) (z.length+1)).1;rw[<- this];unfold qH;dsimp only;rw[LD];have e:(⟨0,z.length+1,1,by decide⟩:LC).size=z.length+1:=by simp[LF]
 rw[e];have e2:∀(f:Nat->Array Nat×Nat->Id (ForInStep (Array Nat×Nat))),(∀i st,f i st=pure (sI (vU z c lim i st)))->forIn (m:=Id) (tf 0 (z.length+1) 1) (#[],0) f=pure ((gL (z.length+1)).foldl (λst i=>vU z c lim i st) (#[],0)):=λf hf=>by rw[show f=λi st=>pure (sI (vU z c lim i st)) from funext λi=>funext λst=>hf i st,Ug,List.range_eq_range']
 rw[e2 _ λi st=>?_]
 .rfl
 .unfold vU;rw[Lh];show(if _ then pure (sI (st.1.push i,i+1)) else pure (sI (st.1,st.2)))=pure (sI (if _ then _ else _));split
  .rename_i hc;exact congrArg (λx=>(pure (sI x):Id _)) (if_pos hc).symm
  .rename_i hc;exact congrArg (λx=>(pure (sI x):Id _)) (if_neg hc).symm
def bZ(c:Nat):List Nat->List (List Nat)
 |[]=>[[]]
 |x::l=>if x=c then[]::bZ c l else match bZ c l with
  |[]=>[[x]]
  |w::ws=>(x::w)::ws
theorem Ba{c:Nat}:∀l,bZ c l≠[]
 |[]=>by simp[bZ]
 |x::l=>by
  unfold bZ;split
  .simp
  .split<;>simp
theorem La{c:Nat}:∀{l:List Nat},c∉l->bZ c l=[l]
 |[],_=>rfl|x::l,h=>by unfold bZ;rw[if_neg (λe=>h (by rw[e];exact fU ..)),La (λe=>h (hV _ e))]
theorem CJ{c:Nat}{m:List Nat}:∀{l:List Nat},c∉l->bZ c (l++c::m)=l::bZ c m
 |[],_=>by rw[hW,bZ,if_pos rfl]
 |x::l,h=>by rw[fT,bZ,if_neg (λe=>h (by rw[e];exact fU ..)),CJ (λe=>h (hV _ e))]
def kj(c:Nat):List (List Nat)->List Nat
 |[]=>[]
 |[w]=>w
 |w::u::ws=>w++c::kj c (u::ws)
theorem CL{c:Nat}:∀{ws:List (List Nat)},ws≠[]->(∀w∈ws,c∉w)->bZ c (kj c ws)=ws
 |[],h,_=>absurd rfl h
 |[w],_,h=>La (h w (fU ..))
 |w::u::ws,_,h=>by rw[kj,CJ (h w (fU ..)),CL (by simp) λv hv=>h v (hV _ hv)]
def fZ(c:Nat):List Nat->List Nat
 |[]=>[]
 |x::l=>(if x=c then[0] else[])++(fZ c l).map (·+1)
theorem VE{c x:Nat}{l:List Nat}:∀k,(gL (k+1)).filter (λi=>decide ((x::l)[i]?=aA c))=(if x=c then[0] else[])++((gL k).filter λi=>decide (l[i]?=aA c)).map (·+1):=by
 intro k;rw[JH,Di,List.filter_map];have e:((λi=>decide ((x::l)[i]?=aA c)) ∘ Nat.succ)=λi=>decide (l[i]?=aA c):=by
  funext i
  show decide ((x::l)[i+1]?=aA c)=_;rw[aJp]
 rw[e];by_cases h:x=c
 .rw[if_pos h,if_pos (by simp[h])];rfl
 .rw[if_neg h,if_neg (by simp[h])];rfl
theorem Ht{c:Nat}:∀{l:List Nat}{k:Nat},l.length<=k->(gL k).filter (λi=>decide (l[i]?=aA c))=fZ c l
 |[],k,_=>by simp[fZ]
 |x::l,0,h=>by simp at h
 |x::l,k+1,h=>by rw[VE,Ht (by simpa using h)];rfl
def kz(l:List Nat)(p:Nat×Nat):List Nat:=(l.take p.2).drop p.1
def Jp(l cuts:List Nat):List (List Nat):=((0::cuts.map (·+1)).zip (cuts++[l.length])).map (kz l)
theorem GQ{xs ys:List Nat}{x:Nat}{l:List Nat}:((xs.map (·+1)).zip (ys.map (·+1))).map (kz (x::l))=(xs.zip ys).map (kz l):=by rw[List.zip_map,lD];congr 1
theorem Yy{c:Nat}:∀{l:List Nat},Jp l (fZ c l)=bZ c l
 |[]=>rfl|x::l=>by
  have ih:=Yy (c:=c) (l:=l);unfold fZ bZ;by_cases h:x=c
  .rw[if_pos h,if_pos h,<- ih];show((0::([0]++(fZ c l).map (·+1)).map (·+1)).zip (([0]++(fZ c l).map (·+1))++[l.length+1])).map (kz (x::l))=_;have e1:([0]++(fZ c l).map (·+1)).map (·+1)=(0::(fZ c l).map (·+1)).map (·+1):=rfl;have e2:([0]++(fZ c l).map (·+1))++[l.length+1]=0::(fZ c l++[l.length]).map (·+1):=by simp
   rw[e1,e2,Og,dS,GQ];rfl
  .rw[if_neg h,if_neg h,<- ih];show((0::([]++(fZ c l).map (·+1)).map (·+1)).zip (([]++(fZ c l).map (·+1))++[l.length+1])).map (kz (x::l))=_;rw[hW];have e2:(fZ c l).map (·+1)++[l.length+1]=(fZ c l++[l.length]).map (·+1):=by simp
   rw[e2];unfold Jp;cases hp:fZ c l++[l.length] with
   |nil=>simp at hp|cons s ss=>rw[dS,Og,dS,GQ,Og,dS];rfl
theorem qr{z:aI}{i j:Nat}:gk z i j=aP (((tl z).take j).drop i):=by apply qk;show(z.cps.extract i j).toList=_;rw[GX,IG]
theorem CN{z:aI}{c:Nat}(hc:c<256):uR z (aP [c])=(bZ c (tl z)).map aP:=by
 unfold uR;have hk:gj (aP [c])=1:=by unfold gj;rw[if_pos (by simp[hc])]
 have hk2:¬gj z<1:=by
  unfold gj;split
  .decide
  .split<;>decide
 have ho:qH z (aP [c]) 0 z.length (z.length+1)=fZ c (tl z):=by rw[Jm];have e:jX z c (z.length+1)=fZ c (tl z):=Ht (by rw[bV];omega);rw[qQ,e];unfold jX;exact eN (qO ..) (by simp)
 rw[hk,ho];have e1:(aP [c]).length=1:=rfl;rw[e1,decide_eq_false hk2,Na,bV];by_cases h0:(tl z).length<1
 .rw[decide_eq_true h0,if_pos rfl];have:tl z=[]:=zY (by omega);rw[this];show[z]=[aP []];rw[<- this,nJ]
 .rw[decide_eq_false h0,if_neg dG];have hp:gi z (fZ c (tl z)) 1=(bZ c (tl z)).map aP:=by rw[<- Yy];unfold gi Jp;dsimp only;rw[lD,bV];refine congrFun (congrArg Oc (funext λp=>?_)) _;exact qr
  by_cases he:(fZ c (tl z)).isEmpty=aB
  .rw[if_pos he,<- hp];have e:fZ c (tl z)=[]:=List.isEmpty_iff.mp he;rw[e];show[z]=[gk z 0 z.length];rw[qr,bV,jG,xB,nJ]
  .rw[if_neg he,hp]
theorem Ze{c:Nat}:∀{l:List Nat},(fZ c l).take 1=if c∈l then[(l.takeWhile λx=>x != c).length] else[]
 |[]=>by simp[fZ]
 |x::l=>by
  have ih:=Ze (c:=c) (l:=l);unfold fZ;by_cases h:x=c
  .rw[if_pos h,h,if_pos (fU ..)];simp
  .rw[if_neg h,hW,<- IZ,ih];by_cases hm:c∈l
   .rw[if_pos hm,if_pos (hV _ hm),Dq];simp[h]
   .rw[if_neg hm,if_neg (λe=>by
     rcases List.mem_cons.mp e with e|e
     .exact h e.symm
     .exact hm e)]
    rfl
theorem Yh{z:aI}{c:Nat}:qH z (aP [c]) 0 z.length 1=if c∈tl z then[((tl z).takeWhile λx=>x != c).length] else[]:=by rw[Jm,<- Ze];have e:jX z c (z.length+1)=fZ c (tl z):=Ht (by rw[bV];omega);rw[e]
theorem EO{c:Nat}:∀{l:List Nat},c∉l->l.takeWhile (λx=>x != c)=l
 |[],_=>rfl|x::l,h=>by rw[Dq,EO (λe=>h (hV _ e))];have:x≠c:=λe=>h (by rw[e];exact fU ..);simp[this]
theorem DL{c:Nat}:∀{l:List Nat},l.take (l.takeWhile λx=>x != c).length=l.takeWhile λx=>x != c
 |[]=>rfl|x::l=>by
  rw[Dq];by_cases h:x=c
  .simp[h]
  .have:(x != c)=aB:=by simp[h]
   rw[if_pos this,hJ,af,DL]
theorem u3{z:aI}{c:Nat}:∃a b,yU z (aP [c])=[aP ((tl z).takeWhile λx=>x != c),a,b]:=by
 unfold yU;rw[Yh];by_cases h:c∈tl z
 .rw[if_pos h];refine⟨aP [c],gk z (((tl z).takeWhile λx=>x != c).length+(aP [c]).length) z.length,?_⟩;show[gk z 0 _,_,_]=_;rw[qr,DL,xB]
 .rw[if_neg h,EO h,nJ];exact⟨Ea,Ea,rfl⟩
theorem in1{b:aI}{c:Nat}:xy (aP [c]) b=decide (c∈tl b):=by
 unfold xy;rw[Yh];by_cases h:c∈tl b
 .rw[if_pos h,decide_eq_true h];rfl
 .rw[if_neg h,decide_eq_false h];rfl
theorem aBs{z:aI}{c:Nat}:Ed z (aP [c])=decide ((tl z).head?=aA c):=by
 unfold Ed;rw[Lh,bV (z:=z),<- List.head?_eq_getElem?,show(aP [c]).length=1 from rfl];cases h:tl z with
 |nil=>simp|cons x l=>simp
theorem RK{z:aI}{c:Nat}:Eb z (aP [c])=decide ((tl z).getLast?=aA c):=by
 unfold Eb;rw[Lh,bV (z:=z),aJr,show(aP [c]).length=1 from rfl];cases h:tl z with
 |nil=>simp|cons x l=>simp
def fO(c:Nat)(l:List Nat):List Nat:=((l.dropWhile λx=>x==c).reverse.dropWhile λx=>x==c).reverse
theorem wy{p:Nat->Bool}:∀{l:List Nat},l.drop (l.takeWhile p).length=l.dropWhile p
 |[]=>rfl|x::l=>by
  rw[Dq,List.dropWhile_cons];by_cases h:p x=aB
  .rw[if_pos h,if_pos h,hJ,List.drop_succ_cons,wy]
  .rw[if_neg h,if_neg h];rfl
theorem aBx{z:aI}{c:Nat}:Ee z (aP [c])=aP (fO c (tl z)):=by
 have hg:(aP [c]).cps.contains=λx=>x==c:=by
  funext x
  show Array.contains #[c] x=(x==c);by_cases e:x=c
  .subst e;simp
  .have e':¬c=x:=λh=>e h.symm;simp[e,e']
 have e:stripped (λx=>x==c) aB aB z=aP (fO c (tl z)):=by
  unfold stripped stripHi stripLo;rw[if_pos rfl,if_pos rfl,qr,bV];show aP (((tl z).take ((tl z).length-(Dp (λx=>x==c) (List.drop (Dp (λx=>x==c) (tl z)).length (tl z)).reverse).length)).drop (Dp (λx=>x==c) (tl z)).length)=_;congr 1
  rw[wy];unfold fO;generalize hk:(Dp (λx=>x==c) (tl z)).length=k;have hd:(tl z).drop k=(tl z).dropWhile λx=>x==c:=by rw[<- hk,wy]
  generalize hm:((tl z).dropWhile λx=>x==c)=m at hd;rw[List.drop_take,hd];have hl:(tl z).length-k=m.length:=by rw[<- hd,uM]
  rw[<- wy (l:=m.reverse),List.reverse_drop,Oe,Oa];congr 1
  omega
 unfold Ee Txt.stripBy;rw[hg];split
 .rename_i h;rw[<- e];unfold stripSame at h;rw[aY,beq_iff_eq,beq_iff_eq]at h;unfold stripped;rw[h.2,h.1,qr,xB,bV,jG,nJ]
 .exact e
theorem Zc{l:List Nat}:∀{n a:Nat},a+n<=l.length->((gL n).map λk=>a+k).filterMap (λi=>l[i]?)=(l.drop a).take n
 |0,a,_=>by simp
 |n+1,a,h=>by rw[tj,dA,so,Zc (by omega),gM,List.getElem?_drop];obtain⟨x,hx⟩:∃x,l[a+n]?=aA x:=⟨_,cZ (by omega)⟩;simp[hx]
def bu(n:Nat)(d:Int):Option Int->Int
 |none=>d
 |some i=>max 0 (min (if i<0 then i+(n:Int) else i) n)
theorem aAp{lo hi:Option Int}{a b n:Nat}(ha:bu n 0 lo=(a:Int))(hb:bu n n hi=(b:Int))(h:a<=b):HB lo hi 1 n=(gL (b-a)).map λk=>a+k:=by
 have e:HB lo hi 1 n=sliceRange (bu n 0 lo) (bu n n hi) 1:=by cases lo<;>cases hi<;>rfl
 rw[e,ha,hb];unfold sliceRange;dsimp only;rw[if_pos (by decide)];have ec:(if(a:Int)<b then((b:Int)-a+1-1) / 1 else 0).toNat=b-a:=by split<;>omega
 rw[ec];refine List.map_congr_left λk _=>?_;omega
theorem Au{z:aI}{lo hi:Option Int}{a b:Nat}(ha:bu z.length 0 lo=(a:Int))(hb:bu z.length z.length hi=(b:Int))(h:a<=b)(hl:b<=z.length):mX z lo hi=aP (((tl z).drop a).take (b-a)):=by
 unfold mX;rw[aAp ha hb h];have e:((gL (b-a)).map λk=>a+k).filterMap (λi=>z.cps[i]?)=((tl z).drop a).take (b-a):=by rw[<- Zc (l:=tl z) (by rw[<- bV];omega)];rw[show(λi=>z.cps[i]?)=λi=>(tl z)[i]? from funext λi=>(GV).symm]
 rw[e];split
 .rename_i hc;simp only[aV,IW,aY,beq_iff_eq]at hc;have h1:=hc.2;have h0:a=0:=by omega
  rw[h0,xB,Oj,qQ (by rw[<- bV];omega),nJ]
 .rfl
theorem aAv{z:aI}(h:1<=z.length):mX z (aA 1) aD=aP ((tl z).drop 1):=by rw[Au (a:=1) (b:=z.length) (by show max (0:Int) (min (if(1:Int)<0 then _ else 1) _)=_;rw[if_neg (by decide)];omega) rfl h (cB _),qQ (by rw[uM,<- bV];omega)]
theorem aAy{z:aI}(h:1<=z.length):mX z aD (aA (-1))=aP ((tl z).take (z.length-1)):=by rw[Au (a:=0) (b:=z.length-1) rfl (by show max (0:Int) (min (if(-1:Int)<0 then -1+(z.length:Int) else -1) _)=_;rw[if_pos (by decide)];omega) (kD _) (by omega),xB,Oj]
theorem ZD{c:Nat}{n:Int}(h:0<=n):sM (aP [c]) n=aP (cJ n.toNat c):=by
 unfold sM;have hf:∀(k:Nat) (acc:Array Nat),(cJ k #[c]).foldl (λx1 x2=>x1++x2) acc=acc++(cJ k c).toArray:=λk=>by
  induction k with
  |zero=>intro acc;simp|succ k ih=>intro acc;rw[pG,Ny,ih,pG];apply GS;simp
 by_cases h1:n<1
 .rw[if_pos h1];have:n.toNat=0:=by omega
  rw[this];rfl
 .rw[if_neg h1];by_cases h2:n=1
  .subst h2;rfl
  .have:(n==1||(aP [c]).length==0)=aF:=by rw[show((aP [c]).length==0)=aF from rfl,Na];simpa using h2
   rw[this,if_neg dG];show(⟨_⟩:aI)=⟨_⟩;rw[hf];simp
def dg(m:Nat):List Nat:=(Ol 10 m).map Cr
theorem qF{m:Nat}:tl (uP (toString (m:Int)))=dg m:=W.KIN.signs_num m
theorem cg{m:Nat}:dg m≠[]:=λh=>Nat.toDigits_ne_nil (List.map_eq_nil_iff.mp h)
theorem Su{m:Nat}:NumText.AllDigits (dg m):=λc hc=>by obtain⟨d,hd,rfl⟩:=List.mem_map.mp hc;have:=aJy (by decide) (by decide) hd;unfold Char.isDigit at this;rw[aY,decide_eq_true_eq,decide_eq_true_eq]at this;obtain⟨h1,h2⟩:=this;exact⟨h1,h2⟩
theorem cf{m k:Nat}(hk:0<k):(dg m).length<=k↔m<10 ^ k:=by unfold dg;rw[aV];exact aJz (by decide) hk
theorem Sw:∀{m:Nat},(dg m).head?=aA 48->m=0
 |m,h=>by
  induction m using Nat.strongRecOn with
  |_ m ih=>
   by_cases hm:m<10
   .unfold dg at h;rw[JS hm]at h;have:=(by decide +kernel:∀m<10,m=0\/m=1\/m=2\/m=3\/m=4\/m=5\/m=6\/m=7\/m=8\/m=9) m hm;rcases this with rfl|rfl|rfl|rfl|rfl|rfl|rfl|rfl|rfl|rfl
    .rfl
    all_goals exact absurd h (by decide)
   .have e:dg m=dg (m / 10)++[((m%10).digitChar).toNat]:=by unfold dg;rw[JR (by decide) (by omega),dA];rfl
    rw[e,IV]at h;cases hd:dg (m / 10) with
    |nil=>exact absurd hd cg|cons x l=>rw[hd]at h;have:=ih (m / 10) (by omega) (by rw[hd];exact h);omega
theorem Ss:dg 0=[48]:=by decide
theorem dq{a b:Nat}(h:dg a=dg b):a=b:=by have h1:=Oz a;have h2:=Oz b;have h:(Ol 10 a).map Cr=(Ol 10 b).map Cr:=h;rw[<- h1,<- h2,h]
theorem aAn{z:aI}:(oY z).map AV.str=(tl z).map λc=>AV.str (aP [c]):=by unfold oY;rw[lD];rfl
section
variable {Xc:Nat->AH->Prop}{F:AM.Run}{σ:aH}{h:AH}{V1:AV->AH->Prop}{B1:Bool->AH->Prop}
theorem FY{z:aI}{c:Nat}(q:V1 (.bl (decide ((tl z).head?=aA c))) h):We Xc (iP .sw (.str z) (.str (aP [c]))) h V1:=by unfold We iP;simp only[aBs];exact q
theorem aFy{z:aI}{c:Nat}(q:V1 (.bl (decide ((tl z).getLast?=aA c))) h):We Xc (iP .ew (.str z) (.str (aP [c]))) h V1:=by unfold We iP;simp only[RK];exact q
theorem aGu{z:aI}{c:Nat}(hz:z.length<=sizeLine)(q:V1 (.str (aP (fO c (tl z)))) h):We Xc (iP .st (.str z) (.str (aP [c]))) h V1:=by unfold We iP;simp only[if_pos hz,aBx];exact q
theorem qh{c:Nat}:∀{l:List Nat},(bZ c l).length<=l.length+1
 |[]=>cB _
 |x::l=>by
  have ih:=qh (c:=c) (l:=l);unfold bZ;split
  .simpa using ih
  .split
   .simp
   .rename_i w ws e;rw[e]at ih;simp at ih ⊢;omega
theorem u5{z:aI}{c:Nat}(hc:c<256):(gi z (qH z (aP [c]) 0 z.length (z.length+1)) (aP [c]).length).length<=z.length+2:=by
 unfold gi;dsimp only;rw[aV,List.length_zip,hJ,aV,Jm];have:(jX z c (z.length+1)).length<=z.length+1:=by unfold jX;exact eN (qO ..) (by simp)
 rw[eT];omega
theorem Mg{z:aI}{c:Nat}(hc:c<256)(hz:z.length+2<=sizeLine)(q:V1 (.ref h.nx) (h.new (.lst aB ((bZ c (tl z)).map λw=>.str (aP w))))):We Xc (iP .sp (.str z) (.str (aP [c]))) h V1:=by
 have ok:qc z (aP [c])=aB:=by
  unfold qc;rw[show(aP [c]).length=1 from rfl];have h1:=u5 (z:=z) hc;rw[show(aP [c]).length=1 from rfl]at h1;have h2:(uR z (aP [c])).length<=sizeLine:=by rw[CN hc,aV];have:=qh (c:=c) (l:=tl z);rw[<- bV]at this;omega
  rw[decide_eq_true (show z.length<=sizeLine by omega),decide_eq_true h2,decide_eq_true (eN h1 hz)];rfl
 unfold We iP;simp only[if_pos ok,CN hc];rw[lD];exact q
theorem aGt{z:aI}{c:Nat}(hz:z.length<=sizeLine)(q:∀a b,V1 (.tup [.str (aP ((tl z).takeWhile λx=>x != c)),.str a,.str b]) h):We Xc (iP .pa (.str z) (.str (aP [c]))) h V1:=by obtain⟨a,b,e⟩:=u3 (z:=z) (c:=c);unfold We iP;simp only[if_pos (show((aP [c]).length==0)=aF/\z.length<=sizeLine from⟨rfl,hz⟩),e];exact q a b
theorem aGc{c:Nat}{b:aI}(q:V1 (.bl (decide (c∈tl b))) h):We Xc (Cp.g .oU (.str (aP [c])) (.str b)) h V1:=by
 show We Xc (AM.jM aF (.str (aP [c])) (.str b)) h V1;unfold We jM pU Ic;first
  |simp only[fG,eD,Ck,if_false,in1]|simp only[eD,Ck,if_false,in1]
 exact q
theorem fw{z:aI}{lo hi:Option Int}(hz:z.length<=sizeLine)(q:V1 (.str (mX z lo hi)) h):We Xc (lO (.str z) lo hi) h V1:=by unfold We lO;simp only[if_pos hz];exact q
theorem Mf{c:Nat}{n:Int}(h0:0<=n)(h1:n<=1000)(q:V1 (.str (aP (cJ n.toNat c))) h):We Xc (Op.g .mul (.str (aP [c])) (.int n)) h V1:=by
 have e:=ZD (c:=c) h0;have hl:(sM (aP [c]) n).length<=sizeLine:=by rw[e,bV,eG,sy];have:=aAo;omega
 show We Xc (AM.cq (.str (aP [c])) (.int n)) h V1;have ok:(aP [c]).length<=1000/\0<=n/\n<=1000/\(sM (aP [c]) n).length<=sizeLine:=⟨show 1<=1000 by decide,h0,h1,hl⟩;unfold We cq;dsimp only;rw[if_pos ok,e];exact q
theorem aGw{ts:List aI}{u:aI}{i:Nat}(e:ts.idxOf? u=aA i)(q:V1 (.int (i:Int)) h):We Xc (yI ts (.str u)) h V1:=by unfold We yI;simp only[e];exact q
theorem aGx{neg:Bool}{aE:List (aI×AV)}{k:aI}{v:AV}(e:aE.lookup k=aA v)(q:V1 (.bl (!neg)) h):We Xc (nG neg aE (.str k)) h V1:=by unfold We nG;simp only[e];exact q
theorem aGy{neg:Bool}{aE:List (aI×AV)}{k:aI}(e:aE.lookup k=aD)(q:V1 (.bl neg) h):We Xc (nG neg aE (.str k)) h V1:=by unfold We nG;simp only[e];exact q
theorem aGe{m:Nat}{z:aI}(e:tl z=dg m)(hm:m<10 ^ 20)(q:V1 (.int (m:Int)) h):We Xc (Bi.g .int [.str z]) h V1:=by
 have hl:(dg m).length<=20:=(cf (by decide)).mpr hm;have hz:z.length<=640:=by rw[bV,e];omega
 have hv:intText? z=aA (m:Int):=by rw[intText_digits (x:=z) (by rw[show z.cps.toList=dg m from e];exact Su) (by rw[show z.cps.toList=dg m from e];exact cg) (by rw[bV,e];omega),show z.cps.toList=dg m from e,show NumText.digitsVal (dg m)=m from Oz m]
 show We Xc (AM.ju [.str z]) h V1;unfold We ju;simp only[if_pos hz,hv];exact q
end
def iF(l:List Nat):List Nat:=fO 32 (l.takeWhile λx=>x != 35)
def eS(l:List Nat):List (List Nat):=(bZ 32 (iF l)).filter λw=>decide (w≠[])
theorem aBz{c:Nat}{l:List Nat}:(fO c l).length<=l.length:=by unfold fO;rw[Oa];refine eN (IF _).length_le ?_;rw[Oa];exact(IF _).length_le
theorem Fq{l:List Nat}:(iF l).length<=l.length:=eN aBz (JJ _).length_le
theorem mk_eq{l m:List Nat}:(aP l=aP m)↔l=m:=⟨λh=>by have:=congrArg tl h;exact this,λh=>by rw[h]⟩
def wf(l:List Nat):List (List Nat):=(bZ 32 l).filter λw=>decide (w≠[])
theorem Mi{l:List Nat}:eS l=wf (iF l):=rfl
theorem Lb{c:Nat}{l:List Nat}:bZ c (c::l)=[]::bZ c l:=by rw[bZ,if_pos rfl]
theorem CM{c x:Nat}{l w:List Nat}{ws:List (List Nat)}(h:¬x=c)(e:bZ c l=w::ws):bZ c (x::l)=(x::w)::ws:=by rw[bZ,if_neg h,e]
theorem CK{c:Nat}{m:List Nat}:∀{l:List Nat},bZ c (l++c::m)=bZ c l++bZ c m
 |[]=>Lb
 |x::l=>by
  have ih:=CK (c:=c) (m:=m) (l:=l);rw[fT];by_cases h:x=c
  .subst h;rw[Lb,Lb,ih,fT]
  .cases hs:bZ c l with
   |nil=>exact absurd hs (Ba _)|cons w ws=>rw[hs]at ih;rw[CM h hs,CM h ih];rfl
theorem sC{l m:List Nat}:wf (l++32::m)=wf l++wf m:=by unfold wf;rw[CK,pE]
theorem Bv:wf []=[]:=rfl
theorem wQ{l:List Nat}:∀n,wf (cJ n 32++l)=wf l
 |0=>rfl|n+1=>by rw[pG,fT,show 32::(cJ n 32++l)=[]++32::(cJ n 32++l) from rfl,sC,wQ n];rfl
theorem FL{l:List Nat}:∀n,wf (l++cJ n 32)=wf l
 |0=>by simp
 |n+1=>by have:=wQ (l:=[]) n;rw[iS]at this;rw[pG,sC,this,Bv,iS]
theorem nW{w:List Nat}(hw:32∉w)(h0:w≠[]):wf w=[w]:=by unfold wf;rw[La hw,Di,if_pos (by simpa using h0)];rfl
theorem Md:∀{l:List Nat},wf l=[]->∀c∈l,c=32
 |[],_,c,hc=>by cases hc
 |x::l,h,c,hc=>by
  by_cases hx:x=32
  .subst hx;have e:wf (32::l)=wf l:=wQ (l:=l) 1;rw[e]at h;rcases List.mem_cons.mp hc with hc|hc
   .exact hc
   .exact Md h c hc
  .unfold wf bZ at h;rw[if_neg hx]at h;cases hs:bZ 32 l with
   |nil=>exact absurd hs (Ba _)|cons w ws=>rw[hs]at h;simp at h
theorem aBy{c:Nat}{l:List Nat}:∃n m,l=cJ n c++fO c l++cJ m c:=by
 have rep:∀k:List Nat,∃n,k.takeWhile (λx=>x==c)=cJ n c:=λk=>⟨_,List.eq_replicate_iff.mpr ⟨rfl,λb hb=>by have:=List.all_takeWhile (p:=λx=>x==c) (l:=k);have:=List.all_eq_true.mp this b hb;simpa using this⟩⟩
 obtain⟨n,hn⟩:=rep l;obtain⟨m,hm⟩:=rep (l.dropWhile λx=>x==c).reverse;refine⟨n,m,?_⟩;have e1:=Of (p:=λx=>x==c) (l:=l);have e2:=Of (p:=λx=>x==c) (l:=(l.dropWhile λx=>x==c).reverse);rw[hn]at e1;rw[hm]at e2;have e3:=congrArg List.reverse e2;rw[Oe,JI,List.reverse_replicate]at e3;unfold fO;rw[qL,e3,e1]
theorem aFq{l:List Nat}:wf (fO 32 l)=wf l:=by
 obtain⟨n,m,e⟩:=aBy (c:=32) (l:=l);have:wf (cJ n 32++fO 32 l++cJ m 32)=wf (fO 32 l):=by rw[FL,wQ]
 rw[<- this,<- e]
section
variable {Xc:Nat->AH->Prop}{k:Nat}{h:AH}{R:AV->AH->Prop}
theorem eB{f np nn:Nat}{b:bX}{args:List AV}(e:pg f=aA (np,nn,b))(hl:args.length=np)(w:mQ Xc (run pg k) b (args.map aA++cJ (nn-np) aD) h (λ_ h1=>R .aK h1) R (λ_ _=>False) (λ_ _=>False)):WC Xc (run pg (k+1) f args) h R:=WC.of (aHx e hl w)
theorem aHc{F:AM.Run}{σ:aH}{i:Nat}{z:aI}{Q:fR->AH->Prop}(e:σ[i]?=aA (aA (.str z)))(q:Q (jS ((oY z).map AV.str)) h):We Xc (cO F (.seq (.var i)) σ) h Q:=Cb (gZ e (aHd q))
theorem sZ:10000<=sizeLine:=by decide
theorem Fs{z:aI}(hz:z.length<=9990)(q:R (.str (aP (iF (tl z)))) h):WC Xc (run pg (k+1) RW [.str z]) h R:=by have big:=sZ;refine eB rfl rfl (WC.of (aGt (c:=35) (by omega) λa b=>WC.of (aGu (c:=32) ?_ q)));rw[bV,eG];have:((tl z).takeWhile λx=>x != 35).length<=(tl z).length:=(JJ _).length_le;rw[<- bV]at this;omega
theorem aHg{z:aI}(hz:z.length<=9000)(q:∀h' n,Kp h h'->n<h'.nx->h'.ob n=aA (.lst aB ((eS (tl z)).map λw=>.str (aP w)))->R (.ref n) h'):WC Xc (run pg (k+2) TK [.str z]) h R:=by
 have big:=sZ;have bl:=Fq (l:=tl z);rw[<- bV]at bl;have hl:(aP (iF (tl z))).length<=9000:=by rw[bV,eG];omega
 have sl:=qh (c:=32) (l:=iF (tl z));refine eB rfl rfl (WC.of (zV (Cb (bR _ (Fs (by omega) (WC.of (Mg (c:=32) (by decide) (by omega) (mS bO ?_))))))));rw[eG];have kp:Kp h (h.new (.lst aB ((bZ 32 (iF (tl z))).map λw=>.str (aP w)))):=Kp.refl.new;have ol:(h.new (.lst aB ((bZ 32 (iF (tl z))).map λw=>.str (aP w)))).ob h.nx=aA (.lst aB ((bZ 32 (iF (tl z))).map λw=>.str (aP w))):=bO;generalize h.new (.lst aB ((bZ 32 (iF (tl z))).map λw=>.str (aP w)))=h1 at *;refine xX (bb:=aB) (xs:=(bZ 32 (iF (tl z))).map λw=>.str (aP w)) (λi ys σ h2=>h2=h1/\ys=(((bZ 32 (iF (tl z))).take i).filter λw=>decide (w≠[])).map (λw=>AV.str (aP w))/\∃v,σ=[v]) (by rw[aV,fF];omega) ⟨rfl,by simp,_,rfl⟩ (λi ys σ h2 z=>by rw[z.1];exact ol) ?_ ?_
 .rintro i y ys σ h2 hy ⟨rfl,rfl,v,rfl⟩
  obtain⟨w,hw,rfl⟩:=fX hy;have e:(bZ 32 (iF (tl z))).take (i+1)=(bZ 32 (iF (tl z))).take i++[w]:=by rw[gM,hw];rfl
  refine uF (mR _ (aM.ite (aM.nd (λhc=>bR _ ⟨?_,rfl,?_,_,rfl⟩) λhc=>⟨rfl,?_,_,rfl⟩)))
  .rw[aV];have:=qO (λw=>decide (w≠[])) ((bZ 32 (iF (tl z))).take i);rw[eT]at this;omega
  .have hn:w≠[]:=λe=>hc (by rw[e];rfl);rw[e,pE,dA];simp[hn]
  .have hn:w=[]:=mk_eq.mp hc;rw[e,pE,hn];simp
 .rintro ys σ h2 ⟨rfl,rfl,v,rfl⟩
  rw[aV,jG];exact q _ _ kp.new (cQ _) bO
theorem Xv{z s:aI}(hz:z.length<=9000)(q:∀h',Kp h h'->R (.bl (decide (tl z≠[]/\∀c∈tl z,c∈tl s))) h'):WC Xc (run pg (k+1) SW [.str z,.str s]) h R:=by
 have big:=sZ;have e0:(z=("":aI))↔tl z=[]:=⟨λe=>by rw[e];rfl,λe=>by rw[<- nJ (z:=z),e];rfl⟩;refine eB rfl rfl (aM.nd (λhc=>?_) λhc=>?_)
 .have hn:tl z≠[]:=λe=>hc (e0.mpr e);refine WC.of (zU (aHc rfl ?_));rw[aAn];refine PU (λi ys σ h2=>h2=h/\ys=((tl z).take i).map (λc=>AV.bl (decide (c∈tl s)))/\∃v,σ=[v,aA (.str s)]) (by rw[aV,<- bV,fF];omega) ⟨rfl,rfl,_,rfl⟩ ?_ ?_
  .rintro i y ys σ h2 hy ⟨rfl,rfl,v,rfl⟩
   obtain⟨c,hcc,rfl⟩:=fX hy;have e:(tl z).take (i+1)=(tl z).take i++[c]:=by rw[gM,hcc];rfl
   refine uF (bR _ (WC.of (aGc ⟨by rw[aV,eT,<- bV];omega,rfl,?_,_,rfl⟩)));rw[e,dA];rfl
  .rintro ys σ h2 ⟨rfl,rfl,v,rfl⟩
   rw[aV,jG];refine WC.of (aFs (bs:=(tl z).map λc=>decide (c∈tl s)) (by rw[bO,lD];rfl) ?_);have:=q _ (Kp.refl.new (o:=.lst aB ((tl z).map λc=>AV.bl (decide (c∈tl s)))));rw[show((tl z).map λc=>decide (c∈tl s)).all id=decide (tl z≠[]/\∀c∈tl z,c∈tl s) from ?_]
   .exact this
   .rw[uJ,xA,decide_eq_true_eq];constructor
    .intro hh;exact⟨hn,λc hc=>of_decide_eq_true (hh _ (List.mem_map.mpr ⟨c,hc,rfl⟩))⟩
    .rintro ⟨_,hh⟩ b hb
     obtain⟨c,hc,rfl⟩:=List.mem_map.mp hb;exact decide_eq_true (hh c hc)
 .have:=q h Kp.refl;rw[decide_eq_false (λz=>z.1 (e0.mp hc))]at this;show R (.bl (!decide (z=("":aI)))) h;rw[decide_eq_true hc];exact this
end
theorem aDx{m:Nat}(h:0<m):tl (uP (toString (-(m:Int))))=45::dg m:=by
 obtain⟨k,rfl⟩:∃k,m=k+1:=⟨m-1,by omega⟩;have e:toString (-((k+1:Nat):Int))="-"++toString (k+1):=rfl;rw[e];have h2:tl (uP (toString (k+1)))=dg (k+1):=qF (m:=k+1);rw[<- h2];have s:∀x:String,tl (uP x)=x.toList.map Cr:=λx=>by rw[aLt]
 rw[s,s,String.toList_append];rfl
theorem Vg{c:Nat}:c∈tl ("0123456789":aI)↔48<=c/\c<=57:=by rw[show tl ("0123456789":aI)=tf 48 10 from by decide +kernel,JC];omega
theorem Vh{c:Nat}:c∈tl ("abcdefghijklmnopqrstuvwxyz":aI)↔97<=c/\c<=122:=by rw[show tl ("abcdefghijklmnopqrstuvwxyz":aI)=tf 97 26 from by decide +kernel,JC];omega
theorem QU{m g:Nat}(h:m<=g):(dg m).length<=(dg g).length:=by have h0:0<(dg g).length:=List.length_pos_iff.mpr cg;exact(cf h0).mpr (Nat.lt_of_le_of_lt h ((cf h0).mp (cB _)))
theorem mE{m c:Nat}(h:c∈dg m):48<=c/\c<=57:=Su c h
theorem Gu{m:Nat}(h:m<18446744073709551616):(dg m).length<=20:=(cf (by decide)).mpr (cP h (by decide))
theorem Sv:∀{c:Nat},48<=c->c<=57->dg (c-48)=[c]:=by intro c h1 h2;rw[(by decide +kernel:∀k<10,dg k=[k+48]) (c-48) (by omega),Nat.sub_add_cancel h1]
theorem QV{m c:Nat}(hm:0<m)(h1:48<=c)(h2:c<=57):dg (m*10+(c-48))=dg m++[c]:=by
 unfold dg;rw[JR (by decide) (by omega),dA,show(m*10+(c-48)) / 10=m by omega,show(m*10+(c-48))%10=c-48 by omega];congr 1
 have:=Sv h1 h2;unfold dg at this;rw[JS (by omega)]at this;exact this
theorem canon:∀(n:Nat) (l:List Nat),l.length=n->l≠[]->(∀c∈l,48<=c/\c<=57)->(l=[48]\/l.head?≠aA 48)->∃m,l=dg m
 |0,l,e,h,_,_=>absurd (zY e) h
 |n+1,l,e,h,a,c=>by
  obtain⟨k,x,rfl⟩:∃k x,l=k++[x]:=⟨l.dropLast,l.getLast h,(IE h).symm⟩;have hx:=a x (by simp);by_cases hk:k=[]
  .subst hk;exact⟨x-48,(Sv hx.1 hx.2).symm⟩
  .have hh:k.head?≠aA 48:=by
    rcases c with c|c
    .have:=congrArg qN c;simp at this;exact absurd this hk
    .cases k with
     |nil=>exact absurd rfl hk|cons y k=>exact c
   obtain⟨m,rfl⟩:=canon n k (by simpa using e) hk (λy hy=>a y (gx _ hy)) (.inr hh);have hm:0<m:=Nat.pos_of_ne_zero λz=>hh (by rw[z];rfl);exact⟨m*10+(x-48),(QV hm hx.1 hx.2).symm⟩
def pL(l:List Nat)(g:Nat)(v:AV):Prop:=(∃m,m<=g/\l=dg m/\v = .int m)\/((∀m,m<=g->l≠dg m)/\v = .aK)
def dN(l:List Nat):Prop:=l≠[]/\(∀c∈l,97<=c/\c<=122)/\l.length<=8
def iR(s:Int):List Nat:=if 0<=s then dg s.toNat else 45::dg s.natAbs
def vB(l:List Nat)(v:AV):Prop:=(∃s:Int,-999<=s/\s<=999/\l=iR s/\v = .int s)\/((∀s:Int,-999<=s->s<=999->l≠iR s)/\v = .aK)
def sW(l:List Nat)(v:AV):Prop:=(dN l/\v = .str (aP l))\/(¬dN l/\pL l 400 v)
def xO(l:List Nat)(v:AV):Prop:=(∃x:Nat,x<8/\l=[97+x]/\v = .int x)\/((∀x:Nat,x<8->l≠[97+x])/\v = .aK)
def sT(f:aI)(l:List Nat)(v:AV):Prop:=if f="box" then xO l v else if f="step" then vB l v else if f="target" then sW l v else pL l 18446744073709551615 v
theorem Bl{s:Int}:tl (uP (toString s))=iR s:=by
 unfold iR;by_cases h:0<=s
 .obtain⟨m,rfl⟩:=wX h;rw[if_pos h];exact qF
 .rw[if_neg h];have:=aDx (m:=s.natAbs) (by omega);rwa [show -((s.natAbs:Nat):Int)=s by omega]at this
section
variable {Xc:Nat->AH->Prop}{k:Nat}{h:AH}{R:AV->AH->Prop}
theorem Vk{z:aI}(hz:z.length<=9000)(q:∀h' b,Kp h h'->(b=aB↔dN (tl z))->R (.bl b) h'):WC Xc (run pg (k+2) RY [.str z]) h R:=by
 have big:=sZ;have e:(tl z≠[]/\∀c∈tl z,c∈tl ("abcdefghijklmnopqrstuvwxyz":aI))↔tl z≠[]/\∀c∈tl z,97<=c/\c<=122:=and_congr_right λ_=>⟨λh c hc=>Vh.mp (h c hc),λh c hc=>Vh.mpr (h c hc)⟩;refine eB rfl rfl (Xv hz λh1 k1=>aM.dc (λhc=>WC.of (rf (by omega) ?_)) λhc=>?_)
 .refine q _ _ k1 ⟨λz8=>?_,λlb=>decide_eq_true ?_⟩
  .have:=of_decide_eq_true z8;exact⟨(e.mp hc).1,(e.mp hc).2,by rw[<- bV];omega⟩
  .have:=lb.2.2;rw[<- bV]at this;omega
 .exact q _ _ k1 ⟨λz=>absurd (of_decide_eq_true z) hc,λlb=>absurd (e.mpr ⟨lb.1,lb.2.1⟩) hc⟩
theorem yt{z:aI}{g:Nat}(hz:z.length<=9000)(hg:g<18446744073709551616)(q:∀h' v,Kp h h'->pL (tl z) g v->R v h'):WC Xc (run pg (k+2) SX [.str z,.int g]) h R:=by
 have big:=sZ;have lg:tl (uP (toString (g:Int)))=dg g:=qF;have l2:(uP (toString (g:Int))).length<=20:=by rw[bV,lg];exact Gu hg
 have no:∀h',Kp h h'->(∀m,m<=g->tl z≠dg m)->R .aK h':=λh' k1 n=>q h' _ k1 (.inr ⟨n,rfl⟩);refine eB rfl rfl (Xv hz λh1 k1=>aM.nd (λhc=>?_) λhc=>?_)
 .refine no _ k1 λm hm e=>hc ⟨by rw[e];exact cg,λc h'=>Vg.mpr (mE (e▸h'))⟩
 .obtain⟨h0,ha⟩:=hc;refine WC.of (rf (by omega) (WC.of (FX (CB (by omega) (by omega)) (WC.of (rf (z:=uP (toString (g:Int))) (by omega) (aM.dc (λhd=>?_) λhd=>?_))))))
  .refine no _ k1 λm hm e=>?_;have:=QU hm;rw[<- e,<- lg,<- bV,<- bV]at this;omega
  .have fin:(tl z=[48]\/(tl z).head?≠aA 48)->WC Xc (Bi.g .int [.str z]) h1 λv h2=>mQ Xc (run pg (k+1)) (.cons (.ret (.ite (.cmp .le (.var 2) (.var 1)) (.var 2) (.val .aK))) .nil) [aA (.str z),aA (.int g),aA v] h2 (λ_ h1=>R .aK h1) R (λ_ _=>False) (λ_ _=>False):=λhh=>by
    obtain⟨m,hm⟩:=canon _ _ rfl h0 (λc hc=>Vg.mp (ha c hc)) hh;have ml:(dg m).length<=20:=by rw[<- hm,<- bV];omega
    refine WC.of (aGe hm ((cf (by decide)).mp ml) (aM.dc (λhc=>q _ _ k1 (.inl ⟨m,by omega,hm,rfl⟩)) λhc=>no _ k1 λm' hm' e=>?_));have:=dq (hm.symm.trans e);omega
   refine aM.nd (λhe=>WC.of (FY (c:=48) (aM.dc (λhf=>no _ k1 λm hm e=>?_) λhf=>fin (.inr hf)))) λhe=>fin (.inl (by rw[he];rfl));rw[e]at hf;have:=Sw hf;subst this;exact he (qk (by rw[e,Ss];rfl))
theorem wm{m:Nat}:(dg m).head?≠aA 45:=λe=>by have:=mE (m:=m) (List.mem_of_head? e);omega
theorem aBt{z:aI}(hz:z.length<=9000)(q:∀h' v,Kp h h'->vB (tl z) v->R v h'):WC Xc (run pg (k+3) TF [.str z]) h R:=by
 have big:=sZ;refine eB rfl rfl (WC.of (FY (c:=45) (aM.nd (λhc=>yt (g:=999) hz (by decide) λh1 v k1 r=>q _ _ k1 ?_) λhc=>?_)))
 .rcases r with⟨m,hm,e,ev⟩|⟨n,ev⟩
  .refine .inl ⟨m,by omega,by omega,?_,ev⟩;unfold iR;rw[if_pos (by omega),gm,e]
  .refine .inr ⟨λs h0 h1 e=>?_,ev⟩;unfold iR at e;by_cases hs:0<=s
   .rw[if_pos hs]at e;exact n s.toNat (by omega) e
   .rw[if_neg hs]at e;exact hc (by rw[e];rfl)
 .obtain⟨l,hl⟩:∃l,tl z=45::l:=by
   cases ht:tl z with
   |nil=>rw[ht]at hc;cases hc|cons c l=>rw[ht]at hc;cases hc;exact⟨l,rfl⟩
  have z1:1<=z.length:=by rw[bV,hl];simp
  have e1:mX z (aA 1) aD=aP l:=by rw[aAv z1,hl];rfl
  refine lU (WC.of (fw (by omega) ?_));rw[e1];have zl:(aP l).length<=9000:=by rw[bV,eG];rw[bV,hl,hJ]at hz;omega
  refine yt (g:=999) zl (by decide) λh1 v k1 r=>?_;rcases r with⟨m,hm,e,rfl⟩|⟨n,rfl⟩
  .rw[eG]at e;refine aM.dc (λhd=>q _ _ k1 (.inr ⟨λs h0 h1 e2=>?_,rfl⟩)) λhd=>q _ _ k1 (.inl ⟨-(m:Int),by omega,by omega,?_,rfl⟩)
   .rw[hl]at e2;unfold iR at e2;by_cases hs:0<=s
    .rw[if_pos hs]at e2;exact wm (by rw[<- e2];rfl)
    .rw[if_neg hs,pC]at e2;have:=dq (e.symm.trans e2.2);omega
   .unfold iR;rw[if_neg (by omega),hl,e,show(-(m:Int)).natAbs=m by omega]
  .refine q _ _ k1 (.inr ⟨λs h0 h1 e2=>?_,rfl⟩);rw[hl]at e2;unfold iR at e2;by_cases hs:0<=s
   .rw[if_pos hs]at e2;exact wm (by rw[<- e2];rfl)
   .rw[if_neg hs,pC]at e2;exact n s.natAbs (by omega) e2.2
theorem aDp{z:aI}(hz:z.length<=9000)(q:∀h' v,Kp h h'->sW (tl z) v->R v h'):WC Xc (run pg (k+3) TH [.str z]) h R:=by
 refine eB rfl rfl (Vk hz λh1 b k1 hb=>aM.by (λe=>?_) λe=>yt (g:=400) hz (by decide) λh2 v k2 r=>q _ _ (k1.trans k2) (.inr ⟨λlb=>?_,r⟩))
 .refine q _ _ k1 (.inl ⟨hb.mp e,?_⟩);rw[nJ]
 .rw[hb.mpr lb]at e;cases e
theorem Ia{z:aI}:∀{ts:List aI},z∉ts->jN (.str z) (ts.map AV.str)=aF
 |[],_=>rfl|t::ts,hn=>by rw[pF,not_or]at hn;unfold jN;rw[dS,kC,show iT (.str t) (.str z)=decide (t=z) from rfl,decide_eq_false (λe=>hn.1 e.symm)];exact Ia hn.2
theorem OQ{z:aI}(q:∀v,xO (tl z) v->R v h):WC Xc (run pg (k+1) RX [.str z]) h R:=by
 refine eB rfl rfl ?_;by_cases hb:∃x:Nat,x<8/\tl z=[97+x]
 .obtain⟨x,hx,e⟩:=hb;obtain rfl:z=aP [97+x]:=qk e;have qq:=q _ (.inl ⟨x,hx,e,rfl⟩);have:=(by decide +kernel:∀x<8,x=0\/x=1\/x=2\/x=3\/x=4\/x=5\/x=6\/x=7) x hx;rcases this with rfl|rfl|rfl|rfl|rfl|rfl|rfl|rfl<;>exact WC.of (Me (xs:=[.str "a",.str "b",.str "c",.str "d",.str "e",.str "f",.str "g",.str "h"]) rfl rfl (WC.of (aGw rfl qq)))
 .have nb:∀x:Nat,x<8->tl z≠[97+x]:=λx hx e=>hb ⟨x,hx,e⟩;have qq:=q _ (.inr ⟨nb,rfl⟩);refine WC.of (Me (xs:=[.str "a",.str "b",.str "c",.str "d",.str "e",.str "f",.str "g",.str "h"]) rfl rfl ?_);refine aM.f (Ia (ts:=["a","b","c","d","e","f","g","h"]) λhm=>?_) qq;simp only[pF,qP,or_false]at hm;rcases hm with e|e|e|e|e|e|e|e
  .exact nb 0 (by decide) (by rw[e];rfl)
  .exact nb 1 (by decide) (by rw[e];rfl)
  .exact nb 2 (by decide) (by rw[e];rfl)
  .exact nb 3 (by decide) (by rw[e];rfl)
  .exact nb 4 (by decide) (by rw[e];rfl)
  .exact nb 5 (by decide) (by rw[e];rfl)
  .exact nb 6 (by decide) (by rw[e];rfl)
  .exact nb 7 (by decide) (by rw[e];rfl)
theorem u4{f z:aI}(hz:z.length<=9000)(q:∀h' v,Kp h h'->sT f (tl z) v->R v h'):WC Xc (run pg (k+4) SY [.str f,.str z]) h R:=by unfold sT at q;refine eB rfl rfl (aM.dc (λh1=>OQ λv r=>q _ _ Kp.refl (by rw[if_pos h1];exact r)) λh1=>aM.dc (λh2=>aBt hz λh' v k1 r=>q _ _ k1 (by rw[if_neg h1,if_pos h2];exact r)) λh2=>aM.dc (λh3=>aDp hz λh' v k1 r=>q _ _ k1 (by rw[if_neg h1,if_neg h2,if_pos h3];exact r)) λh3=>yt (g:=18446744073709551615) hz (by decide) λh' v k1 r=>q _ _ k1 (by rw[if_neg h1,if_neg h2,if_neg h3];exact r))
end
def mZ:List aI->List (List Nat)->List AV->Prop
 |[],[],[]=>True
 |f::fs,w::ws,v::vs=>sT f w v/\mZ fs ws vs
 |_,_,_=>False
theorem mZ.snoc{f:aI}{w:List Nat}{v:AV}(p:sT f w v):∀{fs:List aI}{ws:List (List Nat)}{vs:List AV},mZ fs ws vs->mZ (fs++[f]) (ws++[w]) (vs++[v])
 |[],[],[],_=>⟨p,trivial⟩
 |_::_,_::_,_::_,h=>⟨h.1,mZ.snoc p h.2⟩
 |[],[],_::_,h=>h.elim
 |[],_::_,_,h=>h.elim
 |_::_,[],_,h=>h.elim
 |_::_,_::_,[],h=>h.elim
def sV(ws:List (List Nat))(v:AV):Prop:=match ws with
 |[]=>v = .aK
 |w::r=>match jC.lookup (aP w) with
  |none=>v = .aK
  |some fs=>if r.length=fs.length then∃vs,mZ fs r vs/\v=(if vs.any fV=aB then .aK else .tup (.str (aP w)::vs)) else v = .aK
theorem Ln{k:aI}:qo.lookup k=(jC.lookup k).map λts=>AV.tup (ts.map AV.str):=by
 unfold qo;generalize jC=l;induction l with
 |nil=>rfl|cons p l ih=>
  rw[dS,gR,gR];cases hb:(k==p.1) with
  |true=>rfl|false=>exact ih
theorem TY{k:aI}{fs:List aI}(h:jC.lookup k=aA fs):fs.length<=3:=by
 have all:jC.all (λp=>decide (p.2.length<=3))=aB:=by decide +kernel
 exact of_decide_eq_true (List.all_eq_true.mp all _ (kn h))
theorem PV{Xc:Nat->AH->Prop}{σ:aH}{h:AH}{L1:List AV->AH->Prop}{n:Nat}{bb:Bool}{xs ys:List AV}{g:AV->aH->M aH}{me:aH->M AV}(I:Nat->List AV->aH->AH->Prop)(hl:xs.length=ys.length)(hn:xs.length<FU)(i0:I 0 [] σ h)(il:∀i zs σ h,I i zs σ h->h.ob n=aA (.lst bb ys))
  (turn:∀(i:Nat) x y zs σ h,xs[i]?=aA x->ys[i]?=aA y->I i zs σ h->Wp (g (.tup [x,y]) σ) h λσ1 h1=>We Xc (me σ1) h1 λz h3=>zs.length<sizeLine/\I (i+1) (zs++[z]) σ1 h3)
  (done:∀zs σ h,I xs.length zs σ h->L1 zs h):We Xc (eQ (uI (jS xs) (gU n)) g (λ_=>M.ret aB) me FU 0 [] σ) h L1:=by
 refine vH I xs.length (λi zs σ h hi hI=>?_) (λzs σ h hI=>⟨by simp[uI,jS,mI (il _ _ _ _ hI)],done zs σ h hI⟩) FU 0 [] σ h (kD _) (by omega) i0;have e1:=cZ hi;have e2:=cZ (show i<ys.length by omega);exact⟨_,by simp only[uI,jS,e1,mI (il _ _ _ _ hI),e2],(turn i _ _ zs σ h e1 e2 hI).mono λσ1 h1 w=>qw w⟩
theorem pO{x:AV}{xs:List AV}:eP (x::xs) 0=aA x:=by rw[show(0:Int)=((0:Nat):Int) from rfl,L2.vE];rfl
theorem qi{c:Nat}:∀{l w:List Nat},w∈bZ c l->w.length<=l.length
 |[],w,h=>by rw[List.mem_singleton.mp h];exact cB _
 |x::l,w,h=>by
  unfold bZ at h;split at h
  .rcases List.mem_cons.mp h with rfl|h
   .exact kD _
   .exact Oi (qi h)
  .split at h
   .rename_i e;exact absurd e (Ba _)
   .rename_i u us e;rcases List.mem_cons.mp h with rfl|h
    .have:=qi (c:=c) (l:=l) (w:=u) (by rw[e];exact .head _);simp only[hJ];omega
    .exact Oi (qi (by rw[e];exact .tail _ h))
theorem aHh{l w:List Nat}(h:w∈eS l):w.length<=l.length:=eN (qi (List.mem_filter.mp h |>.1)) Fq
section
variable {Xc:Nat->AH->Prop}{k:Nat}{h:AH}{R:AV->AH->Prop}
theorem aAc{z:aI}(hz:z.length<=9000)(q:∀h' v,Kp h h'->sV (eS (tl z)) v->R v h'):WC Xc (run pg (k+5) TB [.str z]) h R:=by
 have big:=sZ;refine eB rfl rfl (aHg hz λh1 n k1 hn ob=>?_);have k2:Kp h (h1.new (.lst aB [])):=k1.new;have ob2:(h1.new (.lst aB [])).ob n=aA (.lst aB ((eS (tl z)).map λw=>AV.str (aP w))):=(gH (bU hn)).trans ob;have hn2:n<(h1.new (.lst aB [])).nx:=lV hn;refine WC.of (aFv rfl (RL ob2 bO) ?_);generalize h1.new (.lst aB [])=h2 at k2 ob2 hn2 ⊢;clear ob hn k1;have wl:∀w∈eS (tl z),(aP w).length<=9000:=λw hw=>by rw[bV,eG];have:=aHh hw;rw[<- bV]at this;omega
 revert q
 generalize eS (tl z)=ws at ob2 wl ⊢;intro q;cases ws with
 |nil=>exact q _ _ k2 rfl|cons w r=>
  unfold sV at q;dsimp only at q;refine WC.of (iL (dR ob2) pO ?_);cases hf:jC.lookup (aP w) with
  |none=>refine WC.of (aGy (by rw[Ln,hf];rfl) (q _ _ k2 ?_));rw[hf]
  |some fs=>
   have fl:=TY hf;rw[hf]at q;dsimp only at q;refine WC.of (aGx (by rw[Ln,hf];rfl) (WC.of (iL (dR ob2) pO (WC.of (aGz (by rw[Ln,hf];rfl) (WC.of (zS (dR ob2) ?_)))))));by_cases hl:r.length=fs.length
   case neg=>exact aM.nf (by simp;omega) (q _ _ k2 (by rw[if_neg hl]))
   refine aM.nt (by simp[hl]) (WC.of (zU (GA (sA _ (lU (WC.of (FW ob2 ?_)))))));have k3:Kp h (h2.new (.lst aB (jU ((w::r).map λw=>AV.str (aP w)) (aA 1) aD))):=k2.new;have ob3:=(gH (o:=.lst aB (jU ((w::r).map λw=>AV.str (aP w)) (aA 1) aD)) (bU hn2)).trans ob2;have ob4:(h2.new (.lst aB (jU ((w::r).map λw=>AV.str (aP w)) (aA 1) aD))).ob h2.nx=aA (.lst aB (r.map λw=>AV.str (aP w))):=by rw[bO,show(aA 1:Option Int)=aA ((1:Nat):Int) from rfl,Sk];rfl
   have hn3:n<(h2.new (.lst aB (jU ((w::r).map λw=>AV.str (aP w)) (aA 1) aD))).nx:=lV hn2;have hn4:h2.nx<(h2.new (.lst aB (jU ((w::r).map λw=>AV.str (aP w)) (aA 1) aD))).nx:=cQ _;generalize h2.nx=m at ob4 hn4 ⊢;generalize h2.new (.lst aB (jU ((w::r).map λw=>AV.str (aP w)) (aA 1) aD))=h3 at k3 ob3 ob4 hn3 hn4 ⊢;refine⟨_,_,_,_,rfl,rfl,Hi ob4,?_⟩;refine PV (n:=m) (xs:=fs.map AV.str) (ys:=r.map λw=>AV.str (aP w)) (λi zs σ h'=>Kp h3 h'/\zs.length=min i fs.length/\mZ (fs.take i) (r.take i) zs/\∃a b,σ=[a,b]) (by simp[hl]) (by rw[aV,fF];omega) ⟨Kp.refl,by simp,trivial,_,_,rfl⟩ (λi zs σ h' y=>y.1.get hn4 ob4) ?_ ?_
   .rintro i x y zs σ h' e1 e2 ⟨kp,zl,pr,a,b,rfl⟩
    obtain⟨f,hf1,rfl⟩:=fX e1;obtain⟨u,hu,rfl⟩:=fX e2;have hi:=(List.getElem?_eq_some_iff.mp hf1).1;refine Mc (bR _ (u4 (wl u (.tail _ (fQ hu))) λh5 v k5 pv=>⟨by omega,kp.trans k5,by rw[fP,zl,uN];omega,?_,_,_,rfl⟩));rw[gM,gM,hf1,hu];exact mZ.snoc pv pr
   .rintro zs σ h5 ⟨kp,zl,pr,a,b,rfl⟩
    rw[aV,Dt]at zl;rw[aV,jG,<- hl,jG]at pr;have k6:Kp h3 (h5.new (.lst aB zs)):=kp.new;have ob6:(h5.new (.lst aB zs)).ob h5.nx=aA (.lst aB zs):=bO;have hn6:h5.nx<(h5.new (.lst aB zs)).nx:=cQ _;generalize h5.nx=j at ob6 hn6 ⊢;generalize h5.new (.lst aB zs)=h6 at k6 ob6 hn6 ⊢;refine WC.of (zU (Cb (gZ rfl (mS ob6 ?_))));refine Gq (bb:=aB) (xs:=zs) (λi ys σ h'=>h'=h6/\ys=(zs.take i).map (λv=>AV.bl (fV v))/\∃a,σ=[a]) (by rw[fF];omega) ⟨rfl,rfl,_,rfl⟩ (λi zs σ h' y=>by rw[y.1];exact ob6) ?_ ?_
    .rintro i x ys σ h' hx ⟨rfl,rfl,a,rfl⟩
     refine uF (bR _ ⟨by rw[aV,eT];omega,rfl,?_,_,rfl⟩);rw[gM,hx,dA];rfl
    .rintro ys σ h' ⟨rfl,rfl,a,rfl⟩
     rw[jG];have ka:Kp h' (h'.new (.lst aB (zs.map λv=>AV.bl (fV v)))):=Kp.refl.new;refine WC.of (aFt (bs:=zs.map fV) (by rw[bO,lD];rfl) ?_);rw[show(zs.map fV).any id=zs.any fV from by rw[De];rfl];have qq:=q _ _ (k3.trans (k6.trans ka)) (by rw[if_pos hl];exact⟨zs,pr,rfl⟩);refine aM.by (λhb=>by rw[if_pos hb]at qq;exact qq) λhb=>?_;rw[if_neg (by rw[hb];exact dG)]at qq;exact WC.of (iL (dR ((k6.trans ka).get hn3 ob3)) pO (WC.of (FZ (dR (ka.get hn6 ob6)) (WC.of (zR (by simp only[hJ,sx];omega) qq)))))
end
structure Wd where
 t:aI
 f:aI
 v:AV
inductive TT where
 |num (m:Nat)
 |bN (l:aI)
inductive Rk where
 |way (w:je) (x y z:Nat)|set (x m:Nat)|move (x y:Nat)|ls (st:Bool) (x y:Nat) (s:Int)|gF (x:Nat) (t:TT)|go (t:TT)|fault (m:Nat)
abbrev nS(m:Int):aI:=uP (toString m)
def wB(x:Nat):Wd:=⟨aP [97+x],"box",.int x⟩
def wW(m:Nat):Wd:=⟨nS m,"word",.int m⟩
def FH(s:Int):Wd:=⟨nS s,"step",.int s⟩
def kA:TT->Wd
 |.num m=>⟨nS m,"target",.int m⟩
 |.bN l=>⟨l,"target",.str l⟩
def TT.ok:TT->Prop
 |.num m=>m<=400
 |.bN l=>dN (tl l)
def YD(b:Bool):aI:=if b then "store" else "load"
def Rk.nm:Rk->aI
 |.way w _ _ _=>w.nm | .set _ _=>"set" |.move _ _=>"move" |.ls b _ _ _=>YD b | .gF _ _=>"jump" |.go _=>"go" |.fault _=>"fault"
def Rk.ps:Rk->List Wd
 |.way _ x y z=>[wB x,wB y,wB z] | .set x m=>[wB x,wW m] | .move x y=>[wB x,wB y] | .ls _ x y s=>[wB x,wB y,FH s] | .gF x t=>[wB x,kA t] | .go t=>[kA t] | .fault m=>[wW m]
def Rk.ok:Rk->Prop
 |.way _ x y z=>x<8/\y<8/\z<8 | .set x m=>x<8/\m<18446744073709551616 | .move x y=>x<8/\y<8 | .ls _ x y s=>x<8/\y<8/\-999<=s/\s<=999 | .gF x t=>x<8/\t.ok | .go t=>t.ok | .fault m=>m<18446744073709551616
def Rk.av(r:Rk):AV:=.tup (.str r.nm::r.ps.map (·.v))
def Rk.tx(r:Rk):List aI:=r.nm::r.ps.map (·.t)
inductive pM:Wd->Prop
 |box {x:Nat} (h:x<8):pM (wB x)
 |word {m:Nat} (h:m<18446744073709551616):pM (wW m)
 |step {s:Int} (h:-999<=s) (h':s<=999):pM (FH s)
 |wJ {t:TT} (h:t.ok):pM (kA t)
theorem Rk.dw{r:Rk}(h:r.ok):∀p∈r.ps,pM p:=by
 cases r<;>intro p hp<;>simp only[Rk.ps,pF,qP,or_false]at hp
 .rcases hp with rfl|rfl|rfl
  .exact .box h.1
  .exact .box h.2.1
  .exact .box h.2.2
 .rcases hp with rfl|rfl
  .exact .box h.1
  .exact .word h.2
 .rcases hp with rfl|rfl
  .exact .box h.1
  .exact .box h.2
 .rcases hp with rfl|rfl|rfl
  .exact .box h.1
  .exact .box h.2.1
  .exact .step h.2.2.1 h.2.2.2
 .rcases hp with rfl|rfl
  .exact .box h.1
  .exact .wJ h.2
 .subst hp;exact .wJ h
 .subst hp;exact .word h
theorem TX(r:Rk):jC.lookup r.nm=aA (r.ps.map (·.f)):=by
 cases r with
 |way w x y z=>cases w<;>rfl|ls b x y s=>cases b<;>rfl|gF x t=>cases t<;>rfl|go t=>cases t<;>rfl|_=>rfl
theorem pL.is{m g:Nat}{v:AV}(h:pL (dg m) g v)(hm:m<=g):v = .int m:=by
 rcases h with⟨m',_,e,rfl⟩|⟨n,_⟩
 .rw[dq e]
 .exact absurd rfl (n m hm)
theorem pL.no{l:List Nat}{g:Nat}{v:AV}(h:pL l g v)(hl:∀m,m<=g->l≠dg m):v = .aK:=by
 rcases h with⟨m',h1,e,rfl⟩|⟨n,e⟩
 .exact absurd e (hl m' h1)
 .exact e
theorem aAm{a b:Int}(h:iR a=iR b):a=b:=by
 unfold iR at h;by_cases ha:0<=a<;>by_cases hb:0<=b
 .rw[if_pos ha,if_pos hb]at h;have:=dq h;omega
 .rw[if_pos ha,if_neg hb]at h;exact absurd (show(dg a.toNat).head?=aA 45 by rw[h];rfl) wm
 .rw[if_neg ha,if_pos hb]at h;exact absurd (show(dg b.toNat).head?=aA 45 by rw[<- h];rfl) wm
 .rw[if_neg ha,if_neg hb,pC]at h;have:=dq h.2;omega
theorem vB.is{s:Int}{v:AV}(h:vB (iR s) v)(h0:-999<=s)(h1:s<=999):v = .int s:=by
 rcases h with⟨s',_,_,e,rfl⟩|⟨n,_⟩
 .rw[aAm e]
 .exact absurd rfl (n s h0 h1)
theorem vB.no{l:List Nat}{v:AV}(h:vB l v)(hl:∀s:Int,-999<=s->s<=999->l≠iR s):v = .aK:=by
 rcases h with⟨s',h1,h2,e,rfl⟩|⟨n,e⟩
 .exact absurd e (hl s' h1 h2)
 .exact e
theorem Sy{m:Nat}:¬dN (dg m):=λh=>by
 cases hd:dg m with
 |nil=>exact cg hd|cons c l=>have h1:=h.2.1 c (by rw[hd];exact .head _);have h2:=mE (m:=m) (c:=c) (by rw[hd];exact .head _);omega
theorem xO.is{x:Nat}{v:AV}(h:xO [97+x] v)(hx:x<8):v = .int x:=by
 rcases h with⟨y,_,e,rfl⟩|⟨n,_⟩
 .simp at e;rw[e]
 .exact absurd rfl (n x hx)
theorem sT.is{p:Wd}{v:AV}(hp:pM p)(h:sT p.f (tl p.t) v):v=p.v:=by
 cases hp with
 |box hx=>exact xO.is (show xO _ v from h) hx|word hm=>have h:pL (tl (nS _)) 18446744073709551615 v:=h;rw[qF]at h;exact h.is (by omega)
 |step h0 h1=>have h:vB (tl (nS _)) v:=h;rw[Bl]at h;exact h.is h0 h1
 |@wJ t ht=>
  cases t with
  |num m=>
   have h:sW (tl (nS m)) v:=h;rw[qF]at h;rcases h with⟨lb,_⟩|⟨_,h⟩
   .exact absurd lb Sy
   .exact h.is ht
  |bN l=>
   have h:sW (tl l) v:=h;rcases h with⟨_,h⟩|⟨n,_⟩
   .rw[h,nJ];rfl
   .exact absurd ht n
theorem mZ.is:∀{ps:List Wd}{vs:List AV},(∀p∈ps,pM p)->mZ (ps.map (·.f)) (ps.map λp=>tl p.t) vs->vs=ps.map (·.v)
 |[],[],_,_=>rfl|[],_::_,_,h=>h.elim
 |_::_,[],_,h=>h.elim
 |p::ps,v::vs,o,h=>by rw[sT.is (o p (.head _)) h.1,mZ.is (λp hp=>o p (.tail _ hp)) h.2];rfl
theorem aFo{p:Wd}(h:pM p):fV p.v=aF:=by
 cases h with
 |@wJ t ht=>cases t<;>rfl|_=>rfl
theorem MS{ps:List Wd}(h:∀p∈ps,pM p):(ps.map (·.v)).any fV=aF:=by rw[De,IA];exact λp hp=>by rw[show(fV ∘ λx=>x.v) p=fV p.v from rfl,aFo (h p hp)];exact dG
theorem UL{r:Rk}{v:AV}(h:r.ok)(hr:sV (r.tx.map tl) v):v=r.av:=by unfold sV Rk.tx at hr;simp only[dS]at hr;rw[nJ,TX]at hr;dsimp only at hr;rw[if_pos (by simp)]at hr;obtain⟨vs,hp,rfl⟩:=hr;rw[lD]at hp;have:=mZ.is (Rk.dw h) hp;subst this;rw[MS (Rk.dw h),if_neg dG];rfl
def gw(w:List Nat):Prop:=w≠[]/\32∉w/\35∉w
theorem Hq{m:Nat}:gw (dg m):=⟨cg,λh=>by have:=mE h;omega,λh=>by have:=mE h;omega⟩
theorem UO{s:Int}:gw (iR s):=by
 unfold iR;split
 .exact Hq
 .refine⟨IB _ _,λh=>?_,λh=>?_⟩<;>rcases List.mem_cons.mp h with h|h<;>first|cases h|(have:=mE h;omega)
theorem xt{l:List Nat}(h:dN l):gw l:=⟨h.1,λe=>by have:=h.2.1 _ e;omega,λe=>by have:=h.2.1 _ e;omega⟩
theorem aFn{p:Wd}(h:pM p):gw (tl p.t)/\p.t.length<=20:=by
 cases h with
 |@box x hx=>refine⟨⟨IB _ _,λe=>?_,λe=>?_⟩,show(1:Nat)<=20 by decide⟩<;>(have:=List.mem_singleton.mp e;omega)
 |@word m hm=>
  refine⟨?_,?_⟩
  .show gw (tl (nS m));rw[qF];exact Hq
  .show(nS m).length<=20;rw[bV,qF];exact Gu hm
 |@step s h0 h1=>
  refine⟨?_,?_⟩
  .show gw (tl (nS s));rw[Bl];exact UO
  .show(nS s).length<=20;rw[bV,Bl];unfold iR;have:∀m,m<=999->(dg m).length<=3:=λm hm=>(cf (by decide)).mpr (by omega);split
   .have:=this s.toNat (by omega);omega
   .have:=this s.natAbs (by omega);rw[hJ];omega
 |@wJ t ht=>
  cases t with
  |num m=>
   have hm:m<=400:=ht;refine⟨?_,?_⟩
   .show gw (tl (nS m));rw[qF];exact Hq
   .show(nS m).length<=20;rw[bV,qF];exact Gu (by omega)
  |bN l=>have hl:dN (tl l):=ht;refine⟨xt hl,?_⟩;have:=hl.2.2;show l.length<=20;rw[bV];omega
def xN(ws:List (List Nat)):Prop:=∀v,sV ws v->v = .aK
def ja(f:aI)(l:List Nat):Prop:=∀v,sT f l v->v = .aK
theorem OM:xN []:=λ_ h=>h
theorem vq{w:List Nat}{r:List (List Nat)}(h:jC.lookup (aP w)=aD):xN (w::r):=λv hr=>by unfold sV at hr;dsimp only at hr;rw[h]at hr;exact hr
theorem vt{w:List Nat}{r:List (List Nat)}{fs:List aI}(h:jC.lookup (aP w)=aA fs)(hl:r.length≠fs.length):xN (w::r):=λv hr=>by unfold sV at hr;dsimp only at hr;rw[h]at hr;dsimp only at hr;rw[if_neg hl]at hr;exact hr
theorem Yx{f:aI}{l:List Nat}(h:ja f l):∀{fs:List aI}{ws:List (List Nat)}{vs:List AV} (i:Nat),fs[i]?=aA f->ws[i]?=aA l->mZ fs ws vs->vs.any fV=aB
 |[],_,_,i,e,_,_=>by simp at e
 |_::_,[],_,i,_,e,_=>by simp at e
 |_::_,_::_,[],i,_,_,p=>p.elim
 |f'::fs,w::ws,v::vs,0,e1,e2,p=>by cases e1;cases e2;rw[h v p.1];rfl
 |f'::fs,w::ws,v::vs,i+1,e1,e2,p=>by rw[kC,Yx h i (by simpa using e1) (by simpa using e2) p.2,Nb]
theorem bq{w l:List Nat}{r:List (List Nat)}{f:aI}{fs:List aI}(h:jC.lookup (aP w)=aA fs)(i:Nat)(e1:fs[i]?=aA f)(e2:r[i]?=aA l)(n:ja f l):xN (w::r):=λv hr=>by
 unfold sV at hr;dsimp only at hr;rw[h]at hr;dsimp only at hr;by_cases hl:r.length=fs.length
 .rw[if_pos hl]at hr;obtain⟨vs,p,rfl⟩:=hr;rw[if_pos (Yx n i e1 e2 p)]
 .rw[if_neg hl]at hr;exact hr
theorem Yg{l:List Nat}{g c:Nat}{v:AV}(h:c∈l)(hc:¬(48<=c/\c<=57))(r:pL l g v):v = .aK:=r.no λm _ e=>hc (mE (e▸h))
theorem QR{m:Nat}{l:List Nat}(h:dg m=48::l):l=[]:=by have:=Sw (m:=m) (by rw[h];rfl);subst this;rw[Ss,pC]at h;exact h.2.symm
theorem ZX{l:List Nat}{g:Nat}{v:AV}(h:l≠[])(r:pL (48::l) g v):v = .aK:=r.no λm _ e=>h (QR e.symm)
theorem Ju(r:Rk):1<=r.ps.length/\r.ps.length<=3:=by cases r<;>simp[Rk.ps]
theorem TZ{k:aI}{fs:List aI}(h:jC.lookup k=aA fs):1<=fs.length:=by
 have all:jC.all (λp=>decide (1<=p.2.length))=aB:=by decide +kernel
 exact of_decide_eq_true (List.all_eq_true.mp all _ (kn h))
theorem sY{w:List Nat}:xN [w]:=by
 cases hl:jC.lookup (aP w) with
 |none=>exact vq hl|some fs=>exact vt hl (by have:=TZ hl;show 0≠fs.length;omega)
inductive It where
 |aK|bN (l:aI)|bad|row (r:Rk)
def It.av:It->AV
 |.aK=>.aK | .bN l=>.str l | .bad=>.str "BAD" |.row r=>r.av
def It.ok:It->Prop
 |.bN l=>dN (tl l) | .row r=>r.ok|_=>True
def It.yf:It->AV
 |.bN l=>.str l|_=>.aK
def It.Ao:It->AV
 |.row r=>r.av|_=>.aK
def It.nn:It->Bool
 |.aK=>aB|_=>aF
def It.lb:It->Option aI
 |.bN l=>aA l|_=>aD
def It.rk:It->Option Rk
 |.row r=>aA r|_=>aD
def It.rw:It->Nat
 |.row _=>1|_=>0
def vf(ws:List (List Nat)):Prop:=∀l,dN l->ws≠[l++[58]]
def oK(ws:List (List Nat)):It->Prop
 |.aK=>ws=[] | .bN l=>ws=[tl l++[58]] | .bad=>ws≠[]/\vf ws/\xN ws | .row r=>ws=r.tx.map tl
theorem Td{c:Nat}{l:List Nat}:(l.dropWhile λx=>x==c).head?≠aA c:=λe=>by have:=aJt (λx=>x==c) l;rw[e]at this;simp at this
theorem aCa{c:Nat}{l:List Nat}:(fO c l).getLast?≠aA c:=by unfold fO;rw[List.getLast?_reverse];exact Td
theorem CU{c:Nat}{l:List Nat}:(fO c l).head?≠aA c:=λe=>by
 have e2:l.dropWhile (λx=>x==c)=fO c l++((l.dropWhile λx=>x==c).reverse.takeWhile λx=>x==c).reverse:=by unfold fO;rw[<- JI,Of,Oe]
 refine Td (c:=c) (l:=l) ?_;rw[e2,IV,e];rfl
theorem ON{m:List Nat}(h:wf (fO 32 m)=[]):fO 32 m=[]:=by
 cases e:fO 32 m with
 |nil=>rfl|cons c l=>rw[e]at h;have:=Md h c (.head _);exact absurd (show(fO 32 m).head?=aA 32 by rw[e,this];rfl) CU
theorem OO{m w:List Nat}(h:wf (fO 32 m)=[w]):fO 32 m=w:=by
 have h0:fO 32 m≠[]:=λe=>by rw[e,Bv]at h;cases h
 by_cases hm:32∈fO 32 m
 .obtain⟨a,b,e,na⟩:=aJm hm;have a0:a≠[]:=λz=>absurd (show(fO 32 m).head?=aA 32 by rw[e,z];rfl) CU;rw[e,sC,nW na a0]at h;have hb:=Md (Nn h).2;refine absurd (show(fO 32 m).getLast?=aA 32 from ?_) aCa;rw[e,List.getLast?_append];cases hb':b.getLast? with
  |none=>
   have:b=[]:=by simpa using hb'
   rw[this];rfl
  |some x=>have hx:=hb x (List.mem_of_getLast? hb');rw[List.getLast?_cons,hb',hx];rfl
 .rw[nW hm h0]at h;exact(Nn h).1
def Ql(m:List Nat)(v:AV):Prop:=(∃l,m=tl l++[58]/\dN (tl l)/\v = .str l)\/((∀l,dN l->m≠l++[58])/\v = .aK)
theorem Iu{l:List Nat}(h:dN l):wf (l++[58])=[l++[58]]:=nW (λe=>by
 rcases List.mem_append.mp e with e|e
 .exact(xt h).2.1 e
 .have:=List.mem_singleton.mp e;omega) (by simp)
theorem aDs{x:List Nat}{it:It}{v:AV}(ok:it.ok)(t:oK (eS x) it)(r:Ql (iF x) v):v=it.yf:=by
 have no:(∀l,dN l->eS x≠[l++[58]])->v = .aK:=λn=>by
  rcases r with⟨l,e,hl,_⟩|⟨_,e⟩
  .refine absurd ?_ (n _ hl);rw[Mi,e,Iu hl]
  .exact e
 cases it with
 |aK=>exact no λl _ e=>by rw[show eS x=[] from t]at e;cases e
 |bN l=>
  have e:iF x=tl l++[58]:=OO t;rcases r with⟨l',e',_,rfl⟩|⟨n,_⟩
  .rw[e]at e';rw[qk (sk e')];rfl
  .exact absurd e (n _ ok)
 |bad=>exact no t.2.1|row r0=>refine no λl _ e=>?_;rw[show eS x=r0.tx.map tl from t]at e;have h1:=congrArg qN e;have:=Ju r0;simp[Rk.tx]at h1;rw[h1]at this;simp at this
theorem aDt{x:List Nat}{it:It}{v:AV}(ok:it.ok)(t:oK (eS x) it)(r:sV (eS x) v):v=it.Ao:=by
 cases it with
 |aK=>rw[show eS x=[] from t]at r;exact OM v r|bN l=>rw[show eS x=[tl l++[58]] from t]at r;exact sY v r|bad=>exact t.2.2 v r|row r0=>rw[show eS x=r0.tx.map tl from t]at r;exact UL ok r
theorem DS{x:List Nat}{it:It}(t:oK (eS x) it):iF x=[]↔it.nn=aB:=by
 have h1:it.nn=aB↔eS x=[]:=by
  cases it with
  |aK=>exact⟨λ_=>t,λ_=>rfl⟩|bN l=>exact⟨λz=>(nomatch z),λz=>by rw[show eS x=[tl l++[58]] from t]at z;cases z⟩|bad=>exact⟨λz=>(nomatch z),λz=>absurd z t.1⟩|row r0=>exact⟨λz=>(nomatch z),λz=>by rw[show eS x=r0.tx.map tl from t]at z;cases z⟩
 rw[h1];exact⟨λe=>by rw[Mi,e,Bv],ON⟩
def zO(p:Nat×It):AV:=.tup [.int p.1,p.2.yf,p.2.Ao]
def bK:Nat->List It->List (Nat×It)
 |_,[]=>[]
 |n,it::r=>if it.nn=aB then bK (n+1) r else(n,it)::bK (n+1) r
theorem EG{it:It}:∀{a:List It}{n:Nat},bK n (a++[it])=bK n a++if it.nn=aB then[] else[(n+a.length,it)]
 |[],n=>by simp[bK]
 |x::a,n=>by have ih:=EG (it:=it) (a:=a) (n:=n+1);rw[fT,bK,bK,ih,hJ,show n+1+a.length=n+(a.length+1) by omega];split<;>rfl
theorem uD:∀{its:List It}{n j i:Nat}{it:It},(bK n its)[j]?=aA (i,it)->∃k,i=n+k/\its[k]?=aA it/\bK n (its.take k)=(bK n its).take j/\it.nn=aF
 |[],n,j,i,it,h=>by simp[bK]at h
 |x::r,n,j,i,it,h=>by
  rw[bK]at h;by_cases hx:x.nn=aB
  .rw[if_pos hx]at h;obtain⟨k,h1,h2,h3,h4⟩:=uD h;refine⟨k+1,by omega,by simpa using h2,?_,h4⟩;rw[af,bK,bK,if_pos hx,if_pos hx,h3]
  .rw[if_neg hx]at h;cases j with
   |zero=>simp at h;refine⟨0,by omega,by simp[h.2],by simp[bK],?_⟩;rw[<- h.2];simpa using hx
   |succ j=>obtain⟨k,h1,h2,h3,h4⟩:=uD (its:=r) (n:=n+1) (j:=j) (by simpa using h);refine⟨k+1,by omega,by simpa using h2,?_,h4⟩;rw[af,bK,bK,if_neg hx,if_neg hx,h3];rfl
theorem Bq:∀{its:List It}{n k:Nat}{it:It},its[k]?=aA it->it.nn=aF->(n+k,it)∈bK n its
 |[],n,k,it,h,_=>by simp at h
 |x::r,n,0,it,h,hn=>by
  have:x=it:=by simpa using h
  subst this;rw[bK,if_neg (by rw[hn];exact dG)];exact .head _
 |x::r,n,k+1,it,h,hn=>by
  have:=Bq (n:=n+1) (k:=k) (its:=r) (by simpa using h) hn;rw[show n+1+k=n+(k+1) by omega]at this;rw[bK];split
  .exact this
  .exact .tail _ this
def cD(its:List It):List aI:=its.filterMap It.lb
def bJ(its:List It):Nat:=(its.map It.rw).sum
def cF:List It->Nat->aI->Option Nat
 |[],_,_=>aD
 |it::r,n,l=>if it.lb=aA l then aA n else cF r (n+it.rw) l
theorem Ap{a b:List It}:bJ (a++b)=bJ a+bJ b:=by unfold bJ;rw[dA,List.sum_append]
theorem Aq{it:It}:bJ [it]=it.rw:=by simp[bJ]
theorem yP{a b:List It}:cD (a++b)=cD a++cD b:=so
theorem CO{l:aI}{b:List It}:∀{a:List It}{n:Nat},cF (a++b) n l=(cF a n l).or (cF b (n+bJ a) l)
 |[],n=>by simp[cF,bJ]
 |x::a,n=>by
  rw[fT,cF,cF];split
  .rfl
  .rw[CO,show n+bJ (x::a)=n+x.rw+bJ a by simp[bJ];omega]
theorem Bb{l:aI}:∀{a:List It}{n:Nat},cF a n l=aD↔l∉cD a
 |[],n=>by simp[cF,cD]
 |x::a,n=>by
  rw[cF];have e:cD (x::a)=(x.lb.toList)++cD a:=by unfold cD;rw[pD];cases x.lb<;>rfl
  rw[e];split
  .rename_i h;rw[h];simp
  .rename_i h;rw[Bb,sJ,Option.mem_toList,not_or];exact⟨λz=>⟨h,z⟩,λz=>z.2⟩
theorem Lc{l:aI}:∀{a:List It}{n m:Nat},cF a n l=aA m->m<=n+bJ a
 |[],n,m,h=>by cases h
 |x::a,n,m,h=>by
  rw[cF]at h;have e:bJ (x::a)=x.rw+bJ a:=by simp[bJ]
  split at h
  .cases h;omega
  .have:=Lc h;omega
theorem Ld{l:aI}:∀{its:List It}{k n:Nat},cF ((bK k its).map (·.2)) n l=cF its n l
 |[],_,_=>rfl|x::r,k,n=>by
  rw[bK];split
  .rename_i h;have h1:x.lb=aD/\x.rw=0:=by cases x<;>first|exact⟨rfl,rfl⟩|cases h
   rw[cF,h1.1,h1.2,if_neg (by simp),Ld];rfl
  .rw[dS,cF,cF,Ld]
theorem yg:∀{its:List It}{k:Nat},cD ((bK k its).map (·.2))=cD its
 |[],_=>rfl|x::r,k=>by
  rw[bK];split
  .rename_i h;have h1:x.lb=aD:=by cases x<;>first|rfl|cases h
   rw[yg];unfold cD;rw[pD,h1]
  .have ih:=yg (its:=r) (k:=k+1);unfold cD at ih ⊢;rw[dS,pD,pD,ih]
def gE(its:List It):Rk->Option Rk
 |.gF x (.bN l)=>(cF its 0 l).map λn=>.gF x (.num n)
 |.go (.bN l)=>(cF its 0 l).map λn=>.go (.num n)
 |.gF x (.num n)=>if n<=bJ its then aA (.gF x (.num n)) else aD
 |.go (.num n)=>if n<=bJ its then aA (.go (.num n)) else aD
 |r=>aA r
def Tw(its:List It)(i:Nat):Prop:=∃l,its[i]?=aA (.bN l)/\l∈cD (its.take i)
def uX(its:List It)(i:Nat):Prop:=∃r,its[i]?=aA (.row r)/\gE its r=aD
def Bd(its:List It)(i:Nat):Prop:=its[i]?=aA .bad
def oE(P:Nat->Prop)(i:Nat):Prop:=P i/\∀j,j<i->¬P j
theorem oE.wL{P:Nat->Prop}{i j:Nat}(a:oE P i)(b:oE P j):i=j:=by
 rcases Nat.lt_trichotomy i j with h|h|h
 .exact absurd a.1 (b.2 i h)
 .exact h
 .exact absurd b.1 (a.2 j h)
inductive Rs where
 |row (i:Nat)|twice (i:Nat)|label (i:Nat)|told (rs:List Rk)
def jf(its:List It)(it:It):Option Rk:=it.rk.bind (gE its)
def Due(its:List It):Rs->Prop
 |.row i=>oE (Bd its) i
 |.twice i=>(∀j,¬Bd its j)/\oE (Tw its) i
 |.label i=>(∀j,¬Bd its j)/\(∀j,¬Tw its j)/\oE (uX its) i
 |.told rs=>(∀j,¬Bd its j)/\(∀j,¬Tw its j)/\(∀j,¬uX its j)/\rs=its.filterMap (jf its)
theorem Due.wL{its:List It}{a b:Rs}(x:Due its a)(y:Due its b):a=b:=by
 cases a<;>cases b
 .rw[oE.wL x y]
 .exact absurd x.1 (y.1 _)
 .exact absurd x.1 (y.1 _)
 .exact absurd x.1 (y.1 _)
 .exact absurd y.1 (x.1 _)
 .rw[oE.wL x.2 y.2]
 .exact absurd x.2.1 (y.2.1 _)
 .exact absurd x.2.1 (y.2.1 _)
 .exact absurd y.1 (x.1 _)
 .exact absurd y.2.1 (x.2.1 _)
 .rw[oE.wL x.2.2 y.2.2]
 .exact absurd x.2.2.1 (y.2.2.1 _)
 .exact absurd y.1 (x.1 _)
 .exact absurd y.2.1 (x.2.1 _)
 .exact absurd y.2.2.1 (x.2.2.1 _)
 .rw[x.2.2.2,y.2.2.2]
theorem ZR{its:List It}(h:(cD its).Nodup)(j:Nat):¬Tw its j:=λ⟨l,e,m⟩=>by
 have hj:=(List.getElem?_eq_some_iff.mp e);have e2:its=its.take j++its[j]'hj.1::its.drop (j+1):=by rw[<- Np hj.1,List.take_append_drop]
 rw[e2,yP,JD]at h;exact h.2.2 l m l (by rw[hj.2];exact .head _) rfl
theorem RG{its:List It}{d:Rs}(nb:∀j,¬Bd its j)(nd:(cD its).Nodup)(fa:∀r,.row r∈its->∃r',gE its r=aA r')(h:Due its d):∃rs,d = .told rs:=by
 cases d with
 |row i=>exact absurd h.1 (nb i)|twice i=>exact absurd h.2.1 (ZR nd i)|label i=>obtain⟨r,e,z⟩:=h.2.2.1;obtain⟨r',e'⟩:=fa r (fQ e);rw[z]at e';cases e'
 |told rs=>exact⟨rs,rfl⟩
section
variable {Xc:Nat->AH->Prop}{k:Nat}{h:AH}{R:AV->AH->Prop}
theorem Bz{n:Nat}{aE:List (aU×AV)}{y:AV}{k:aU}{V1:AV->AH->Prop}(e:h.ob n=aA (.bQ aE))(hk:iY y=aA k)(q:V1 (.bl (!(bT aE k).isSome)) h):We Xc (Cp.g .nin y (.ref n)) h V1:=by show We Xc (jM aB y (.ref n)) h V1;unfold We jM;simp only[fG,e,hk];exact q
theorem oV{n:Nat}{b:Bool}{xs:List AV}(e:h.ob n=aA (.lst b xs)):iX h (.ref n)=aB:=by simp only[iX,e]
theorem XN{z:aI}(hz:z.length<=9000)(q:∀h' v,Kp h h'->Ql (iF (tl z)) v->R v h'):WC Xc (run pg (k+3) RZ [.str z]) h R:=by
 have big:=sZ;have bl:=Fq (l:=tl z);rw[<- bV]at bl;refine eB rfl rfl (Fs (by omega) ?_);generalize iF (tl z)=m at q bl ⊢;have ml:(aP m).length=m.length:=by rw[bV,eG]
 refine WC.of (aFy (c:=58) (aM.dc (λhc=>?_) λhc=>?_))
 .rw[eG]at hc;have e:m=m.take (m.length-1)++[58]:=by
   have h0:m≠[]:=λz=>by rw[z]at hc;cases hc
   rw[<- List.dropLast_eq_take];have:=IE h0;rw[aJs h0]at hc;rw[dB hc]at this;exact this.symm
  have h1:1<=(aP m).length:=by rw[ml,e];simp
  have s1:mX (aP m) aD (aA (-1))=aP (m.take (m.length-1)):=by rw[aAy h1,ml,eG]
  refine lU (WC.of (fw (by omega) ?_));rw[s1];have lt:(aP (m.take (m.length-1))).length<=9000:=by rw[bV,eG,eT];omega
  refine Vk lt λh1 b k1 hb=>aM.by (λeb=>?_) λeb=>q _ _ k1 (.inr ⟨λl hl el=>?_,rfl⟩)
  .refine lU (WC.of (fw (by omega) ?_));rw[s1];exact q _ _ k1 (.inl ⟨_,e,hb.mp eb,rfl⟩)
  .rw[hb.mpr (by rw[eG,el,fP,uN,Nat.add_sub_cancel,List.take_left];exact hl)]at eb;cases eb
 .refine q _ _ Kp.refl (.inr ⟨λl hl el=>hc ?_,rfl⟩);rw[eG,el];simp
end
def qX(ts:List (Nat×It))(j:Nat):Prop:=∃p l,ts[j]?=aA p/\p.2 = .bN l/\l∈cD ((ts.take j).map (·.2))
theorem aEs{its:List It}{j:Nat}(h:qX (bK 0 its) j):∃p,(bK 0 its)[j]?=aA p/\Tw its p.1:=by
 obtain⟨⟨i,it⟩,l,e,e2,m⟩:=h;obtain⟨k,e3,e4,e5,_⟩:=uD e;have e3:i=k:=by omega
 subst e3;refine⟨_,e,l,e2▸e4,?_⟩;rw[<- e5,yg]at m;exact m
theorem ER{its:List It}{i:Nat}(h:Tw its i):∃j it,(bK 0 its)[j]?=aA (i,it)/\qX (bK 0 its) j:=by
 obtain⟨l,e,m⟩:=h;have hm:=Bq (n:=0) e rfl;rw[gy]at hm;obtain⟨j,hj⟩:=xC hm;refine⟨j,_,hj,_,l,hj,rfl,?_⟩;obtain⟨k,e3,e4,e5,_⟩:=uD hj;have e3:i=k:=by omega
 subst e3;rw[<- e5,yg];exact m
theorem aEi{its:List It}{j j':Nat}{p p':Nat×It}(e:(bK 0 its)[j]?=aA p)(e':(bK 0 its)[j']?=aA p')(h:p'.1<p.1):j'<j:=by
 obtain⟨k,a1,a2,a3,_⟩:=uD (i:=p.1) (it:=p.2) e;obtain⟨k',b1,b2,b3,b4⟩:=uD (i:=p'.1) (it:=p'.2) e';have hm:p'∈(bK 0 its).take j:=by rw[<- a3];have:=Bq (n:=0) (its:=its.take k) (k:=k') (it:=p'.2) (by rw[Dj,if_pos (by omega)];exact b2) b4;rw[<- b1]at this;exact this
 obtain⟨j2,hj2⟩:=xC hm;rw[Dj]at hj2;split at hj2
 .rename_i hlt;obtain⟨k2,c1,c2,c3,_⟩:=uD (i:=p'.1) (it:=p'.2) hj2;have:k2=k':=by omega
  subst this;rw[b3]at c3;have l1:=congrArg qN c3;rw[eT,eT]at l1;have l2:=(List.getElem?_eq_some_iff.mp e').1;have l3:=(List.getElem?_eq_some_iff.mp hj2).1;omega
 .cases hj2
theorem UA{its:List It}{j:Nat}(h:qX (bK 0 its) j)(n:∀j',j'<j->¬qX (bK 0 its) j'):∃p,(bK 0 its)[j]?=aA p/\oE (Tw its) p.1:=by obtain⟨p,e,t⟩:=aEs h;refine⟨p,e,t,λi hi hT=>?_⟩;obtain⟨j',it,e',t'⟩:=ER hT;exact n j' (aEi e e' hi) t'
section
variable {Xc:Nat->AH->Prop}{k:Nat}{h:AH}{R:AV->AH->Prop}
theorem aEh{tx:aI}{ls:List (List Nat×It)}(hx:tx.length<=1000000)(hs:bZ 10 (tl tx)=ls.map (·.1))(hl:∀p∈ls,p.1.length<=9000/\p.2.ok/\oK (eS p.1) p.2)(hn:ls.length<=1000)
  (qb:∀h' i,Kp h h'->oE (Bd (ls.map (·.2))) i->Xc (6+64*(i+1)) h')
  (q:∀h' n,Kp h h'->n<h'.nx->h'.ob n=aA (.lst aB ((bK 0 (ls.map (·.2))).map zO))->(∀j,¬Bd (ls.map (·.2)) j)->R (.ref n) h'):WC Xc (run pg (k+6) TJ [.str tx]) h R:=by
 have big:sizeLine=16777216:=iB;refine eB rfl rfl (WB.of ?_);with_reducible refine mT (fz (bR _ ?_))
 refine WC.of (Mg (z:=tx) (c:=10) (by decide) (by omega) ?_);refine⟨_,_,_,rfl,bO,?_⟩;rw[hs,lD];have k0:Kp h (h.new (.lst aB [])):=Kp.refl.new;have o0:(h.new (.lst aB [])).ob h.nx=aA (.lst aB []):=bO;have n0:h.nx<(h.new (.lst aB [])).nx:=cQ _;generalize en:h.nx=n at o0 n0 ⊢;generalize h.new (.lst aB [])=h1 at k0 o0 n0 ⊢;have k1:Kp h (h1.new (.lst aB (ls.map ((λw=>AV.str (aP w)) ∘ λx=>x.1)))):=k0.new;have o1:(h1.new (.lst aB (ls.map ((λw=>AV.str (aP w)) ∘ λx=>x.1)))).ob h1.nx=aA (.lst aB (ls.map ((λw=>AV.str (aP w)) ∘ λx=>x.1))):=bO;have p1:(h1.new (.lst aB (ls.map ((λw=>AV.str (aP w)) ∘ λx=>x.1)))).ob n=aA (.lst aB []):=(gH (bU n0)).trans o0;have n1:h1.nx<(h1.new (.lst aB (ls.map ((λw=>AV.str (aP w)) ∘ λx=>x.1)))).nx:=cQ _;generalize h1.nx=m at o1 n0 n1 ⊢;generalize h1.new (.lst aB (ls.map ((λw=>AV.str (aP w)) ∘ λx=>x.1)))=h2 at k1 o1 p1 n1 ⊢;clear k0 o0 h1;refine jo (xs:=ls.map ((λw=>AV.str (aP w)) ∘ λx=>x.1)) (λi σ h'=>(∃a b c d,σ=[aA (.str tx),aA (.ref n),a,b,c,d])/\Kp h h'/\m<h'.nx/\h'.ob m=aA (.lst aB (ls.map ((λw=>AV.str (aP w)) ∘ λx=>x.1)))/\h'.ob n=aA (.lst aB ((bK 0 ((ls.map (·.2)).take i)).map zO))/\∀j,j<i->¬Bd (ls.map (·.2)) j) (by rw[aV,fF];omega) ⟨⟨_,_,_,_,rfl⟩,k1,n1,o1,p1,λj z=>absurd z (ua _)⟩ (λi σ h' y=>y.2.2.2.1) ?_ ?_
 .rintro i x σ h' hx' ⟨⟨a,b,c,d,rfl⟩,kp,lm,om,on,nb⟩
  obtain⟨⟨w,it⟩,hp,rfl⟩:=fX hx';obtain⟨wl,ok,te⟩:=hl _ (fQ hp);have wl:(aP w).length<=9000:=by rw[bV,eG];exact wl
  have hi:i<ls.length:=(List.getElem?_eq_some_iff.mp hp).1;have hit:(ls.map (·.2))[i]?=aA it:=by rw[gK,hp];rfl
  have et:(ls.map (·.2)).take (i+1)=(ls.map (·.2)).take i++[it]:=by rw[gM,hit];rfl
  have el:((ls.map (·.2)).take i).length=i:=by rw[eT,aV];omega
  have e2:=EG (it:=it) (a:=(ls.map (·.2)).take i) (n:=0);rw[<- et,el,gy]at e2;have tlen:((bK 0 ((ls.map (·.2)).take i)).map zO).length<=i:=by
   rw[aV];have:∀(l:List It) (n:Nat),(bK n l).length<=l.length:=λl=>by
    induction l with
    |nil=>intro n;exact cB _|cons x r ih=>intro n;rw[bK];have:=ih (n+1);split<;>simp<;>omega
   have:=this ((ls.map (·.2)).take i) 0;omega
  have done:it.nn=aB->(∀j,j<i+1->¬Bd (ls.map (·.2)) j)/\bK 0 ((ls.map (·.2)).take (i+1))=bK 0 ((ls.map (·.2)).take i):=λhh=>⟨λj hj=>by
   by_cases hji:j=i
   .subst hji;intro z;unfold Bd at z;rw[hit]at z;cases it<;>cases z;cases hh
   .exact nb j (by omega),by rw[e2,if_pos hh,iS]⟩
  refine kY _ (jE _ (Fs (z:=aP w) (by omega) (aM.nd (λhc=>?_) λhc=>?_)))
  .have hnn:it.nn=aF:=by
    cases hv:it.nn with
    |false=>rfl|true=>exact absurd (by rw[eG,(DS te).mpr hv];rfl) hc
   refine XN (k:=k+2) wl λh3 v k3 r3=>?_;have ev:=aDs ok te r3;subst ev;refine aAc (k:=k) wl λh4 v k4 r4=>?_;have ev:=aDt ok te r4;subst ev;have kk:=k3.trans k4;have ln:n<h'.nx:=tu n0 lm;have om4:=kk.get lm om;have on4:=kk.get ln on;have app:it.lb.isSome=aB\/it.rk.isSome=aB->WC Xc (kP (.ref n) (.tup [.int i,it.yf,it.Ao])) h4 λ_ h1=>(∃a b c d,[aA (AV.str tx),aA (AV.ref n),aA (AV.int i),aA (AV.str (aP w)),aA it.yf,aA it.Ao]=[aA (.str tx),aA (.ref n),a,b,c,d])/\Kp h h1/\m<h1.nx/\h1.ob m=aA (.lst aB (ls.map ((λw=>AV.str (aP w)) ∘ λx=>x.1)))/\h1.ob n=aA (.lst aB ((bK 0 ((ls.map (·.2)).take (i+1))).map zO))/\∀j,j<i+1->¬Bd (ls.map (·.2)) j:=λhh=>by
    refine WC.of (wR on4 (by omega) ⟨⟨_,_,_,_,rfl⟩,(kp.trans kk).put (by omega),cP lm kk.nx,(tU (pJ n0)).trans om4,?_,λj hj=>?_⟩)
    .rw[rO,e2,if_neg (by rw[hnn];exact dG),dA];rfl
    .by_cases hji:j=i
     .subst hji;intro z;unfold Bd at z;rw[hit]at z;cases it<;>cases z;rcases hh with hh|hh<;>cases hh
     .exact nb j (by omega)
   cases it with
   |aK=>cases hnn|bN l=>exact aM.t (oV on4) (app (.inl rfl))|row r=>exact aM.t (oV on4) (app (.inr rfl))|bad=>exact WB.of (gc (gZ rfl ⟨i,rfl,qb _ _ (kp.trans kk) ⟨hit,nb⟩⟩))
  .have hnn:it.nn=aB:=(DS te).mp (mk_eq.mp hc);obtain⟨d1,d2⟩:=done hnn;exact⟨⟨_,_,_,_,rfl⟩,kp,lm,om,by rw[d2];exact on,d1⟩
 .rintro σ h' ⟨⟨a,b,c,d,rfl⟩,kp,lm,om,on,nb⟩
  rw[aV]at nb on;have et:(ls.map (·.2)).take ls.length=ls.map (·.2):=qQ (by simp);rw[et]at on;refine q _ _ kp (tu n0 lm) on λj z=>?_;have:=(List.getElem?_eq_some_iff.mp z).1;rw[aV]at this;exact nb j this z
end
theorem ZM(w:je):¬(w.nm=("jump":aI)):=by cases w<;>decide
theorem ZL(w:je):¬(w.nm=("go":aI)):=by cases w<;>decide
theorem Io{r:Rk} (h:r.nm=("jump":aI)):∃x t,r = .gF x t:=by
 cases r with
 |gF x t=>exact⟨x,t,rfl⟩|way w x y z=>exact absurd h (ZM w)|ls b x y s=>
  cases b
  .exact absurd (show("load":aI)="jump" from h) (by decide)
  .exact absurd (show("store":aI)="jump" from h) (by decide)
 |set x m=>exact absurd (show("set":aI)="jump" from h) (by decide)|move x y=>exact absurd (show("move":aI)="jump" from h) (by decide)|go t=>exact absurd (show("go":aI)="jump" from h) (by decide)|fault m=>exact absurd (show("fault":aI)="jump" from h) (by decide)
theorem Im{r:Rk} (h:r.nm=("go":aI)):∃t,r = .go t:=by
 cases r with
 |go t=>exact⟨t,rfl⟩|way w x y z=>exact absurd h (ZL w)|ls b x y s=>
  cases b
  .exact absurd (show("load":aI)="go" from h) (by decide)
  .exact absurd (show("store":aI)="go" from h) (by decide)
 |set x m=>exact absurd (show("set":aI)="go" from h) (by decide)|move x y=>exact absurd (show("move":aI)="go" from h) (by decide)|gF x t=>exact absurd (show("jump":aI)="go" from h) (by decide)|fault m=>exact absurd (show("fault":aI)="go" from h) (by decide)
theorem wTt{A B:Prop}(q:A):aM aB A B:=q
theorem wFf{A B:Prop}(q:B):aM aF A B:=q
def dI(o:Option Nat):Option AV:=o.map λn=>AV.int n
section
variable {Xc:Nat->AH->Prop}{k:Nat}{h:AH}{R:AV->AH->Prop}
theorem Bc{its:List It}{it:It}{l:aI}:cF (its++[it]) 0 l=(cF its 0 l).or (if it.lb=aA l then aA (bJ its) else aD):=by rw[CO,gy];congr 1
theorem XO{n:Nat}{ts:List (Nat×It)}(ob:h.ob n=aA (.lst aB (ts.map zO)))(hn:n<h.nx)(hk:∀p∈ts,(∃l,p.2 = .bN l)\/∃r,p.2 = .row r)(hl:ts.length<=1000)
  (qb:∀h' j p,Kp h h'->ts[j]?=aA p->qX ts j->(∀j',j'<j->¬qX ts j')->Xc (7+64*(p.1+1)) h')
  (q:∀h' m aE,Kp h h'->m<h'.nx->h'.ob m=aA (.bQ aE)->(∀l,bT aE (.inr l)=dI (cF (ts.map (·.2)) 0 l))->(∀j,¬qX ts j)->R (.ref m) h'):WC Xc (run pg (k+1) SA [.ref n]) h R:=by
 have big:sizeLine=16777216:=iB;refine eB rfl rfl (WB.of ?_);with_reducible refine mT (nX ?_)
 refine mS ((gH (bU hn)).trans ob) ?_;have k0:Kp h (h.new (.bQ [])):=Kp.refl.new;have o0:(h.new (.bQ [])).ob h.nx=aA (.bQ []):=bO;have n0:h.nx<(h.new (.bQ [])).nx:=cQ _;have on:=(gH (o:=.bQ []) (bU hn)).trans ob;generalize em:h.nx=m at o0 n0 ⊢;generalize h.new (.bQ [])=h1 at k0 o0 n0 on ⊢;refine xi (bb:=aB) (xs:=ts.map zO) (λi σ h'=>∃aE,(∃a b c,σ=[aA (.ref n),aA (.ref m),aA (.int (bJ ((ts.take i).map (·.2)))),a,b,c])/\Kp h h'/\m<h'.nx/\h'.ob m=aA (.bQ aE)/\aE.length<=i/\(∀l,bT aE (.inr l)=dI (cF ((ts.take i).map (·.2)) 0 l))/\∀j,j<i->¬qX ts j) (by rw[aV,fF];omega) ⟨[],⟨_,_,_,rfl⟩,k0,n0,o0,cB _,λl=>rfl,λj z=>absurd z (ua _)⟩ (λi σ h' ⟨_,y⟩=>y.2.1.get hn ob) ?_ ?_
 .rintro i x σ h' hx ⟨aE,⟨a,b,c,rfl⟩,kp,lm,om,lk,dv,nt⟩
  obtain⟨p,hp,rfl⟩:=fX hx;have et:(ts.take (i+1)).map (·.2)=(ts.take i).map (·.2)++[p.2]:=by rw[gM,hp,dA];rfl
  have hi:i<ts.length:=(List.getElem?_eq_some_iff.mp hp).1;refine kY _ (jE _ ?_);rcases hk p (fQ hp)with⟨l,e⟩|⟨r,e⟩
  .obtain⟨i0,it⟩:=p;have e:it = .bN l:=e;subst e;have et:(ts.take (i+1)).map (·.2)=(ts.take i).map (·.2)++[.bN l]:=et;refine WC.of (aGd om rfl ?_);rw[dv l];cases hs:cF ((ts.take i).map (·.2)) 0 l with
   |some v=>have ht:qX ts i:=⟨_,l,hp,rfl,HJ λz=>by rw[Bb.mpr z]at hs;cases hs⟩;exact WB.of (gc (gZ rfl ⟨i0,rfl,qb _ _ _ kp hp ht nt⟩))
   |none=>
    have hnt:¬qX ts i:=λ⟨p',l',e1,e2,m⟩=>by rw[hp]at e1;cases e1;cases e2;exact Bb.mp hs m
    refine WC.of (FI (gZ rfl (gZ rfl ⟨m,aE,.inr l,rfl,rfl,om,by omega,?_⟩)));refine⟨jP aE (.inr l) (.int (bJ ((ts.take i).map (·.2)))),⟨aA (.int i0),aA (.str l),aA .aK,by rw[et,Ap,Aq];rfl⟩,kp.put (by omega),lm,rO,?_,λl'=>?_,λj hj=>?_⟩
    .unfold jP;split
     .rw[aV];omega
     .rw[fP,uN];omega
    .rw[et,Lv,Bc];by_cases hll:l=l'
     .subst hll;rw[if_pos rfl,hs,show It.lb (.bN l)=aA l from rfl,if_pos rfl];rfl
     .rw[if_neg (λz=>hll (Pk z)),dv l',show It.lb (.bN l)=aA l from rfl,if_neg (λz=>hll (dB z)),uc]
    .by_cases hji:j=i
     .subst hji;exact hnt
     .exact nt j (by omega)
  .obtain⟨i0,it⟩:=p;have e:it = .row r:=e;subst e;have et:(ts.take (i+1)).map (·.2)=(ts.take i).map (·.2)++[.row r]:=et;refine⟨aE,⟨aA (.int i0),aA .aK,aA r.av,?_⟩,kp,lm,om,by omega,λl'=>?_,λj hj=>?_⟩
   .rw[et,Ap,Aq];show[_,_,aA (AV.int (((bJ ((ts.take i).map (·.2)):Nat):Int)+1)),_,_,_]=_;rw[show((bJ ((ts.take i).map (·.2)):Nat):Int)+1=((bJ ((ts.take i).map (·.2))+1:Nat):Int) by omega];rfl
   .rw[et,Bc,show It.lb (.row r)=aD from rfl,if_neg (by simp),uc];exact dv l'
   .by_cases hji:j=i
    .subst hji;intro ⟨p',l',e1,e2,m⟩;rw[hp]at e1;cases e1;cases e2
    .exact nt j (by omega)
 .rintro σ h' ⟨aE,⟨a,b,c,rfl⟩,kp,lm,om,lk,dv,nt⟩
  rw[aV]at dv nt;rw[jG]at dv;refine q _ _ _ kp lm om dv λj z=>?_;obtain⟨p,l,e,r⟩:=id z;exact nt j (List.getElem?_eq_some_iff.mp e).1 z
theorem Qq{its:List It}{r:Rk} (h1:¬r.nm=("jump":aI)) (h2:¬r.nm=("go":aI)):gE its r=aA r:=by
 cases r with
 |gF x t=>exact absurd rfl h1|go t=>exact absurd rfl h2|_=>rfl
theorem MR{r:Rk}{i m:Nat}{aE:List (aU×AV)}{its:List It}(om:h.ob m=aA (.bQ aE))(dv:∀l,bT aE (.inr l)=dI (cF its 0 l))
  (qb:gE its r=aD->Xc (8+64*(i+1)) h) (q:∀r',gE its r=aA r'->R r'.av h):WC Xc (run pg (k+1) RV [r.av,.int i,.ref m,.int (bJ its)]) h R:=by
 refine eB rfl rfl (bI.of pO (aM.nd (λe1=>bI.of pO (aM.nd (λe2=>q r (Qq e1 e2)) λe2=>?_)) λe1=>?_))
 .obtain⟨t,rfl⟩:=Im e2;cases t with
  |bN l=>
   refine WC.of (Bz om rfl ?_);rw[dv l];cases hs:cF its 0 l with
   |none=>exact WB.of (gc (gZ rfl ⟨i,rfl,qb (by show(cF its 0 l).map _=aD;rw[hs];rfl)⟩))|some v=>have e:=dv l;rw[hs]at e;refine lU (WC.of (zT (xs:=[.str "go",.str l]) (by show¬(HT.bF 2 0 aD=0/\HT.bF 2 2 (aA (-1))=2);decide) (WC.of (FR om rfl e (WC.of (zR (eN (m:=3) (by show 1+1<=3;decide) (by decide)) (q (.go (.num v)) (by show(cF its 0 l).map _=_;rw[hs];rfl))))))))
  |num n=>
   refine aM.dc (λhc=>WB.of (gc (gZ rfl ⟨i,rfl,qb ?_⟩))) λhc=>q (.go (.num n)) ?_
   .show(if n<=bJ its then _ else _)=_;rw[if_neg (by omega)]
   .show(if n<=bJ its then _ else _)=_;rw[if_pos (by omega)]
 .obtain⟨x,t,rfl⟩:=Io e1;cases t with
  |bN l=>
   refine WC.of (Bz om rfl ?_);rw[dv l];cases hs:cF its 0 l with
   |none=>exact WB.of (gc (gZ rfl ⟨i,rfl,qb (by show(cF its 0 l).map _=aD;rw[hs];rfl)⟩))|some v=>have e:=dv l;rw[hs]at e;refine lU (WC.of (zT (xs:=[.str "jump",.int x,.str l]) (by show¬(HT.bF 3 0 aD=0/\HT.bF 3 3 (aA (-1))=3);decide) (WC.of (FR om rfl e (WC.of (zR (eN (m:=3) (by show 2+1<=3;decide) (by decide)) (q (.gF x (.num v)) (by show(cF its 0 l).map _=_;rw[hs];rfl))))))))
  |num n=>
   refine aM.dc (λhc=>WB.of (gc (gZ rfl ⟨i,rfl,qb ?_⟩))) λhc=>q (.gF x (.num n)) ?_
   .show(if n<=bJ its then _ else _)=_;rw[if_neg (by omega)]
   .show(if n<=bJ its then _ else _)=_;rw[if_pos (by omega)]
end
theorem Hc{α β:Type}{f:α->Option β}:∀{l:List α}{i:Nat}{y:β},(l.filterMap f)[i]?=aA y->∃j x,l[j]?=aA x/\f x=aA y/\(l.filterMap f).take i=(l.take j).filterMap f
 |[],i,y,h=>by simp at h
 |x::r,i,y,h=>by
  cases hx:f x with
  |none=>rw[sr hx]at h;obtain⟨j,z,h1,h2,h3⟩:=Hc h;refine⟨j+1,z,by simpa using h1,h2,?_⟩;rw[sr hx,af,sr hx,h3]
  |some v=>
   rw[Dh hx]at h;cases i with
   |zero=>exact⟨0,x,rfl,by rw[hx];simpa using h,by simp⟩|succ i=>obtain⟨j,z,h1,h2,h3⟩:=Hc (l:=r) (i:=i) (by simpa using h);refine⟨j+1,z,by simpa using h1,h2,?_⟩;rw[Dh hx,af,af,Dh hx,h3]
theorem He{α β:Type}{f:α->Option β}:∀{l:List α}{rs:List β},l.map f=rs.map aA->l.filterMap f=rs
 |[],[],_=>rfl|[],_::_,h=>by cases h
 |_::_,[],h=>by cases h
 |x::l,r::rs,h=>by rw[dS,dS,pC]at h;rw[Dh h.1,He h.2]
def fJ(ts:List (Nat×It)):List (Nat×Rk):=ts.filterMap λp=>p.2.rk.map λr=>(p.1,r)
theorem Kv:∀{its:List It}{n:Nat},(fJ (bK n its)).map (·.2)=its.filterMap It.rk
 |[],_=>rfl|x::r,n=>by
  have ih:=Kv (its:=r) (n:=n+1);unfold fJ at ih ⊢;rw[bK];cases x with
  |aK=>exact ih|bN l=>exact ih|bad=>exact ih|row k=>show k::Oc _ (Nr _ _)=k::Nr _ _;rw[ih]
theorem BM:∀{its:List It},(its.filterMap It.rk).length=bJ its
 |[]=>rfl|x::r=>by
  have ih:=BM (its:=r);have e:bJ (x::r)=x.rw+bJ r:=by simp[bJ]
  rw[e,<- ih];cases x with
  |row k=>show(k::Nr It.rk r).length=1+_;rw[hJ];exact JM _ 1
  |_=>exact(gy _).symm
theorem aAe{its:List It}:(fJ (bK 0 its)).length=bJ its:=by rw[<- BM,<- Kv (n:=0),aV]
theorem BR{its:List It}{j:Nat}{r:Rk}(e:its[j]?=aA (.row r)):(j,r)∈fJ (bK 0 its):=by have:=Bq (n:=0) e rfl;rw[gy]at this;exact List.mem_filterMap.mpr ⟨_,this,rfl⟩
theorem TM{its:List It}{i i':Nat}{r:Rk}(e:(fJ (bK 0 its))[i]?=aA (i',r))(ha:gE its r=aD)(n:∀p∈(fJ (bK 0 its)).take i,gE its p.2≠aD):oE (uX its) i':=by
 obtain⟨j,⟨x,it⟩,h1,h2,h3⟩:=Hc e;obtain⟨k,a1,a2,a3,_⟩:=uD h1;obtain⟨r',hr,e2⟩:=Option.map_eq_some_iff.mp h2;cases it with
 |row r2=>
  cases hr;cases e2;have a1:x=k:=by omega
  subst a1;refine⟨⟨r,a2,ha⟩,λj' hj ⟨r3,e3,e4⟩=>?_⟩;have hm:(j',r3)∈fJ (bK 0 (its.take _)):=BR (by rw[Dj,if_pos hj];exact e3);rw[a3]at hm;have:(j',r3)∈(fJ (bK 0 its)).take i:=by unfold fJ at hm ⊢;rw[h3];exact hm
  exact n _ this e4
 |_=>cases hr
theorem ZQ{its:List It}(n:∀p∈fJ (bK 0 its),gE its p.2≠aD)(j:Nat):¬uX its j:=λ⟨r,e,e4⟩=>n _ (BR e) e4
theorem aEe{its:List It}{rs:List Rk}(h:(fJ (bK 0 its)).map (λp=>gE its p.2)=rs.map aA):rs=its.filterMap (jf its):=by
 have e:its.filterMap (jf its)=(its.filterMap It.rk).filterMap (gE its):=by rw[IH];rfl
 rw[e,<- Kv (n:=0)];exact(He (f:=gE its) (l:=(fJ (bK 0 its)).map (·.2)) (by rw[lD];exact h)).symm
theorem Lq{its:List It}(nb:∀j,¬Bd its j):∀p∈bK 0 its,(∃l,p.2 = .bN l)\/∃r,p.2 = .row r:=λp hp=>by
 obtain⟨j,hj⟩:=xC hp;obtain⟨k,a1,a2,a3,a4⟩:=uD (i:=p.1) (it:=p.2) hj;obtain⟨i,it⟩:=p;cases it with
 |aK=>cases a4|bN l=>exact .inl ⟨l,rfl⟩|bad=>exact absurd a2 (nb k)|row r=>exact .inr ⟨r,rfl⟩
theorem ED:∀{l:List It}{n:Nat},(bK n l).length<=l.length
 |[],_=>cB _
 |x::r,n=>by rw[bK];have:=ED (l:=r) (n:=n+1);split<;>simp<;>omega
def Rs.xc:Rs->Option Nat
 |.row i=>aA (6+64*(i+1)) | .twice i=>aA (7+64*(i+1)) | .label i=>aA (8+64*(i+1)) | .told _=>aD
structure jd(tx:aI)(its:List It):Prop where
 len:tx.length<=1000000
 ex:∃ls:List (List Nat×It),ls.map (·.2)=its/\bZ 10 (tl tx)=ls.map (·.1)/\ls.length<=1000/\∀p∈ls,p.1.length<=9000/\p.2.ok/\oK (eS p.1) p.2
section
variable {Xc:Nat->AH->Prop}{k:Nat}{h:AH}{R:AV->AH->Prop}
theorem aFj{i j l:Nat}{a b c:AV}{σ:aH}{Q:aH->AH->Prop}(q:Q (((σ.set i (aA a)).set j (aA b)).set l (aA c)) h):We Xc (pN (.tup [i,j,l]) (.tup [a,b,c]) σ) h Q:=q
theorem BK{tx:aI}{its:List It}(T:jd tx its)(qx:∀h' d c,Kp h h'->Due its d->d.xc=aA c->Xc c h')
  (q:∀h' n rs,Kp h h'->n<h'.nx->Due its (.told rs)->h'.ob n=aA (.lst aB (rs.map Rk.av))->R (.ref n) h'):WC Xc (run pg (k+7) Tx [.str tx]) h R:=by
 have big:sizeLine=16777216:=iB;obtain⟨ls,e1,e2,e3,e4⟩:=T.ex;subst e1;generalize jX:ls.map (·.2)=its at *;have il:its.length<=1000:=by rw[<- jX,aV];exact e3
 refine eB rfl rfl (aEh (k:=k) T.len e2 e4 e3 (λh' i kp f=>qx h' (.row i) _ kp (by rw[<- jX];exact f) rfl) λh1 n k1 ln on nb=>?_);rw[jX]at on nb;have tl1:=ED (l:=its) (n:=0);refine XO (k:=k+5) on ln (Lq nb) (by omega) (λh' j p kp ep ht hn=>?_) λh2 m aE k2 lm om dv nt=>?_
 .obtain⟨p',ep',f⟩:=UA ht hn;rw[ep]at ep';cases ep';exact qx h' (.twice p.1) _ (k1.trans kp) ⟨nb,f⟩ rfl
 have nt:∀j,¬Tw its j:=λj z=>by obtain⟨j',it,_,t⟩:=ER z;exact nt j' t
 have dv:∀l,bT aE (.inr l)=dI (cF its 0 l):=λl=>by rw[dv l,Ld]
 have on2:=k2.get ln on;have ln2:n<h2.nx:=cP ln k2.nx;have kk:=k1.trans k2;refine WC.of (zV (nX (mS on2 ?_)));refine xX (bb:=aB) (xs:=(bK 0 its).map zO) (λi ys σ h'=>h'=h2/\ys=(fJ ((bK 0 its).take i)).map (λp=>AV.tup [.int p.1,p.2.av])/\∃a b c,σ=[a,b,c]) (by rw[aV,fF];omega) ⟨rfl,rfl,_,_,_,rfl⟩ (λi ys σ h' y=>by rw[y.1];exact on2) ?_ ?_
 .rintro i x ys σ h' hx ⟨rfl,rfl,a,b,c,rfl⟩
  obtain⟨⟨i0,it⟩,hp,rfl⟩:=fX hx;have hi:=(List.getElem?_eq_some_iff.mp hp).1;have et:fJ ((bK 0 its).take (i+1))=fJ ((bK 0 its).take i)++(it.rk.map λr=>(i0,r)).toList:=by rw[gM,hp];unfold fJ;rw[so];cases it<;>rfl
  refine aFj (mR _ (aM.ite (aM.by (λeb=>bR _ ⟨?_,rfl,?_,_,_,_,rfl⟩) λeb=>⟨rfl,?_,_,_,_,rfl⟩)))
  .rw[aV];have:=Dk (λp:Nat×It=>p.2.rk.map λr=>(p.1,r)) ((bK 0 its).take i);rw[eT]at this;show(fJ _).length<_;unfold fJ;omega
  .rw[et,dA];rcases Lq nb _ (fQ hp)with⟨l,e⟩|⟨r,e⟩
   .have e:it = .bN l:=e;subst e;cases eb
   .have e:it = .row r:=e;subst e;rfl
  .rcases Lq nb _ (fQ hp)with⟨l,e⟩|⟨r,e⟩
   .have e:it = .bN l:=e;subst e;rw[et];simp[It.rk]
   .have e:it = .row r:=e;subst e;cases eb
 .rintro ys σ h' ⟨rfl,rfl,a,b,c,rfl⟩
  rw[aV,jG];have k3:Kp h (h'.new (.lst aB ((fJ (bK 0 its)).map λp=>AV.tup [.int p.1,p.2.av]))):=kk.new;have o3:(h'.new (.lst aB ((fJ (bK 0 its)).map λp=>AV.tup [.int p.1,p.2.av]))).ob h'.nx=aA (.lst aB ((fJ (bK 0 its)).map λp=>AV.tup [.int p.1,p.2.av])):=bO;have m3:(h'.new (.lst aB ((fJ (bK 0 its)).map λp=>AV.tup [.int p.1,p.2.av]))).ob m=aA (.bQ aE):=(gH (bU lm)).trans om;have rl:=aAe (its:=its);have rl2:(fJ (bK 0 its)).length<=its.length:=by unfold fJ;exact eN (Dk ..) tl1
  generalize h'.nx=m2 at o3 ⊢;generalize h'.new (.lst aB ((fJ (bK 0 its)).map λp=>AV.tup [.int p.1,p.2.av]))=h3 at k3 o3 m3 ⊢;refine WC.of (zU (nX (mS o3 ?_)));refine Gq (bb:=aB) (xs:=(fJ (bK 0 its)).map λp=>AV.tup [.int p.1,p.2.av]) (λi ys σ h'=>h'=h3/\(∃a b,σ=[a,b,aA (.ref m),aA (.ref m2)])/\∃rs:List Rk,ys=rs.map Rk.av/\((fJ (bK 0 its)).take i).map (λp=>gE its p.2)=rs.map aA) (by rw[aV,fF];omega) ⟨rfl,⟨_,_,rfl⟩,[],rfl,rfl⟩ (λi ys σ h' y=>by rw[y.1];exact o3) ?_ ?_
  .rintro i x ys σ h' hx ⟨rfl,⟨a,b,rfl⟩,rs,rfl,hrs⟩
   obtain⟨⟨i0,r⟩,hp,rfl⟩:=fX hx;have hi:=(List.getElem?_eq_some_iff.mp hp).1;refine Mc (bR _ (WC.of (zS (dR o3) ?_)));have e5:((fJ (bK 0 its)).map λp=>AV.tup [.int p.1,p.2.av]).length=bJ its:=by rw[aV,rl]
   rw[e5];refine MR (k:=k+5) m3 dv (λha=>?_) λr' ha=>⟨?_,rfl,⟨_,_,rfl⟩,rs++[r'],by rw[dA];rfl,?_⟩
   .refine qx _ (.label i0) _ k3 ⟨nb,nt,TM hp ha λp hp' z=>?_⟩ rfl;have:gE its p.2∈rs.map aA:=by rw[<- hrs];exact List.mem_map.mpr ⟨p,hp',rfl⟩
    rw[z]at this;obtain⟨y,_,e⟩:=List.mem_map.mp this;cases e
   .have:=congrArg qN hrs;rw[aV,aV,eT]at this;rw[aV];omega
   .rw[gM,hp,dA,dA,hrs];show _++[gE its r]=_;rw[ha];rfl
  .rintro ys σ h' ⟨rfl,⟨a,b,rfl⟩,rs,rfl,hrs⟩
   rw[aV,jG]at hrs;refine q _ _ rs k3.new (cQ _) ⟨nb,nt,ZQ λp hp z=>?_,aEe hrs⟩ bO;have:gE its p.2∈rs.map aA:=by rw[<- hrs];exact List.mem_map.mpr ⟨p,hp,rfl⟩
   rw[z]at this;obtain⟨y,_,e⟩:=List.mem_map.mp this;cases e
end
theorem eF{x y:aI}:tl (x++y)=tl x++tl y:=Array.toList_append
theorem kS{x y:aI}:(x++y).length=x.length+y.length:=by rw[bV,eF,fP,<- bV,<- bV]
def zL:aI:=" !#$&'()*+,-./0123456789:;<=>?@ABCXYZ[]^_abcxyz{|}~"
theorem Ax:zL.length=51:=by decide +kernel
theorem aBm:10∉tl zL:=by decide +kernel
theorem aBn{i:Int}(h0:0<=i)(h1:i<51):∃c,c≠10/\eP zL.cps.toList i=aA c:=by
 obtain⟨n,rfl⟩:=wX h0;have hn:n<(tl zL).length:=by rw[<- bV,Ax];omega
 exact⟨_,λe=>aBm (by rw[<- e];exact aa hn),vE (cZ hn)⟩
section
variable {Xc:Nat->AH->Prop}{k:Nat}{h:AH}{R:AV->AH->Prop}
theorem Jl{c i:Int}(h0:0<=i)(h1:i<1000)(q:∀z,0<=z->z<2147483647->R (.int z) h):WC Xc (run pg (k+1) SO [.int c,.int i]) h R:=
 eB rfl rfl (WC.of (FV rfl (aM.t (Jc (by omega) (by omega)) (aM.t (ZF (by omega) (by omega)) (q _ (Dd _ (by decide)) (Cz _ (by decide)))))))
theorem Y6{n:Int}(h0:0<=n)(h1:n<2147483647)(q:∀z m,tl z=35::m->z.length<=12->10∉tl z->R (.str z) h):WC Xc (run pg (k+1) SS [.int n]) h R:=by
 have e:sizeLine=16777216:=iB;refine eB rfl rfl (WB.of ?_);with_reducible refine mT (Ca ?_)
 refine⟨An (by omega) (by omega),?_⟩;refine Hf (λi σ h'=>h'=h/\∃z m a b,σ=[aA (.int n),aA (.str zL),aA (.str z),a,b]/\tl z=35::m/\z.length<=i+1/\10∉tl z) (by rw[fF];omega) ⟨rfl,_,[],_,_,rfl,by decide +kernel,by decide +kernel,by decide +kernel⟩ ?_ ?_
 .rintro i σ h' hi ⟨rfl,z,m,a,b,rfl,ez,hz,h10⟩
  have h2:0<=n / (0+(i:Int)+13):=HW h0 (by omega);have h3:n / (0+(i:Int)+13)<=n:=HV _ h0;obtain⟨c,c10,ec⟩:=aBn (i:=(n / 9+n / (0+(i:Int)+13)*(0+(i:Int)))%((51:Nat):Int)) (Dd _ (by decide)) (Cz _ (by decide));refine kY _ (jE _ (aM.t (Gv (by omega) (by omega)) (aM.t (Jc (by omega) (by omega)) (WC.of (rf (z:=zL) (by rw[Ax];omega) ?_)))));rw[Ax];refine WC.of (By (z:=zL) (by rw[Ax];omega) ec (WC.of (kZ (by show z.length+1<=_;omega) ⟨rfl,_,m++[c],_,_,rfl,by rw[eF,ez];rfl,?_,?_⟩)))
  .rw[kS];show z.length+1<=_;omega
  .rw[eF];intro hm;rcases List.mem_append.mp hm with hm|hm
   .exact h10 hm
   .exact c10 (List.mem_singleton.mp hm).symm
 .rintro σ h' ⟨rfl,z,m,a,b,rfl,ez,hz,h10⟩
  exact q z m ez (by omega) h10
theorem Az{g:Nat}:10∉tl (aP (cJ g 32)):=λhm=>by rw[eG]at hm;have:=sm hm;omega
theorem bo{x y:aI}(h1:10∉tl x)(h2:10∉tl y):10∉tl (x++y):=by rw[eF];exact λhm=>(List.mem_append.mp hm).elim h1 h2
theorem Xi{nw:Nat}{b:Bool}{n:Int}{ts:List aI}(P:Nat->List Nat->Prop)(ob:h.ob nw=aA (.lst b (ts.map AV.str)))(hl:ts.length<=41)(hw:∀t∈ts,10∉tl t/\t.length<=64)(h0:0<=n)(h1:n<2147483647)
  (p0:∀g,P 0 (cJ g 32)) (pf:∀l t,P 0 l->ts[0]?=aA t->P 1 (l++tl t)) (ps:∀i l t g,P i l->ts[i]?=aA t->P (i+1) (l++cJ (g+1) 32++tl t))
  (q:∀z l g m,P ts.length l->tl z=l++cJ g 32++m->(m=[]\/∃k,m=35::k)->z.length<=5000->10∉tl z->R (.str z) h):WC Xc (run pg (k+2) Tu [.ref nw,.int n]) h R:=by
 have e:sizeLine=16777216:=iB;refine eB rfl rfl (WC.of (Mf (c:=32) (by omega) (by omega) (WB.of ?_)));with_reducible refine mT (fz (gZ rfl ?_))
 refine⟨_,_,_,rfl,ob,?_⟩;refine jo (xs:=ts.map AV.str) (λi σ h'=>h'=h/\∃z a b,σ=[aA (.ref nw),aA (.int n),aA (.str z),a,b]/\P i (tl z)/\z.length<=2+67*i/\10∉tl z) (by rw[aV,fF];omega) ⟨rfl,_,_,_,rfl,p0 _,?_,Az⟩ (λi σ h' y=>by rw[y.1];exact ob) ?_ ?_
 .rw[bV,eG,sy];omega
 .rintro i x σ h' hx ⟨rfl,z,a,b,rfl,hc,hz,z10⟩
  obtain⟨t,ht,rfl⟩:=fX hx;have hi:i<ts.length:=(List.getElem?_eq_some_iff.mp ht).1;obtain⟨t10,lt⟩:=hw t (fQ ht);refine kY _ (jE _ (aM.dc (λhk=>aM.t (Gv (by omega) (by omega)) ?_) λhk=>?_))
  .have hg:0<=n / ((i:Int)+3)%3:=by omega
   have hg2:n / ((i:Int)+3)%3<3:=by omega
   show WC Xc (Op.g .mul _ (.int (1+n / ((i:Int)+3)%3))) _ _;generalize n / ((i:Int)+3)%3=g at hg hg2 ⊢;obtain⟨g,rfl⟩:=wX hg;refine WC.of (Mf (c:=32) (by omega) (by omega) ?_);have eg:(1+(g:Int)).toNat=g+1:=by omega
   rw[eg];have lg:(aP (cJ (g+1) 32)).length=g+1:=by rw[bV,eG,sy]
   refine WC.of (kZ (by omega) (WC.of (kZ (by rw[kS];omega) ⟨rfl,_,_,_,rfl,?_,?_,bo (bo z10 Az) t10⟩)))
   .rw[eF,eF];exact ps i _ t g hc ht
   .rw[kS,kS];omega
  .have:i=0:=by omega
   subst this;refine WC.of (kZ (by omega) ⟨rfl,_,_,_,rfl,?_,?_,bo z10 t10⟩)
   .rw[eF];exact pf _ t hc ht
   .rw[kS];omega
 .rintro σ h' ⟨rfl,z,a,b,rfl,hc,hz,z10⟩
  rw[aV]at hc hz;have hg:0<=n / 9%3:=by omega
  have hg2:n / 9%3<3:=by omega
  show WC Xc (Op.g .mul _ (.int (n / 9%3))) _ _;generalize n / 9%3=g at hg hg2 ⊢;obtain⟨g,rfl⟩:=wX hg;refine WC.of (Mf (c:=32) (by omega) (by omega) ?_);have lg:(aP (cJ g 32)).length=g:=by rw[bV,eG,sy]
  rw[gm];have lz:(z++aP (cJ g 32)).length<=4000:=by rw[kS];omega
  have ez:tl (z++aP (cJ g 32))=tl z++cJ g 32:=by rw[eF,eG]
  refine WC.of (kZ (by omega) (aM.dc (λhr=>Y6 (by omega) (by omega) λy m ey ly y10=>WC.of (kZ (by omega) (q _ _ g (35::m) hc ?_ (.inr ⟨m,rfl⟩) ?_ (bo (bo z10 Az) y10)))) λhr=>q _ _ g [] hc ?_ (.inl rfl) (by omega) (bo z10 Az)))
  .rw[eF (y:=y),ey,ez]
  .rw[kS (y:=y)];omega
  .rw[ez,iS]
end
theorem Mh{l m:List Nat}(h:35∉l)(hm:m=[]\/∃k,m=35::k):eS (l++m)=wf l:=by
 rw[Mi];unfold iF;have e:(l++m).takeWhile (λx=>x != 35)=l:=by
  have hl:∀a∈l,(λx=>x != 35) a=aB:=λa ha=>by have:a≠35:=λz=>h (z▸ha);simpa using this
  rw[aJw hl];rcases hm with rfl|⟨k,rfl⟩<;>simp
 rw[e,aFq]
def dj(i:Nat)(ws:List (List Nat))(l:List Nat):Prop:=wf l=ws/\35∉l/\(i=0->∀c∈l,c=32)
theorem Xk{n:Nat}:dj 0 [] (cJ n 32):=by
 refine⟨?_,λh=>?_,λ_ c hc=>sm hc⟩
 .have:=wQ (l:=[]) n;rwa [iS]at this
 .have:=sm h;omega
theorem YA{i:Nat}{ws:List (List Nat)}{l t:List Nat}{g:Nat}(h:dj i ws l)(ht:35∉t):dj (i+1) (ws++wf t) (l++cJ (g+1) 32++t):=by
 refine⟨?_,λhm=>?_,λz=>by omega⟩
 .rw[pG,qL,fT,sC,wQ,h.1]
 .rcases List.mem_append.mp hm with hm|hm
  .rcases List.mem_append.mp hm with hm|hm
   .exact h.2.1 hm
   .have:=sm hm;omega
  .exact ht hm
theorem XZ{ws:List (List Nat)}{l t:List Nat}(h:dj 0 ws l)(ht:35∉t):dj 1 (ws++wf t) (l++t):=by have hl:l=cJ l.length 32:=List.eq_replicate_iff.mpr ⟨rfl,h.2.2 rfl⟩;refine⟨?_,λhm=>(List.mem_append.mp hm).elim h.2.1 ht,λz=>by omega⟩;have e:=Xk (n:=l.length);rw[<- hl]at e;have:ws=[]:=h.1.symm.trans e.1;rw[this,hl,wQ];rfl
noncomputable abbrev yC(ts:List aI):List (List Nat):=(ts.map λt=>wf (tl t)).flatten
theorem Ua{ts:List aI}{i:Nat}{t:aI}(h:ts[i]?=aA t):yC (ts.take (i+1))=yC (ts.take i)++wf (tl t):=by unfold yC;rw[gM,h];simp
theorem Tz:∀{ts:List aI},(∀t∈ts,gw (tl t))->yC ts=ts.map tl
 |[],_=>rfl|t::ts,h=>by show wf (tl t)++yC ts=_;rw[nW (h t (.head _)).2.1 (h t (.head _)).1,Tz λt ht=>h t (.tail _ ht)];rfl
theorem fh{c:Nat}:∀{l w:List Nat},w∈bZ c l->c∉w/\∀x∈w,x∈l
 |[],w,h=>by rw[List.mem_singleton.mp h];exact⟨by simp,λx hx=>by cases hx⟩
 |y::l,w,h=>by
  unfold bZ at h;split at h
  .rcases List.mem_cons.mp h with rfl|h
   .exact⟨by simp,λx hx=>by cases hx⟩
   .exact⟨(fh h).1,λx hx=>.tail _ ((fh h).2 x hx)⟩
  .rename_i hy;split at h
   .rename_i e;exact absurd e (Ba _)
   .rename_i u us e;have hu:=fh (c:=c) (l:=l) (w:=u) (by rw[e];exact .head _);rcases List.mem_cons.mp h with rfl|h
    .refine⟨λz=>(List.mem_cons.mp z).elim (λq=>hy q.symm) hu.1,λx hx=>?_⟩;rcases List.mem_cons.mp hx with rfl|hx
     .exact .head _
     .exact .tail _ (hu.2 x hx)
    .have hw:=fh (c:=c) (l:=l) (w:=w) (by rw[e];exact .tail _ h);exact⟨hw.1,λx hx=>.tail _ (hw.2 x hx)⟩
theorem FO{l w:List Nat}(h:w∈wf l):w≠[]/\32∉w/\(∀x∈w,x∈l)/\w.length<=l.length:=by obtain⟨h1,h2⟩:=List.mem_filter.mp h;exact⟨of_decide_eq_true h2,(fh h1).1,(fh h1).2,qi h1⟩
theorem aFp{l:List Nat}:(wf l).length<=l.length+1:=eN (qO ..) qh
structure Raw(z:aI)(it:It):Prop where
 ok:it.ok
 len:z.length<=40
 nl:10∉tl z
 DR:(35∉tl z/\oK (wf (tl z)) it)\/(z="# loop:"/\it = .aK)
theorem aHi{z:aI}(h:35∉tl z):eS (tl z)=wf (tl z):=by have:=Mh (m:=[]) h (.inl rfl);rwa [iS]at this
theorem Raw.tw{z:aI}{it:It}(r:Raw z it):oK (eS (tl z)) it:=by
 rcases r.DR with⟨h,t⟩|⟨rfl,rfl⟩
 .rw[aHi h];exact t
 .show eS _=[];decide +kernel
theorem CI{n:Nat}:35∉cJ n 32:=λh=>by have:=sm h;omega
theorem Y7{a b:Nat}:cJ a 32++cJ b 32=cJ (a+b) (32:Nat):=aJv
section
variable {Xc:Nat->AH->Prop}{k:Nat}{h:AH}{R:AV->AH->Prop}
theorem RD{nw:Nat}{b:Bool}{n:Int}{z:aI}{it:It}(r:Raw z it)(ob:h.ob nw=aA (.lst b ((wf (tl z)).map λw=>.str (aP w))))(h0:0<=n)(h1:n<2147483647)
  (q:∀z',oK (eS (tl z')) it->z'.length<=5000->10∉tl z'->R (.str z') h):WC Xc (run pg (k+2) Tu [.ref nw,.int n]) h R:=by
 have ob':h.ob nw=aA (.lst b (((wf (tl z)).map aP).map AV.str)):=by rw[ob,lD];rfl
 have hl:((wf (tl z)).map aP).length<=41:=by rw[aV];have:=aFp (l:=tl z);rw[<- bV]at this;have:=r.len;omega
 have hw:∀t∈(wf (tl z)).map aP,10∉tl t/\t.length<=64:=λt ht=>by obtain⟨w,hw,rfl⟩:=List.mem_map.mp ht;obtain⟨_,_,h3,h4⟩:=FO hw;rw[bV,eG];rw[<- bV]at h4;exact⟨λhm=>r.nl (h3 _ hm),by have:=r.len;omega⟩
 rcases r.DR with⟨h35,te⟩|⟨rfl,rfl⟩
 .have h35t:∀t∈(wf (tl z)).map aP,35∉tl t/\gw (tl t):=λt ht=>by obtain⟨w,hw,rfl⟩:=List.mem_map.mp ht;obtain⟨h1,h2,h3,h4⟩:=FO hw;rw[eG];exact⟨λhm=>h35 (h3 _ hm),h1,h2,λhm=>h35 (h3 _ hm)⟩
  have efl:yC ((wf (tl z)).map aP)=wf (tl z):=by rw[Tz λt ht=>(h35t t ht).2,lD];exact List.map_id' _
  refine Xi (λi l=>dj i (yC (((wf (tl z)).map aP).take i)) l) ob' hl hw h0 h1 (λg=>Xk) (λl t hp ht=>?_) (λi l t g hp ht=>?_) λz' l g m hp ez hm lz z10=>q z' ?_ lz z10
  .rw[Ua ht];exact XZ hp (h35t t (fQ ht)).1
  .rw[Ua ht];exact YA hp (h35t t (fQ ht)).1
  .rw[jG,efl]at hp;rw[ez,Mh (λz=>(List.mem_append.mp z).elim hp.2.1 CI) hm,FL,hp.1];exact te
 .have e0:(wf (tl ("# loop:":aI))).map aP=[aP [35],aP [108,111,111,112,58]]:=by decide +kernel
  refine Xi (λi l=>∃a m,l=cJ a 32++m/\(i=0->m=[])/\(0<i->∃m',m=35::m')) ob' hl hw h0 h1 (λg=>⟨g,[],by simp,λ_=>rfl,λz=>by omega⟩) (λl t hp ht=>?_) (λi l t g hp ht=>?_) λz' l g m hp ez hm lz z10=>q z' ?_ lz z10
  .obtain⟨a,m,rfl,e1,_⟩:=hp;rw[e1 rfl];rw[e0]at ht;have:aP [35]=t:=by simpa using ht
   subst this;exact⟨a,[35],by rw[iS,eG],λz=>by omega,λ_=>⟨[],rfl⟩⟩
  .obtain⟨a,m,rfl,e1,e2⟩:=hp;by_cases hi:i=0
   .subst hi;rw[e1 rfl];rw[e0]at ht;have:aP [35]=t:=by simpa using ht
    subst this;exact⟨a+(g+1),[35],by rw[iS,eG,Y7],λz=>by omega,λ_=>⟨[],rfl⟩⟩
   .obtain⟨m',rfl⟩:=e2 (by omega);exact⟨a,35::(m'++cJ (g+1) 32++tl t),by simp[qL],λz=>by omega,λ_=>⟨_,rfl⟩⟩
  .obtain⟨a,m2,rfl,_,e2⟩:=hp;obtain⟨m',rfl⟩:=e2 (by rw[e0];decide);show eS _=[];rw[ez,qL,qL,fT,Mh CI (.inr ⟨_,rfl⟩)];have:=wQ (l:=[]) a;rwa [iS,Bv]at this
theorem aHf{F:AM.Run}{σ:aH}{z:aI}{Q:AV->AH->Prop}(e5:σ[5]?=aA (aA (.str z)))(hz:z.length<=9000)(q:∀h' n,Kp h h'->n<h'.nx->h'.ob n=aA (.lst aB ((wf (tl z)).map λw=>.str (aP w)))->Q (.ref n) h') :
  WC Xc (aN F (.mD [aD] (.nm 0) (.seq (.tm .sp (.var 5) (.val (.str " ")))) (.cmp .ne (.var 0) (.val (.str ""))) (.var 0)) σ) h Q:=by
 have big:=sZ;have sl:=qh (c:=32) (l:=tl z);rw[<- bV]at sl;refine WC.of (zV (nX (bI.of e5 (WC.of (Mg (c:=32) (by decide) (by omega) (mS bO ?_))))));have kp:Kp h (h.new (.lst aB ((bZ 32 (tl z)).map λw=>.str (aP w)))):=Kp.refl.new;have ol:(h.new (.lst aB ((bZ 32 (tl z)).map λw=>.str (aP w)))).ob h.nx=aA (.lst aB ((bZ 32 (tl z)).map λw=>.str (aP w))):=bO;generalize h.new (.lst aB ((bZ 32 (tl z)).map λw=>.str (aP w)))=h1 at *;refine xX (bb:=aB) (xs:=(bZ 32 (tl z)).map λw=>.str (aP w)) (λi ys σ h2=>h2=h1/\ys=(((bZ 32 (tl z)).take i).filter λw=>decide (w≠[])).map (λw=>AV.str (aP w))/\∃v,σ=[v]) (by rw[aV,fF];omega) ⟨rfl,by simp,_,rfl⟩ (λi ys σ h2 z=>by rw[z.1];exact ol) ?_ ?_
 .rintro i y ys σ h2 hy ⟨rfl,rfl,v,rfl⟩
  obtain⟨w,hw,rfl⟩:=fX hy;have e:(bZ 32 (tl z)).take (i+1)=(bZ 32 (tl z)).take i++[w]:=by rw[gM,hw];rfl
  refine uF (mR _ (aM.ite (aM.nd (λhc=>bR _ ⟨?_,rfl,?_,_,rfl⟩) λhc=>⟨rfl,?_,_,rfl⟩)))
  .rw[aV];have:=qO (λw=>decide (w≠[])) ((bZ 32 (tl z)).take i);rw[eT]at this;omega
  .have hn:w≠[]:=λe=>hc (by rw[e];rfl);rw[e,pE,dA];simp[hn]
  .have hn:w=[]:=mk_eq.mp hc;rw[e,pE,hn];simp
 .rintro ys σ h2 ⟨rfl,rfl,v,rfl⟩
  rw[aV,jG];exact q _ _ kp.new (cQ _) bO
end
structure kK(h:AH)(n:Nat)(ps:List (Nat×aI×It)):Prop where
 lt:n<h.nx
 ob:h.ob n=aA (.lst aB (ps.map λp=>.ref p.1))
 it:∀p∈ps,p.1<h.nx/\h.ob p.1=aA (.lst aB [.str p.2.1,p.2.2.av])
theorem kK.kp{h h':AH}{n:Nat}{ps:List (Nat×aI×It)}(s:kK h n ps)(k:Kp h h'):kK h' n ps:=
 ⟨cP s.lt k.nx,k.get s.lt s.ob,λp hp=>⟨cP (s.it p hp).1 k.nx,k.get (s.it p hp).1 (s.it p hp).2⟩⟩
def yA:Option Int->AV
 |none=>.aK
 |some i=>.int i
theorem Li{L:Nat}:∀{ts:List aI},(∀t∈ts,t.length<=L)->(ts.map (·.length)).sum<=ts.length*L
 |[],_=>by simp
 |t::ts,h=>by have h1:=Li (L:=L) (ts:=ts) λt ht=>h t (.tail _ ht);have h2:=h t (.head _);rw[dS,List.sum_cons,hJ,JQ];omega
theorem WZ{z:aI}{ts:List aI}{L M:Nat}(h:∀t∈ts,t.length<=L)(hl:ts.length<=M)(hm:M*(L+1)<=1048576)(hz:z.length<=16):si z ts=aB:=by refine joinOk_of_weight ?_ hz;have h1:=Li h;have h2:ts.length*(L+1)<=M*(L+1):=Nat.mul_le_mul_right _ hl;rw[Nat.mul_succ]at h2;omega
theorem WY{z:aI}{ts:List aI}:Ec z ts=Dx z ts:=StrLaws.glued_eq_join ..
theorem DX{c:Nat}:∀{ts:List aI},tl (Dx (aP [c]) ts)=kj c (ts.map tl)
 |[]=>rfl|[x]=>rfl|x::y::l=>by have ih:=DX (c:=c) (ts:=y::l);show tl (x++aP [c]++Dx (aP [c]) (y::l))=_;rw[eF,eF,ih,eG];show _=tl x++c::kj c ((y::l).map tl);rw[qL];rfl
theorem bp{x y:AV}{xs:List AV}:eP (x::y::xs) 1=aA y:=by rw[show(1:Int)=((1:Nat):Int) from rfl,L2.vE];rfl
section
variable {Xc:Nat->AH->Prop}{k:Nat}{h:AH}{R:AV->AH->Prop}
theorem DT{n:Nat}{ps:List (Nat×aI×It)}{dr:Option Int}(S:kK h n ps)(hr:∀p∈ps,Raw p.2.1 p.2.2)(hl:ps.length<=100)
  (q:∀h' tx its,Kp h h'->jd tx its->(its=ps.map (·.2.2)\/(ps=[]/\its=[.aK]))->R (.str tx) h'):WC Xc (run pg (k+3) SV [.ref n,yA dr]) h R:=by
 have big:sizeLine=16777216:=iB;refine eB rfl rfl (WB.of ?_);with_reducible refine mT (fz (gZ rfl ?_))
 refine⟨_,_,_,rfl,(gH (bU S.lt)).trans S.ob,?_⟩;have k0:Kp h (h.new (.lst aB [])):=Kp.refl.new;have o0:(h.new (.lst aB [])).ob h.nx=aA (.lst aB []):=bO;have n0:h.nx<(h.new (.lst aB [])).nx:=cQ _;generalize em:h.nx=m at o0 n0 ⊢;generalize h.new (.lst aB [])=h1 at k0 o0 n0 ⊢;refine jo (xs:=ps.map λp=>AV.ref p.1) (λi σ h'=>(∃a b c d,σ=[aA (.ref n),aA (yA dr),aA (.ref m),a,b,c,d])/\Kp h h'/\m<h'.nx/\∃zs:List aI,h'.ob m=aA (.lst aB (zs.map AV.str))/\zs.length=i/\∀(j:Nat) z,zs[j]?=aA z->z.length<=5000/\10∉tl z/\∃p,ps[j]?=aA p/\oK (eS (tl z)) p.2.2) (by rw[aV,fF];omega) ⟨⟨_,_,_,_,rfl⟩,k0,n0,[],o0,rfl,λj z e=>by simp at e⟩ (λi σ h' y=>y.2.1.get S.lt S.ob) ?_ ?_
 .rintro i x σ h' hx ⟨⟨a,b,c,d,rfl⟩,kp,lm,zs,om,el,hz⟩
  obtain⟨p,hp,rfl⟩:=fX hx;have hpm:=fQ hp;have hi:=(List.getElem?_eq_some_iff.mp hp).1;have raw:=hr p hpm;have fin:∀{h2:AH}{z:aI}{e6:Option AV},Kp h' h2->oK (eS (tl z)) p.2.2->z.length<=5000->10∉tl z->aM (iX h2 (.ref m)) (WC Xc (kP (.ref m) (.str z)) h2 λ_ h1=>(∃a b c d,[aA (AV.ref n),aA (yA dr),aA (AV.ref m),aA (AV.int i),aA (AV.ref p.1),aA (AV.str z),e6]=[aA (.ref n),aA (yA dr),aA (.ref m),a,b,c,d])/\Kp h h1/\m<h1.nx/\∃zs:List aI,h1.ob m=aA (.lst aB (zs.map AV.str))/\zs.length=i+1/\∀(j:Nat) z,zs[j]?=aA z->z.length<=5000/\10∉tl z/\∃p,ps[j]?=aA p/\oK (eS (tl z)) p.2.2) False:=λ{h2 z e6} k2 te lz z10=>by
   have om2:=k2.get lm om;refine aM.t (oV om2) (WC.of (wR om2 (by rw[aV];omega) ⟨⟨_,_,_,_,rfl⟩,(kp.trans k2).put (by omega),cP lm k2.nx,zs++[z],by rw[rO,dA];rfl,by rw[fP,el];rfl,λj y ej=>?_⟩));by_cases hj:j<zs.length
   .rw[uL hj]at ej;exact hz j y ej
   .have hj2:j<zs.length+1:=by have:=(List.getElem?_eq_some_iff.mp ej).1;simpa using this
    have:j=zs.length:=by omega
    subst this;have:z=y:=by simpa using ej
    subst this;exact⟨lz,z10,p,by rw[el];exact hp,te⟩
  have op:=kp.get (S.it p hpm).1 (S.it p hpm).2;refine kY _ (jE _ (WC.of (iL (dR op) pO ?_)));cases dr with
  |none=>exact fin Kp.refl raw.tw (by have:=raw.len;omega) raw.nl|some dn=>refine aHf rfl (by have:=raw.len;omega) λh2 nw k2 ln2 on2=>?_;refine Jl (k:=k+1) (by omega) (by omega) λy y0 y1=>?_;exact RD (k:=k) raw on2 y0 y1 λz' te lz z10=>fin k2 te lz z10
 .rintro σ h' ⟨⟨a,b,c,d,rfl⟩,kp,lm,zs,om,el,hz⟩
  rw[aV]at el;have z5:∀t∈zs,t.length<=5000:=λt ht=>by obtain⟨j,hj⟩:=xC ht;exact(hz j t hj).1
  refine WC.of (aGi (z:=aP [10]) om (WZ (L:=5000) (M:=100) z5 (by omega) (by decide) (by decide)) ?_);rw[WY];have tlen:(Dx (aP [10]) zs).length<=1000000:=by refine eN (StrLaws.join_length_le (aP [10]) zs) ?_;have:=Li (L:=5000) (ts:=zs) z5;have e1:(aP [10]).length=1:=rfl;rw[e1];omega
  by_cases h0:ps=[]
  .have z0:zs=[]:=zY (by rw[el,h0];rfl);subst z0;refine q _ _ [.aK] kp ⟨tlen,[([],.aK)],rfl,rfl,by decide,λp hp=>?_⟩ (.inr ⟨h0,rfl⟩);rw[List.mem_singleton.mp hp];exact⟨by decide,trivial,rfl⟩
  .have z0:zs.map tl≠[]:=λe=>h0 (zY (by rw[<- el,List.map_eq_nil_iff.mp e];rfl));have e2:((zs.map tl).zip (ps.map (·.2.2))).map (·.2)=ps.map (·.2.2):=List.map_snd_zip (by simp;omega);have e1:((zs.map tl).zip (ps.map (·.2.2))).map (·.1)=zs.map tl:=List.map_fst_zip (by simp;omega);refine q _ _ (ps.map (·.2.2)) kp ⟨tlen,(zs.map tl).zip (ps.map (·.2.2)),e2,?_,by simp;omega,λp hp=>?_⟩ (.inl rfl)
   .rw[e1,DX,CL z0 λw hw=>?_];obtain⟨t,ht,rfl⟩:=List.mem_map.mp hw;obtain⟨j,hj⟩:=xC ht;exact(hz j t hj).2.1
   .obtain⟨j,hj⟩:=xC hp;rw[IT,gK,gK]at hj;obtain⟨hj1,hj2⟩:=hj;obtain⟨z,h3,h4⟩:=Option.map_eq_some_iff.mp hj1;obtain⟨p',h5,h6⟩:=Option.map_eq_some_iff.mp hj2;obtain⟨a1,a2,p2,a3,a4⟩:=hz j z h3;rw[h5]at a3;cases a3;rw[<- h4,<- h6];exact⟨by rw[<- bV];omega,(hr p' (fQ h5)).ok,a4⟩
end
theorem BY{z:aI}{n:Nat}(h:n<=z.length):mX z aD (aA (n:Int))=aP ((tl z).take n):=by rw[Au (a:=0) (b:=n) rfl (by show max (0:Int) (min (if((n:Int))<0 then _ else(n:Int)) _)=_;rw[if_neg (by omega)];omega) (kD _) h,xB,Oj]
theorem aAx{z:aI}{n:Nat}(h:n<=z.length):mX z (aA (n:Int)) aD=aP ((tl z).drop n):=by rw[Au (a:=n) (b:=z.length) (by show max (0:Int) (min (if((n:Int))<0 then _ else(n:Int)) _)=_;rw[if_neg (by omega)];omega) rfl h (cB _),qQ (by rw[uM,<- bV];omega)]
def wG:aI:="abcdefghijklmnopqrstuvwxyz"
theorem CA:wG.length=26:=by decide +kernel
theorem BZ{i:Nat}(h1:i<26):eP wG.cps.toList (i:Int)=aA (97+i):=by refine vE ?_;show(tl wG)[i]?=_;rw[show tl wG=tf 97 26 from by decide +kernel,List.getElem?_range' h1,Nat.one_mul]
section
variable {Xc:Nat->AH->Prop}{k:Nat}{h:AH}{R:AV->AH->Prop}
theorem yp{x b:Int}(h0:0<=x)(h1:x<b):∃m:Nat,x=m/\(m:Int)<b:=⟨x.toNat,by omega,by omega⟩
theorem Xh{n m:Int}(h0:0<=n)(h1:n<2147483647)(m0:0<=m)(m8:m<=8)(q:∀z,(z.length:Int)=m->(∀c∈tl z,97<=c/\c<=122)->R (.str z) h):WC Xc (run pg (k+1) SM [.int n,.int m]) h R:=by
 have e:sizeLine=16777216:=iB;refine eB rfl rfl (WB.of ?_);with_reducible refine mT (Ca ?_)
 refine⟨An (by omega) (by omega),?_⟩;refine Hf (λi σ h'=>h'=h/\∃z a b,σ=[aA (.int n),aA (.int m),aA (.str wG),aA (.str z),a,b]/\z.length=i/\∀c∈tl z,97<=c/\c<=122) (by rw[fF];omega) ⟨rfl,_,_,_,rfl,rfl,λc hc=>by cases hc⟩ ?_ ?_
 .rintro i σ h' hi ⟨rfl,z,a,b,rfl,ez,hz⟩
  obtain⟨c,ec,hc⟩:=yp (x:=(n+n / (0+(i:Int)+7)*(0+(i:Int)+1))%26) (b:=26) (Dd _ (by decide)) (Cz _ (by decide));have h2:0<=n / (0+(i:Int)+7):=HW h0 (by omega);have h3:n / (0+(i:Int)+7)<=n:=HV _ h0;refine kY _ (jE _ (aM.t (Gv (by omega) (by omega)) (aM.t (Jc (by omega) (by omega)) (WC.of (By (z:=wG) (by rw[CA];omega) (by rw[ec];exact BZ (by omega)) (WC.of (kZ (by show z.length+1<=_;omega) ⟨rfl,_,_,_,rfl,?_,?_⟩)))))))
  .rw[kS,ez];rfl
  .rw[eF];intro d hd;rcases List.mem_append.mp hd with hd|hd
   .exact hz d hd
   .rw[List.mem_singleton.mp hd];omega
 .rintro σ h' ⟨rfl,z,a,b,rfl,ez,hz⟩
  exact q z (by rw[ez];omega) hz
theorem XM:(["go","set","jump","a","h","fault","load","some"]:List aI).all (λz:aI=>decide (tl z≠[])&&(tl z).all (λc=>decide (97<=c/\c<=122))&&decide ((tl z).length<=8))=aB:=by decide +kernel
theorem XQ{c:Int}(q:∀h' n (bE:List aI),Kp h h'->n<h'.nx->h'.ob n=aA (.lst aB (bE.map AV.str))->bE.length=8->(∀l∈bE,dN (tl l))->bE.Nodup->R (.ref n) h'):WC Xc (run pg (k+2) SK [.int c]) h R:=by
 have e:sizeLine=16777216:=iB;refine eB rfl rfl (Jl (k:=k) (by decide) (by decide) λy y0 y1=>aM.dc (λhc=>?_) λhc=>aM.dc (λhd=>?_) λhd=>?_)
 .refine Xh (k:=k) (by omega) (by omega) (by decide) (by decide) λz lz hz=>?_;have lz:z.length=8:=by omega
  refine WC.of (zU (Ca ⟨An (by decide) (by decide),?_⟩));refine PR (λi ys σ h'=>h'=h/\ys=((gL i).map λj=>aP ((tl z).take (j+1))).map AV.str/\∃a,σ=[a,aA (.str z)]) (by rw[fF];decide) ⟨rfl,rfl,_,rfl⟩ ?_ ?_
  .rintro i ys σ h' hi ⟨rfl,rfl,a,rfl⟩
   have hi:i<8:=hi;refine uF (bR _ (lU (WC.of (fw (by omega) ⟨?_,rfl,?_,_,rfl⟩))))
   .rw[aV,aV,IW];omega
   .rw[tj,dA,dA];show _++[AV.str (mX z aD (aA (0+(i:Int)+1)))]=_;rw[show(0+(i:Int)+1)=((i+1:Nat):Int) by omega,BY (by omega)];rfl
  .rintro ys σ h' ⟨rfl,rfl,a,rfl⟩
   refine q _ _ ((gL 8).map λj=>aP ((tl z).take (j+1))) Kp.refl.new (cQ _) bO (by simp) (λl hl=>?_) ?_
   .obtain⟨j,hj,rfl⟩:=List.mem_map.mp hl;have hj:=List.mem_range.mp hj;rw[eG];refine⟨λe=>?_,λc hc=>hz c (JB hc),by rw[eT];omega⟩;have:=congrArg qN e;rw[eT,<- bV,lz,sx]at this;omega
   .rw[JE,JG];refine HZ ?_ JF;intro a b ha hb hab e2;have:=congrArg qN (mk_eq.mp e2);rw[eT,eT,<- bV,lz]at this;have h1:=List.mem_range.mp ha;have h2:=List.mem_range.mp hb;omega
 .refine q _ _ ["go","set","jump","a","h","fault","load","some"] Kp.refl.new (cQ _) bO rfl (λl hl=>?_) (by decide +kernel);have:=List.all_eq_true.mp XM l hl;rw[aY,aY,xA]at this;exact⟨of_decide_eq_true this.1.1,λc hc=>of_decide_eq_true (this.1.2 c hc),of_decide_eq_true this.2⟩
 .refine Xh (k:=k) (by omega) (by omega) (by omega) (by omega) λz lz hz=>?_;have lz8:z.length<=7:=by omega
  refine WC.of (rf (by omega) (aM.dt (by omega) (WB.of ?_)));obtain⟨a,ea,ha⟩:=yp (x:=y / 4 / 8%((z.length:Int)+1)) (b:=(z.length:Int)+1) (Dd _ (by omega)) (Cz _ (by omega));rw[ea];with_reducible refine mT (Ca ?_)
  refine⟨An (by decide) (by decide),?_⟩;have o0:(h.new (.lst aB [])).ob h.nx=aA (.lst aB []):=bO;have k0:Kp h (h.new (.lst aB [])):=Kp.refl.new;have n0:h.nx<(h.new (.lst aB [])).nx:=cQ _;generalize em:h.nx=m at o0 n0 ⊢;generalize h.new (.lst aB [])=h1 at k0 o0 n0 ⊢;have hw:0<=y / 4 / 50:=by omega
  obtain⟨w,ew⟩:=wX hw;refine Hf (λi σ h'=>(∃a1 a2,σ=[aA (.int c),aA (.int y),aA (.int (y / 4)),aA (.str z),aA (.int a),aA (.str wG),aA (.ref m),a1,a2])/\Kp h h'/\m<h'.nx/\h'.ob m=aA (.lst aB (((gL i).map λj=>aP ((tl z).take a++[97+(w+j)%26]++(tl z).drop a)).map AV.str))) (by rw[fF];decide) ⟨⟨_,_,rfl⟩,k0,n0,o0⟩ ?_ ?_
  .rintro i σ h' hi ⟨⟨a1,a2,rfl⟩,kp,lm,om⟩
   have hi:i<8:=hi;refine kY _ (jE _ (WC.of (By (z:=wG) (c:=97+(w+i)%26) (by rw[CA];omega) ?_ ?_)))
   .rw[show(y / 4 / 50+(0+(i:Int)))%26=(((w+i)%26:Nat):Int) by omega];exact BZ (by omega)
   .refine aM.t (oV om) (lU (WC.of (fw (by omega) ?_)));rw[BY (by omega)];have l1:(aP ((tl z).take a)).length<=7:=by rw[bV,eG,eT,<- bV];omega
    have l2:(aP ((tl z).drop a)).length<=7:=by rw[bV,eG,uM,<- bV];omega
    have l3:(aP [97+(w+i)%26]).length=1:=rfl;refine WC.of (kZ (j:=aP [97+(w+i)%26]) (by omega) (lU (WC.of (fw (by omega) ?_))));rw[aAx (by omega)];refine WC.of (kZ (by rw[kS];omega) (WC.of (wR om (by simp;omega) ⟨⟨_,_,rfl⟩,kp.put (by omega),lm,?_⟩)));rw[rO,tj,dA,dA];have:aP ((tl z).take a)++aP [97+(w+i)%26]++aP ((tl z).drop a)=aP ((tl z).take a++[97+(w+i)%26]++(tl z).drop a):=qk (by rw[eF,eF,eG,eG,eG,eG]);rw[this];rfl
  .rintro σ h' ⟨⟨a1,a2,rfl⟩,kp,lm,om⟩
   refine q _ _ ((gL 8).map λj=>aP ((tl z).take a++[97+(w+j)%26]++(tl z).drop a)) kp lm om (by simp) (λl hl=>?_) ?_
   .obtain⟨j,hj,rfl⟩:=List.mem_map.mp hl;rw[eG];refine⟨by simp,λc hc=>?_,?_⟩
    .rcases List.mem_append.mp hc with hc|hc
     .rcases List.mem_append.mp hc with hc|hc
      .exact hz c (JB hc)
      .rw[List.mem_singleton.mp hc];omega
     .exact hz c (List.mem_of_mem_drop hc)
    .rw[fP,fP,eT,uM,uN,<- bV];omega
   .rw[JE,JG];refine HZ ?_ JF;intro x1 x2 ha1 hb1 hab e2;have h1:=List.mem_range.mp ha1;have h2:=List.mem_range.mp hb1;have e3:=mk_eq.mp e2;rw[aJl,aJk,pC]at e3;omega
end
theorem aAl{s:Int}{c:Nat}{t:List Nat}(h:iR s=c::t):(c=45\/(48<=c/\c<=57))/\(∀x∈t,48<=x/\x<=57):=by
 unfold iR at h;split at h
 .exact⟨.inr (mE (m:=s.toNat) (by rw[h];exact .head _)),λx hx=>mE (m:=s.toNat) (by rw[h];exact .tail _ hx)⟩
 .rw[pC]at h;exact⟨.inl h.1.symm,λx hx=>mE (m:=s.natAbs) (by rw[h.2];exact hx)⟩
theorem aBv{c:Nat}{t:List Nat}{v:AV}(h:¬(c=45\/(48<=c/\c<=57)))(r:vB (c::t) v):v = .aK:=r.no λs _ _ e=>h (aAl e.symm).1
theorem DU{l:List Nat}{c d:Nat}{v:AV}(h:c∈l)(hc:¬(48<=c/\c<=57))(hd:d∈l)(hdd:¬(97<=d/\d<=122))(r:sW l v):v = .aK:=by
 rcases r with⟨lb,_⟩|⟨_,r⟩
 .exact absurd (lb.2.1 d hd) hdd
 .exact Yg h hc r
theorem aDv{l:List Nat}{d:Nat}{v:AV}(hd:d∈l)(hdd:¬(97<=d/\d<=122))(n:pL l 400 v->v = .aK)(r:sW l v):v = .aK:=by
 rcases r with⟨lb,_⟩|⟨_,r⟩
 .exact absurd (lb.2.1 d hd) hdd
 .exact n r
theorem Fy{l:List Nat}(h:¬ ∃x:Nat,x<8/\l=[97+x]):ja "box" l:=λv r=>by
 rcases(show xO l v from r)with⟨x,hx,e,_⟩|⟨_,e⟩
 .exact absurd ⟨x,hx,e⟩ h
 .exact e
theorem ZP{m:Nat}(h:400<m):ja "target" (dg m):=λv r=>by
 rcases(show sW _ v from r)with⟨lb,_⟩|⟨_,r⟩
 .exact absurd lb Sy
 .exact r.no λm' hm e=>by have:=dq e;omega
theorem UN{l u:List Nat}(h:gw l)(h1:32∉u)(h2:35∉u):gw (l++u):=⟨λe=>h.1 (List.append_eq_nil_iff.mp e).1,λe=>(List.mem_append.mp e).elim h.2.1 h1,λe=>(List.mem_append.mp e).elim h.2.2 h2⟩
theorem Xa{l:aI}(h:dN (tl l)):(35∉tl (l++":")/\(l++":").length<=64)/\gw (tl (l++":"))/\jC.lookup (l++":")=aD:=by
 have g:gw (tl (l++":")):=by rw[eF];exact UN (xt h) (by decide) (by decide)
 have:=h.2.2;refine⟨⟨g.2.2,?_⟩,g,?_⟩
 .rw[kS,bV];show _+1<=_;omega
 .cases hl:jC.lookup (l++":") with
  |none=>rfl|some fs=>
   have all:jC.all (λp=>!(tl p.1).contains 58)=aB:=by decide +kernel
   have:=List.all_eq_true.mp all _ (kn hl);simp only[qG,ID,decide_eq_false_iff_not]at this;exact absurd (by rw[eF];exact hU _ (by decide)) this
theorem MW{x:Nat}(h:x<8):eP ("abcdefgh":aI).cps.toList (x:Int)=aA (97+x):=by exact(by decide +kernel:∀x<8,eP ("abcdefgh":aI).cps.toList ((x:Nat):Int)=aA (97+x)) x h
theorem ZO{f:aI}:ja f [58]:=λv r=>by
 unfold sT at r;split at r
 .exact Fy (λ⟨x,hx,e⟩=>by rw[pC]at e;omega) v r
 .split at r
  .exact aBv (by omega) r
  .split at r
   .exact DU (c:=58) (d:=58) (.head _) (by omega) (.head _) (by omega) r
   .exact Yg (c:=58) (.head _) (by omega) r
def Rk.tg:Rk->Option TT
 |.gF _ t=>aA t | .go t=>aA t|_=>aD
def xR(bE:List aI)(it:It):Prop:=∀r l,it = .row r->r.tg=aA (.bN l)->l∈bE
def Ko(z:aI):Bool:=decide (z.length<=40) && !(tl z).contains 10 && !(tl z).contains 35
theorem kU{z:aI}(h:Ko z=aB):z.length<=40/\10∉tl z/\35∉tl z:=by simp only[Ko,aY,decide_eq_true_eq,qG,ID,decide_eq_false_iff_not]at h;exact⟨h.1.1,h.1.2,h.2⟩
theorem uC{z:aI}{it:It}(h:z.length<=40/\10∉tl z/\35∉tl z)(ok:it.ok)(t:oK (wf (tl z)) it):Raw z it:=⟨ok,h.1,h.2.1,.inl ⟨h.2.2,t⟩⟩
theorem rM{a b:List Nat}{r:List (List Nat)}:vf (a::b::r):=λl _ e=>by simp at e
theorem vT{w:List Nat}(h:∀l,dN l->w≠l++[58]):vf [w]:=λl hl e=>h l hl (Nn e).1
theorem jQ{z:aI}{ws:List (List Nat)}(h:z.length<=40/\10∉tl z/\35∉tl z)(e:wf (tl z)=ws)(h0:ws≠[])(n:vf ws)(b:xN ws):Raw z .bad:=uC h trivial (by rw[e];exact⟨h0,n,b⟩)
theorem km{l:aI}(h:dN (tl l)):l.length<=8/\10∉tl l/\35∉tl l:=⟨by rw[bV];exact h.2.2,λe=>by have:=h.2.1 _ e;omega,λe=>by have:=h.2.1 _ e;omega⟩
theorem uB{x y:aI}{a b:Nat}(h1:x.length<=a/\10∉tl x/\35∉tl x)(h2:y.length<=b/\10∉tl y/\35∉tl y)(hab:a+b<=40):(x++y).length<=40/\10∉tl (x++y)/\35∉tl (x++y):=by refine⟨by rw[kS];omega,?_,?_⟩<;>rw[eF]<;>exact λhm=>(List.mem_append.mp hm).elim (by first|exact h1.2.1|exact h1.2.2) (by first|exact h2.2.1|exact h2.2.2)
abbrev vp(l:aI):List AV:=[.str "go",.str "set a",.str ("jump "++l),.str l,.str (l++" :"),.str ":"]++[.str (l++": go 0"),.str "goto 0",.str "go 401",.str "set i 0"]++[.str (l++"::"),.str (":"++l),.str "Loop:",.str "go -1"]++[.str "a1:",.str "move a 1",.str "abcdefghi:",.str "go 00"]
theorem OK{l:aI}(hl:dN (tl l)){i:Int}(h0:0<=i)(h1:i<18):∃z,Raw z .bad/\eP (vp l) i=aA (.str z):=by
 have rl:=km hl;have gl:=xt hl;have n58:58∉tl l:=λe=>by have:=hl.2.1 _ e;omega
 obtain⟨i,rfl⟩:=wX h0;have hi:i<18:=by omega
 have key:∃z,Raw z .bad/\(vp l)[i]?=aA (.str z):=by
  have:=(by decide +kernel:∀i<18,i=0\/i=1\/i=2\/i=3\/i=4\/i=5\/i=6\/i=7\/i=8\/i=9\/i=10\/i=11\/i=12\/i=13\/i=14\/i=15\/i=16\/i=17) i hi;rcases this with rfl|rfl|rfl|rfl|rfl|rfl|rfl|rfl|rfl|rfl|rfl|rfl|rfl|rfl|rfl|rfl|rfl|rfl
  .exact⟨_,jQ (ws:=[[103,111]]) (kU (by decide +kernel)) (by decide +kernel) (by simp) (vT λx _ e=>by have:=congrArg List.getLast? e;simp at this) sY,rfl⟩
  .exact⟨_,jQ (ws:=[tl ("set":aI),[97]]) (kU (by decide +kernel)) (by decide +kernel) (by simp) rM (vt (fs:=["box","word"]) rfl (by decide)),rfl⟩
  .refine⟨_,jQ (ws:=[tl ("jump":aI),tl l]) (uB (a:=5) (by decide +kernel) rl (by decide)) ?_ (by simp) rM (vt (fs:=["box","target"]) rfl (by show 1≠2;decide)),rfl⟩;rw[eF,show tl ("jump ":aI)++tl l=tl ("jump":aI)++32::tl l from rfl,sC,nW gl.2.1 gl.1];rfl
  .exact⟨_,jQ (ws:=[tl l]) ⟨by omega,rl.2⟩ (nW gl.2.1 gl.1) (by simp) (vT λx _ e=>n58 (by rw[e];simp)) sY,rfl⟩
  .refine⟨_,jQ (ws:=[tl l,[58]]) (uB (b:=2) rl (by decide +kernel) (by decide)) ?_ (by simp) rM ?_,rfl⟩
   .rw[eF,show tl l++tl (" :":aI)=tl l++32::[58] from rfl,sC,nW gl.2.1 gl.1];rfl
   .cases hk:jC.lookup (aP (tl l)) with
    |none=>exact vq hk|some fs=>
     by_cases hf:fs.length=1
     .obtain⟨f,rfl⟩:=List.length_eq_one_iff.mp hf;exact bq hk 0 rfl rfl ZO
     .exact vt hk (by show 1≠_;omega)
  .exact⟨_,jQ (ws:=[[58]]) (kU (by decide +kernel)) (by decide +kernel) (by simp) (vT λx hx e=>hx.1 (by have:=congrArg qN e;simp at this;exact this)) sY,rfl⟩
  .refine⟨_,jQ (ws:=[tl (l++":"),[103,111],[48]]) (uB (b:=6) rl (by decide +kernel) (by decide)) ?_ (by simp) rM (vq (by rw[nJ];exact(Xa hl).2.2)),rfl⟩;have g:=(Xa hl).2.1;rw[eF,show tl l++tl (": go 0":aI)=(tl l++[58])++32::[103,111,32,48] by simp;decide +kernel,sC,show tl l++[58]=tl (l++":") by rw[eF];rfl,nW g.2.1 g.1];rfl
  .exact⟨_,jQ (ws:=[tl ("goto":aI),[48]]) (kU (by decide +kernel)) (by decide +kernel) (by simp) rM (vq (by rw[nJ];rfl)),rfl⟩
  .exact⟨_,jQ (ws:=[tl ("go":aI),dg 401]) (kU (by decide +kernel)) (by decide +kernel) (by simp) rM (bq (fs:=["target"]) rfl 0 rfl rfl (ZP (by decide))),rfl⟩
  .exact⟨_,jQ (ws:=[tl ("set":aI),[105],[48]]) (kU (by decide +kernel)) (by decide +kernel) (by simp) rM (bq (fs:=["box","word"]) rfl 0 rfl rfl (Fy λ⟨x,hx,e⟩=>by rw[pC]at e;omega)),rfl⟩
  .have e1:tl (l++"::")=tl l++[58]++[58]:=by rw[eF,qL];rfl
   refine⟨_,jQ (ws:=[tl (l++"::")]) (uB (b:=2) rl (by decide +kernel) (by decide)) (nW ?_ ?_) (by simp) (vT λx hx e=>?_) sY,rfl⟩
   .rw[e1];exact λz=>(List.mem_append.mp z).elim (λz=>(List.mem_append.mp z).elim gl.2.1 λz=>by have:=List.mem_singleton.mp z;omega) λz=>by have:=List.mem_singleton.mp z;omega
   .rw[e1];simp
   .rw[e1]at e;have:=sk e;exact absurd (hx.2.1 58 (by rw[<- this];simp)) (by omega)
  .have e1:tl (":"++l)=58::tl l:=by rw[eF];rfl
   refine⟨_,jQ (ws:=[tl (":"++l)]) (uB (a:=1) (by decide +kernel) rl (by decide)) (nW ?_ ?_) (by simp) (vT λx hx e=>?_) sY,rfl⟩
   .rw[e1];exact λz=>(List.mem_cons.mp z).elim (λz=>by omega) gl.2.1
   .rw[e1];simp
   .rw[e1]at e;cases x with
    |nil=>exact hx.1 rfl|cons y x=>rw[fT,pC]at e;exact absurd (hx.2.1 58 (by rw[e.1];exact .head _)) (by omega)
  .exact⟨_,jQ (ws:=[[76,111,111,112]++[58]]) (kU (by decide +kernel)) (by decide +kernel) (by simp) (vT λx hx e=>absurd (hx.2.1 76 (by rw[<- sk e];simp)) (by omega)) sY,rfl⟩
  .exact⟨_,jQ (ws:=[tl ("go":aI),[45,49]]) (kU (by decide +kernel)) (by decide +kernel) (by simp) rM (bq (fs:=["target"]) rfl 0 rfl rfl λv r=>DU (c:=45) (d:=45) (.head _) (by omega) (.head _) (by omega) (show sW _ v from r)),rfl⟩
  .exact⟨_,jQ (ws:=[[97,49]++[58]]) (kU (by decide +kernel)) (by decide +kernel) (by simp) (vT λx hx e=>absurd (hx.2.1 49 (by rw[<- sk e];simp)) (by omega)) sY,rfl⟩
  .exact⟨_,jQ (ws:=[tl ("move":aI),[97],[49]]) (kU (by decide +kernel)) (by decide +kernel) (by simp) rM (bq (fs:=["box","box"]) rfl 1 rfl rfl (Fy λ⟨x,hx,e⟩=>by rw[pC]at e;omega)),rfl⟩
  .exact⟨_,jQ (ws:=[[97,98,99,100,101,102,103,104,105]++[58]]) (kU (by decide +kernel)) (by decide +kernel) (by simp) (vT λx hx e=>by have:=hx.2.2;rw[<- sk e]at this;simp at this) sY,rfl⟩
  .exact⟨_,jQ (ws:=[tl ("go":aI),[48,48]]) (kU (by decide +kernel)) (by decide +kernel) (by simp) rM (bq (fs:=["target"]) rfl 0 rfl rfl λv r=>aDv (d:=48) (.head _) (by omega) (ZX (by simp)) (show sW _ v from r)),rfl⟩
 obtain⟨z,r,e⟩:=key;exact⟨z,r,vE e⟩
theorem wC{z:aI}{r:Rk}(h:Ko z=aB)(ok:r.ok)(e:wf (tl z)=r.tx.map tl):Raw z (.row r):=uC (kU h) ok e
abbrev yV:List AV:=[.str "",.str "# loop:",.str "  ",.str "set a 5",.str "set h 18446744073709551615",.str "move b c"]++[.str "load c d -3",.str "store a b 12",.str "rest c a b",.str "fault 9",.str "same g g g"]
abbrev Zd(w:Int):List AV:=[.aK,.aK,.aK,.tup [.str "set",.int 0,.int 5],.tup [.str "set",.int 7,.int w],.tup [.str "move",.int 1,.int 2]]++[.tup [.str "load",.int 2,.int 3,.int (-3)],.tup [.str "store",.int 0,.int 1,.int 12],.tup [.str "rest",.int 2,.int 0,.int 1],.tup [.str "fault",.int 9],.tup [.str "same",.int 6,.int 6,.int 6]]
theorem B5{i:Int}(h0:0<=i)(h1:i<11):∃z it,Raw z it/\xR [] it/\it ≠ .bad/\eP yV i=aA (.str z)/\eP (Zd 18446744073709551615) i=aA it.av:=by
 obtain⟨i,rfl⟩:=wX h0;have hi:i<11:=by omega
 have no:∀{r:Rk},r.tg=aD->xR [] (.row r):=λ{r} e r' l e1 e2=>by cases e1;rw[e]at e2;cases e2
 have nn:xR [] .aK:=λr' l e1=>by cases e1
 have key:∃z it,Raw z it/\xR [] it/\it ≠ .bad/\yV[i]?=aA (.str z)/\(Zd 18446744073709551615)[i]?=aA it.av:=by
  have:=(by decide +kernel:∀i<11,i=0\/i=1\/i=2\/i=3\/i=4\/i=5\/i=6\/i=7\/i=8\/i=9\/i=10) i hi;rcases this with rfl|rfl|rfl|rfl|rfl|rfl|rfl|rfl|rfl|rfl|rfl
  .exact⟨_,.aK,uC (kU (by decide +kernel)) trivial (by show wf _=[];decide +kernel),nn,by simp,rfl,rfl⟩
  .exact⟨_,.aK,⟨trivial,by decide +kernel,by decide +kernel,.inr ⟨rfl,rfl⟩⟩,nn,by simp,rfl,rfl⟩
  .exact⟨_,.aK,uC (kU (by decide +kernel)) trivial (by show wf _=[];decide +kernel),nn,by simp,rfl,rfl⟩
  .exact⟨_,.row (.set 0 5),wC (by decide +kernel) ⟨by decide,by decide⟩ (by decide +kernel),no rfl,by simp,rfl,rfl⟩
  .exact⟨_,.row (.set 7 18446744073709551615),wC (by decide +kernel) ⟨by decide,by decide⟩ (by decide +kernel),no rfl,by simp,rfl,rfl⟩
  .exact⟨_,.row (.move 1 2),wC (by decide +kernel) ⟨by decide,by decide⟩ (by decide +kernel),no rfl,by simp,rfl,rfl⟩
  .exact⟨_,.row (.ls aF 2 3 (-3)),wC (by decide +kernel) ⟨by decide,by decide,by decide,by decide⟩ (by decide +kernel),no rfl,by simp,rfl,rfl⟩
  .exact⟨_,.row (.ls aB 0 1 12),wC (by decide +kernel) ⟨by decide,by decide,by decide,by decide⟩ (by decide +kernel),no rfl,by simp,rfl,rfl⟩
  .exact⟨_,.row (.way .rest 2 0 1),wC (by decide +kernel) ⟨by decide,by decide,by decide⟩ (by decide +kernel),no rfl,by simp,rfl,rfl⟩
  .exact⟨_,.row (.fault 9),wC (by decide +kernel) (by show(9:Nat)<_;decide) (by decide +kernel),no rfl,by simp,rfl,rfl⟩
  .exact⟨_,.row (.way .same 6 6 6),wC (by decide +kernel) ⟨by decide,by decide,by decide⟩ (by decide +kernel),no rfl,by simp,rfl,rfl⟩
 obtain⟨z,it,r,nl,nb,e1,e2⟩:=key;exact⟨z,it,r,nl,nb,vE e1,vE e2⟩
theorem aFg{t:TT}(ht:t.ok):gw (tl (kA t).t)/\(kA t).t.length<=20:=aFn (.wJ ht)
theorem UM{p:Wd}(h:pM p):10∉tl p.t:=by
 cases h with
 |@box x hx=>intro e;have:=List.mem_singleton.mp e;omega|@word m hm=>intro e;have e:10∈tl (nS m):=e;rw[qF]at e;have:=mE e;omega|@step s h0 h1=>
  intro e;have e:10∈tl (nS s):=e;rw[Bl]at e;unfold iR at e;split at e
  .have:=mE e;omega
  .rcases List.mem_cons.mp e with e|e
   .cases e
   .have:=mE e;omega
 |@wJ t ht=>
  cases t with
  |num m=>intro e;have e:10∈tl (nS m):=e;rw[qF]at e;have:=mE e;omega|bN l=>intro e;have:=(show dN (tl l) from ht).2.1 10 e;omega
section
variable {Xc:Nat->AH->Prop}{k:Nat}{h:AH}{R:AV->AH->Prop}
theorem CS{t:TT}{Q:AV->AH->Prop}(ht:t.ok)(q:Q (.str (kA t).t) h):WC Xc (Bi.g .str [(kA t).v]) h Q:=by
 cases t with
 |num m=>have hm:m<=400:=ht;exact WC.of (FX (CB (by omega) (by omega)) q)
 |bN l=>exact WC.of q
theorem DM{t:TT}{n:Int}(ht:t.ok)(h0:0<=n)(q:∀h' m z r,Kp h h'->m<h'.nx->h'.ob m=aA (.lst aB [.str z,r.av])->Raw z (.row r)->r.tg=aA t->R (.ref m) h'):WC Xc (run pg (k+1) jm [(kA t).v,.int n]) h R:=by
 have e:sizeLine=16777216:=iB;obtain⟨gt,lt⟩:=aFg ht;have t10:=UM (.wJ ht);refine eB rfl rfl (aM.dc (λhc=>?_) λhc=>?_)
 .obtain⟨x,ex,hx⟩:=yp (x:=n / 3%8) (b:=8) (by omega) (by omega);have e2:Rk.av (.gF x t) = .tup [.str "jump",.int (n / 3%8),(kA t).v]:=by rw[ex];rfl
  refine WC.of (By (z:="abcdefgh") (i:=n / 3%8) (c:=97+x) (by decide) (by rw[ex];exact MW (by omega)) ?_);refine WC.of (kZ (i:="jump ") (j:=aP [97+x]) (by show 5+1<=_;omega) ?_);refine WC.of (kZ (i:="jump "++aP [97+x]) (j:=" ") (by rw[kS];show 5+1+1<=_;omega) ?_);refine CS ht ?_;refine WC.of (kZ (i:="jump "++aP [97+x]++" ") (j:=(kA t).t) (by rw[kS,kS];show 5+1+1+_<=_;omega) ?_);refine q _ _ _ (.gF x t) Kp.refl.new (cQ _) (by rw[e2];exact bO) (uC (uB (a:=10) (b:=20) ⟨?_,?_,?_⟩ ⟨lt,t10,gt.2.2⟩ (by decide)) ⟨by omega,ht⟩ ?_) rfl
  .rw[kS,kS];show 5+1+1<=10;decide
  .rw[eF,eF];intro hm;rcases List.mem_append.mp hm with hm|hm
   .rcases List.mem_append.mp hm with hm|hm
    .revert hm;decide +kernel
    .have:=List.mem_singleton.mp hm;omega
   .revert hm;decide +kernel
  .rw[eF,eF];intro hm;rcases List.mem_append.mp hm with hm|hm
   .rcases List.mem_append.mp hm with hm|hm
    .revert hm;decide +kernel
    .have:=List.mem_singleton.mp hm;omega
   .revert hm;decide +kernel
  .show wf _=_;have e1:tl ("jump "++aP [97+x]++" "++(kA t).t)=tl ("jump":aI)++32::([97+x]++32::tl (kA t).t):=by rw[eF,eF,eF,qL,qL];rfl
   rw[e1,sC,sC,nW gt.2.1 gt.1,nW (w:=[97+x]) (λz=>by have:=List.mem_singleton.mp z;omega) (by simp)];rfl
 .refine CS ht (WC.of (kZ (i:="go ") (j:=(kA t).t) (by show 3+_<=_;omega) ?_));refine q _ _ _ (.go t) Kp.refl.new (cQ _) bO (uC (uB (a:=3) (b:=20) (by decide +kernel) ⟨lt,t10,gt.2.2⟩ (by decide)) ht ?_) rfl;show wf _=_;have e1:tl ("go "++(kA t).t)=tl ("go":aI)++32::tl (kA t).t:=by rw[eF];rfl
  rw[e1,sC,nW gt.2.1 gt.1];rfl
theorem B8{n:Int}(q:∀h' m z it,Kp h h'->m<h'.nx->h'.ob m=aA (.lst aB [.str z,it.av])->Raw z it->xR [] it->it ≠ .bad->R (.ref m) h'):WC Xc (run pg (k+1) SQ [.int n]) h R:=by
 obtain⟨z,it,r,nl,nb,e1,e2⟩:=B5 (i:=n%11) (by omega) (by omega);refine eB rfl rfl (WC.of (Bw (xs:=[.str "",.str "# loop:",.str "  ",.str "set a 5",.str "set h 18446744073709551615",.str "move b c"]) (ys:=[.str "load c d -3",.str "store a b 12",.str "rest c a b",.str "fault 9",.str "same g g g"]) ((gH (bU (cQ _))).trans bO) bO (by decide) ?_));have k1:Kp h (((h.new (.lst aB [.str "",.str "# loop:",.str "  ",.str "set a 5",.str "set h 18446744073709551615",.str "move b c"])).new (.lst aB [.str "load c d -3",.str "store a b 12",.str "rest c a b",.str "fault 9",.str "same g g g"])).new (.lst aB yV)):=Kp.refl.new.new.new;have o1:(((h.new (.lst aB [.str "",.str "# loop:",.str "  ",.str "set a 5",.str "set h 18446744073709551615",.str "move b c"])).new (.lst aB [.str "load c d -3",.str "store a b 12",.str "rest c a b",.str "fault 9",.str "same g g g"])).new (.lst aB yV)).ob ((h.new (.lst aB [.str "",.str "# loop:",.str "  ",.str "set a 5",.str "set h 18446744073709551615",.str "move b c"])).new (.lst aB [.str "load c d -3",.str "store a b 12",.str "rest c a b",.str "fault 9",.str "same g g g"])).nx=aA (.lst aB yV):=bO;have l1:((h.new (.lst aB [.str "",.str "# loop:",.str "  ",.str "set a 5",.str "set h 18446744073709551615",.str "move b c"])).new (.lst aB [.str "load c d -3",.str "store a b 12",.str "rest c a b",.str "fault 9",.str "same g g g"])).nx<(((h.new (.lst aB [.str "",.str "# loop:",.str "  ",.str "set a 5",.str "set h 18446744073709551615",.str "move b c"])).new (.lst aB [.str "load c d -3",.str "store a b 12",.str "rest c a b",.str "fault 9",.str "same g g g"])).new (.lst aB yV)).nx:=cQ _;generalize ((h.new (.lst aB [.str "",.str "# loop:",.str "  ",.str "set a 5",.str "set h 18446744073709551615",.str "move b c"])).new (.lst aB [.str "load c d -3",.str "store a b 12",.str "rest c a b",.str "fault 9",.str "same g g g"])).new (.lst aB yV)=h1 at k1 o1 l1 ⊢;generalize ((h.new (.lst aB [.str "",.str "# loop:",.str "  ",.str "set a 5",.str "set h 18446744073709551615",.str "move b c"])).new (.lst aB [.str "load c d -3",.str "store a b 12",.str "rest c a b",.str "fault 9",.str "same g g g"])).nx=m1 at o1 l1 ⊢;refine WC.of (FV rfl ?_);have ew:(2:Int) ^ (64:Int).toNat=18446744073709551616:=by decide
 rw[ew];refine WC.of (Bw (xs:=[.aK,.aK,.aK,.tup [.str "set",.int 0,.int 5],.tup [.str "set",.int 7,.int 18446744073709551615],.tup [.str "move",.int 1,.int 2]]) (ys:=[.tup [.str "load",.int 2,.int 3,.int (-3)],.tup [.str "store",.int 0,.int 1,.int 12],.tup [.str "rest",.int 2,.int 0,.int 1],.tup [.str "fault",.int 9],.tup [.str "same",.int 6,.int 6,.int 6]]) ((gH (bU (cQ _))).trans bO) bO (by decide) ?_);refine WC.of (iL (dR ((Kp.ob Kp.refl.new.new.new _ l1).trans o1)) e1 (WC.of (iL (dR bO) e2 ?_)));exact q _ _ z it k1.new.new.new.new (cQ _) bO r nl nb
end
theorem Iq{bE:List aI}(l8:bE.length=8){x:Int}(h0:0<=x)(h1:x<8):∃l,l∈bE/\eP (bE.map AV.str) x=aA (.str l):=by
 obtain⟨n,rfl⟩:=wX h0;have hn:n<bE.length:=by omega
 exact⟨bE[n],aa hn,vE (by rw[gK,cZ hn];rfl)⟩
section
variable {Xc:Nat->AH->Prop}{k:Nat}{h:AH}{R:AV->AH->Prop}
theorem OL{l:aI}{n:Int} (hl:dN (tl l)) (q:∀h' m z,Kp h h'->m<h'.nx->h'.ob m=aA (.lst aB [.str z,.str "BAD"])->Raw z .bad->R (.ref m) h'):WC Xc (run pg (k+1) SE [.int n,.str l]) h R:=by have e:sizeLine=16777216:=iB;have l8:=(km hl).1;obtain⟨z,r,e1⟩:=OK hl (i:=n%18) (by omega) (by omega);have add:∀{x y:aI}{V:AV->AH->Prop}{h:AH},x.length+y.length<=20->V (.str (x++y)) h->WC Xc (Op.g .add (.str x) (.str y)) h V:=λhz q=>WC.of (kZ (by omega) q);have cat:∀{n m:Nat}{xs ys:List AV}{V:AV->AH->Prop}{h:AH},h.ob n=aA (.lst aB xs)->h.ob m=aA (.lst aB ys)->xs.length+ys.length<=20->V (.ref h.nx) (h.new (.lst aB (xs++ys)))->WC Xc (Op.g .add (.ref n) (.ref m)) h V:=λa b c q=>WC.of (Bw a b (by omega) q);refine eB rfl rfl (add (x:="jump ") (y:=l) (by show 5+_<=_;omega) ?_);refine add (x:=l) (y:=" :") (by show _+2<=_;omega) ?_;refine add (x:=l) (y:=": go 0") (by show _+6<=_;omega) ?_;refine cat (xs:=[.str "go",.str "set a",.str ("jump "++l),.str l,.str (l++" :"),.str ":"]) (ys:=[.str (l++": go 0"),.str "goto 0",.str "go 401",.str "set i 0"]) ((gH (bU (cQ _))).trans bO) bO (by simp) ?_;refine add (x:=l) (y:="::") (by show _+2<=_;omega) ?_;refine add (x:=":") (y:=l) (by show 1+_<=_;omega) ?_;refine cat (ys:=[.str (l++"::"),.str (":"++l),.str "Loop:",.str "go -1"]) ((gH (bU (cQ _))).trans bO) bO (by simp) ?_;refine cat (ys:=[.str "a1:",.str "move a 1",.str "abcdefghi:",.str "go 00"]) ((gH (bU (cQ _))).trans bO) bO (by simp) ?_;refine WC.of (iL (dR bO) e1 ?_);exact q _ _ z Kp.refl.new.new.new.new.new.new.new.new (cQ _) bO r
end
section
variable {Xc:Nat->AH->Prop}{k:Nat}{h:AH}{R:AV->AH->Prop}
theorem WO{nl i:Nat}{bE:List aI}{c way:Int}(ol:h.ob nl=aA (.lst aB (bE.map AV.str)))(l8:bE.length=8)(hl:∀l∈bE,dN (tl l))(hi:i<900)
  (q:∀h' m z it,Kp h h'->m<h'.nx->h'.ob m=aA (.lst aB [.str z,it.av])->Raw z it->xR bE it->(it = .bad->way=3)->R (.ref m) h'):WC Xc (run pg (k+2) SJ [.int c,.int i,.ref nl,.int way]) h R:=by
 have e:sizeLine=16777216:=iB;have row:∀{t:TT}{n:Int},t.ok->(∀l,t = .bN l->l∈bE)->0<=n->WC Xc (run pg (k+1) jm [(kA t).v,.int n]) h R:=λ{t n} ht hm h0=>
  DM ht h0 λh' m z r k1 lm om raw tg=>q h' m z (.row r) k1 lm om raw (λr' l e1 e2=>by cases e1;rw[tg]at e2;exact hm l (dB e2)) λz=>by cases z
 have tgl:∀{x:Int}{n:Int},0<=x->x<8->0<=n->WC Xc (Op.g .ix (.ref nl) (.int x)) h λv h1=>WC Xc (run pg (k+1) jm [v,.int n]) h1 R:=λ{x n} h0 h1 hn=>by obtain⟨l,lm,el⟩:=Iq l8 h0 h1;exact WC.of (iL (dR ol) el (row (t:=.bN l) (hl l lm) (λl' e=>by cases e;exact lm) hn))
 refine eB rfl rfl (Jl (k:=k) (by omega) (by omega) λy y0 y1=>aM.dc (λhw=>aM.dc (λ_=>?_) λ_=>?_) λhw=>?_)
 .obtain⟨l,lm,el⟩:=Iq l8 (x:=y / 10 / 12%8) (by omega) (by omega);exact WC.of (iL (dR ol) el (OL (hl l lm) λh' m z k1 l1 o1 r=>q _ _ _ .bad k1 l1 o1 r (λr' l e1=>by cases e1) λ_=>hw))
 all_goals
  refine aM.dc (λ_=>?_) λ_=>aM.dc (λ_=>?_) λ_=>aM.dc (λ_=>?_) λ_=>?_
  .obtain⟨l,lm,el⟩:=Iq l8 (x:=y / 10%8) (by omega) (by omega);have rl:=km (hl l lm);refine WC.of (iL (dR ol) el (WC.of (kZ (i:=l) (j:=":") (by show _+1<=_;omega) (WC.of (iL (dR ol) el ?_)))));refine q _ _ _ (.bN l) Kp.refl.new (cQ _) bO (uC (uB (b:=1) rl (by decide +kernel) (by decide)) (hl l lm) ?_) (λr' l e1=>by cases e1) λz=>by cases z
   show wf _=_;rw[eF];exact Iu (hl l lm)
  .exact B8 λh' m z it k1 l1 o1 r nl nb=>q _ _ _ it k1 l1 o1 r (λr' l e1 e2=>by have:=nl r' l e1 e2;cases this) λz=>absurd z nb
  .exact tgl (by omega) (by omega) (by omega)
  .obtain⟨m,em,hm⟩:=yp (x:=y / 10%32) (b:=32) (by omega) (by omega);show WC Xc (run pg (k+1) jm [.int (y / 10%32),.int (y / 10 / 32)]) h R;rw[em];exact row (t:=.num m) (show m<=400 by omega) (λl' e=>by cases e) (by omega)
end
def ye(l:aI):aI×It:=(l++":",.bN l)
def nL(pre:List It)(p:aI×It):aI×It:=match p.2.lb with
 |some l=>if l∈cD pre then("",.aK) else p
 |none=>p
def iH:List It->List (aI×It)->List (aI×It)
 |_,[]=>[]
 |pre,p::r=>nL pre p::iH (pre++[p.2]) r
theorem Yo{p:aI×It}:∀{zs:List (aI×It)}{pre:List It},iH pre (zs++[p])=iH pre zs++[nL (pre++zs.map (·.2)) p]
 |[],pre=>by simp[iH]
 |x::zs,pre=>by rw[fT,iH,iH,Yo,dS,qL];rfl
theorem Vf{z:aI}{ts:List aI}:jN (.str z) (ts.map AV.str)=decide (z∈ts):=by
 by_cases h:z∈ts
 .rw[decide_eq_true h];unfold jN;rw[gp];exact⟨.str z,List.mem_map.mpr ⟨z,h,rfl⟩,by simp[iT]⟩
 .rw[decide_eq_false h];exact Ia h
theorem Ub{ts:List aI}:(ts.map AV.str).all eR=aB:=by rw[xA];intro x hx;obtain⟨t,_,rfl⟩:=List.mem_map.mp hx;rfl
section
variable {Xc:Nat->AH->Prop}{k:Nat}{h:AH}{R:AV->AH->Prop}
theorem Yp{n nl:Nat}{ps:List (Nat×aI×It)}{bE:List aI}(S:kK h n ps)(nb:∀p∈ps,p.2.2 ≠ .bad)(ol:h.ob nl=aA (.lst aB (bE.map AV.str)))(ll:nl<h.nx)(hl:∀l∈bE,dN (tl l))(len:ps.length<=80)(l8:bE.length<=8)
  (q:∀h' n' ps',Kp h h'->kK h' n' ps'->ps'.map (·.2)=iH [] (ps.map (·.2))++(bE.filter (λl=>decide (l∉cD (ps.map (·.2.2))))).map ye->R (.ref n') h'):WC Xc (run pg (k+1) Tv [.ref n,.ref nl]) h R:=by
 have big:sizeLine=16777216:=iB;refine eB rfl rfl (WB.of ?_);with_reducible refine mT (nX ?_)
 have k0:Kp h ((h.new (.lst aB [])).new (.lst aB [])):=Kp.refl.new.new;refine mS (k0.get S.lt S.ob) ?_;have o1:((h.new (.lst aB [])).new (.lst aB [])).ob h.nx=aA (.lst aB []):=(gH (bU (cQ _))).trans bO;have o2:((h.new (.lst aB [])).new (.lst aB [])).ob (h.new (.lst aB [])).nx=aA (.lst aB []):=bO;have n1:h.nx<(h.new (.lst aB [])).nx:=cQ _;have n2:(h.new (.lst aB [])).nx<((h.new (.lst aB [])).new (.lst aB [])).nx:=cQ _;generalize (h.new (.lst aB [])).new (.lst aB [])=h1 at k0 o1 o2 n2 ⊢;generalize (h.new (.lst aB [])).nx=m2 at o2 n1 n2 ⊢;generalize em:h.nx=m1 at o1 n1 ⊢;refine xi (bb:=aB) (xs:=ps.map λp=>AV.ref p.1) (λi σ h'=>(∃a b,σ=[aA (.ref n),aA (.ref nl),aA (.ref m1),aA (.ref m2),a,b])/\Kp h h'/\m2<h'.nx/\∃(qs:List (Nat×aI×It)) (seen:List aI),h'.ob m1=aA (.lst aB (qs.map λp=>.ref p.1))/\h'.ob m2=aA (.lst aB (seen.map AV.str))/\(∀p∈qs,m2<p.1/\p.1<h'.nx/\h'.ob p.1=aA (.lst aB [.str p.2.1,p.2.2.av]))/\qs.map (·.2)=iH [] ((ps.take i).map (·.2))/\qs.length=i/\seen.length<=i/\∀l,l∈seen↔l∈cD ((ps.take i).map (·.2.2))) (by rw[aV,fF];omega) ⟨⟨_,_,rfl⟩,k0,n2,[],[],o1,o2,λp hp=>(nomatch hp),rfl,rfl,cB _,λl=>⟨λz=>(by cases z),λz=>(by cases z)⟩⟩ (λi σ h' y=>y.2.1.get S.lt S.ob) ?_ ?_
 .rintro i x σ h' hx ⟨⟨a,b,rfl⟩,kp,lm,qs,seen,e1,e2,e3,e4,e5,e6,e7⟩
  obtain⟨p,hp,rfl⟩:=fX hx;have hpm:=fQ hp;have hi:=(List.getElem?_eq_some_iff.mp hp).1;have op:=kp.get (S.it p hpm).1 (S.it p hpm).2;obtain⟨m0,z,it⟩:=p;have et:((ps.take (i+1)).map (·.2))=(ps.take i).map (·.2)++[(z,it)]:=by rw[gM,hp,dA];rfl
  have ei:((ps.take (i+1)).map (·.2.2))=(ps.take i).map (·.2.2)++[it]:=by rw[gM,hp,dA];rfl
  have ec:((ps.take i).map (·.2)).map (·.2)=(ps.take i).map (·.2.2):=by rw[lD];rfl
  have es:iH [] ((ps.take (i+1)).map (·.2))=iH [] ((ps.take i).map (·.2))++[nL ((ps.take i).map (·.2.2)) (z,it)]:=by rw[et,Yo,hW,ec]
  have app:∀{z':aI} {it':It}{V:AV->AH->Prop},(∀h2,Kp h h2->m2<h2.nx->h2.ob m1=aA (.lst aB ((qs++[(h'.nx,z',it')]).map λp=>.ref p.1))->h2.ob m2=aA (.lst aB (seen.map AV.str))->(∀p∈qs++[(h'.nx,z',it')],m2<p.1/\p.1<h2.nx/\h2.ob p.1=aA (.lst aB [.str p.2.1,p.2.2.av]))->V .aK h2)->aM (iX h' (.ref m1)) (WC Xc (kP (.ref m1) (.ref h'.nx)) (h'.new (.lst aB [.str z',it'.av])) V) False:=λ{z' it' V} qq=>by
   have l1:m1<h'.nx:=tu n1 lm;refine aM.t (oV e1) (WC.of (wR ((gH (bU l1)).trans e1) (by rw[aV];omega) (qq _ (kp.new.put (by omega)) (lV lm) (by rw[rO,dA];rfl) ((tU (pJ n1)).trans ((gH (bU lm)).trans e2)) λp hp=>?_)));rcases List.mem_append.mp hp with hp|hp
   .obtain⟨a1,a2,a3⟩:=e3 p hp;exact⟨a1,lV a2,(tU (by omega)).trans ((gH (bU a2)).trans a3)⟩
   .rw[List.mem_singleton.mp hp];exact⟨lm,cQ _,(tU (by show h'.nx≠m1;omega)).trans bO⟩
  refine kY _ (bI.of (dR op) (jE _ ?_));have other:it.lb=aD->∀h2,Kp h h2->m2<h2.nx->h2.ob m1=aA (.lst aB ((qs++[(h'.nx,z,it)]).map λp=>.ref p.1))->h2.ob m2=aA (.lst aB (seen.map AV.str))->(∀p∈qs++[(h'.nx,z,it)],m2<p.1/\p.1<h2.nx/\h2.ob p.1=aA (.lst aB [.str p.2.1,p.2.2.av]))->(∃a b,[aA (AV.ref n),aA (.ref nl),aA (.ref m1),aA (.ref m2),aA (.str z),aA it.av]=[aA (.ref n),aA (.ref nl),aA (.ref m1),aA (.ref m2),a,b])/\Kp h h2/\m2<h2.nx/\∃(qs:List (Nat×aI×It)) (seen:List aI),h2.ob m1=aA (.lst aB (qs.map λp=>.ref p.1))/\h2.ob m2=aA (.lst aB (seen.map AV.str))/\(∀p∈qs,m2<p.1/\p.1<h2.nx/\h2.ob p.1=aA (.lst aB [.str p.2.1,p.2.2.av]))/\qs.map (·.2)=iH [] ((ps.take (i+1)).map (·.2))/\qs.length=i+1/\seen.length<=i+1/\∀l,l∈seen↔l∈cD ((ps.take (i+1)).map (·.2.2)):=λhlb h2 k2 l2 a1 a2 a3=>by
   refine⟨⟨_,_,rfl⟩,k2,l2,_,seen,a1,a2,a3,?_,by rw[fP,e5];rfl,by omega,λl=>?_⟩
   .rw[es,dA,e4];unfold nL;rw[hlb];rfl
   .rw[e7 l,ei,yP];unfold cD;rw[sr (f:=It.lb) hlb,II,iS]
  cases it with
  |bad=>exact absurd rfl (nb _ hpm)|aK=>exact app (z':=z) (it':=.aK) (other rfl)|row r=>exact app (z':=z) (it':=.row r) (other rfl)|bN l=>
   refine WC.of (Me (x:=.str l) (xs:=seen.map AV.str) (dR e2) (by rw[Ub];rfl) ?_);rw[Vf];refine aM.dc (λhm=>app (z':="") (it':=.aK) λh2 k2 l2 a1 a2 a3=>⟨⟨_,_,rfl⟩,k2,l2,_,seen,a1,a2,a3,?_,by rw[fP,e5];rfl,by omega,λl'=>?_⟩) λhm=>app (z':=z) (it':=.bN l) λh2 k2 l2 a1 a2 a3=>?_
   .rw[es,dA,e4];unfold nL;show _=_++[if l∈cD ((ps.take i).map (·.2.2)) then _ else _];rw[if_pos ((e7 l).mp hm)];rfl
   .rw[e7 l',ei,yP];show _↔l'∈_++[l];rw[sJ,ae];exact⟨.inl,λz=>z.elim id λz=>by rw[z];exact(e7 l).mp hm⟩
   .refine aM.t (oV a2) (WC.of (wR a2 (by rw[aV];omega) ⟨⟨_,_,rfl⟩,k2.put (by omega),l2,_,seen++[l],(tU (bU n1)).trans a1,by rw[rO,dA];rfl,λp hp=>?_,?_,by rw[fP,e5];rfl,by rw[fP,uN];omega,λl'=>?_⟩))
    .obtain⟨b1,b2,b3⟩:=a3 p hp;exact⟨b1,b2,(tU (pJ b1)).trans b3⟩
    .rw[es,dA,e4];unfold nL;show _=_++[if l∈cD ((ps.take i).map (·.2.2)) then _ else _];rw[if_neg λz=>hm ((e7 l).mpr z)];rfl
    .rw[ei,yP,sJ,ae,e7 l'];show _↔l'∈_++[l];rw[sJ,ae]
 .rintro σ h' ⟨⟨a,b,rfl⟩,kp,lm,qs,seen,e1,e2,e3,e4,e5,e6,e7⟩
  rw[aV]at e4 e5 e6 e7;rw[jG]at e4 e7;have ol':=kp.get ll ol;refine WC.of (zV (nX (mS ol' ?_)));refine xX (bb:=aB) (xs:=bE.map AV.str) (λi ys σ h2=>(∃a,σ=[a,aA (.ref m2)])/\Kp h' h2/\∃rs:List (Nat×aI×It),ys=rs.map (λp=>AV.ref p.1)/\(∀p∈rs,p.1<h2.nx/\h2.ob p.1=aA (.lst aB [.str p.2.1,p.2.2.av]))/\rs.length<=i/\rs.map (·.2)=((bE.take i).filter (λl=>decide (l∉cD (ps.map (·.2.2))))).map ye) (by rw[aV,fF];omega) ⟨⟨_,rfl⟩,Kp.refl,[],rfl,λp hp=>(nomatch hp),cB _,rfl⟩ (λi ys σ h2 y=>y.2.1.get (cP ll kp.nx) ol') ?_ ?_
  .rintro i x ys σ h2 hx ⟨⟨a,rfl⟩,k2,rs,rfl,r1,r2,r3⟩
   obtain⟨l,hp,rfl⟩:=fX hx;have hi:=(List.getElem?_eq_some_iff.mp hp).1;have rl:=km (hl l (fQ hp));have et:bE.take (i+1)=bE.take i++[l]:=by rw[gM,hp];rfl
   refine uF (mR _ (WC.of (aGs (dR (k2.get lm e2)) (by rw[Ub];rfl) ?_)));rw[Vf];refine aM.ite (aM.nd (λhm=>bR _ (WC.of (kZ (i:=l) (j:=":") (by show _+1<=_;omega) ⟨by rw[aV];omega,⟨_,rfl⟩,k2.new,rs++[(h2.nx,l++":",.bN l)],by rw[dA];rfl,λp hp=>?_,by rw[fP,uN];omega,?_⟩))) λhm=>⟨⟨_,rfl⟩,k2,rs,rfl,r1,by omega,?_⟩)
   .rcases List.mem_append.mp hp with hp|hp
    .exact⟨lV (r1 p hp).1,(gH (bU (r1 p hp).1)).trans (r1 p hp).2⟩
    .rw[List.mem_singleton.mp hp];exact⟨cQ _,bO⟩
   .rw[et,pE,dA,dA,r3];rw[Nv (by simpa using λz=>hm ((e7 l).mpr z))];rfl
   .rw[et,pE,dA,r3,Nu (by simpa using (e7 l).mp hm)];simp
  .rintro ys σ h2 ⟨⟨a,rfl⟩,k2,rs,rfl,r1,r2,r3⟩
   rw[aV]at r2 r3;rw[jG]at r3;have l2:m1<h'.nx:=tu n1 lm;refine WC.of (Bw ((gH (bU (cP l2 k2.nx))).trans (k2.get l2 e1)) bO (by rw[aV,aV];omega) (q _ _ (qs++rs) (kp.trans k2.new.new) ⟨cQ _,by rw[bO,dA],λp hp=>?_⟩ ?_))
   .have key:p.1<h2.nx/\h2.ob p.1=aA (.lst aB [.str p.2.1,p.2.2.av]):=by
     rcases List.mem_append.mp hp with hp|hp
     .obtain⟨_,b2,b3⟩:=e3 p hp;exact⟨cP b2 k2.nx,k2.get b2 b3⟩
     .exact r1 p hp
    exact⟨lV (lV key.1),(Kp.refl.new.new).get key.1 key.2⟩
   .rw[dA,e4,r3]
end
def It.bt:It->BT
 |.aK=>.aK | .bN _=>.str | .bad=>.str | .row _=>.tup
theorem vw{h:AH}{it:It}:rA h it.av=aA it.bt:=by cases it<;>rfl
def lY(M:Nat)(p p':aI×It):Prop:=(∃r m r',p.2 = .row r/\r.tg=aA (.num m)/\p'.2 = .row r'/\r'.tg=aA (.num (m%(M+1)))/\Raw p'.1 p'.2)\/((∀r m,p.2 = .row r->r.tg≠aA (.num m))/\p'=p)
section
variable {Xc:Nat->AH->Prop}{k:Nat}{h:AH}{R:AV->AH->Prop}
theorem aFi{i j m:Nat}{a b:AV}{σ:aH}{Q:aH->AH->Prop}(e:h.ob m=aA (.lst aB [a,b]))(q:Q ((σ.set i (aA a)).set j (aA b)) h):We Xc (pN (.tup [i,j]) (.ref m) σ) h Q:=by show We Xc (tL 2 (jh [i,j]) (.ref m) σ) h Q;unfold We tL;simp only[eD,e];exact q
theorem Xu{n:Nat}{ps:List (Nat×aI×It)}(S:kK h n ps)(hr:∀p∈ps,Raw p.2.1 p.2.2)(len:ps.length<=90)
  (q:∀h' n' ps',Kp h h'->kK h' n' ps'->ps'.length=ps.length->(∀(i:Nat) p p',ps[i]?=aA p->ps'[i]?=aA p'->lY (bJ (ps.map (·.2.2))) p.2 p'.2)->R (.ref n') h'):WC Xc (run pg (k+2) SN [.ref n]) h R:=by
 have big:sizeLine=16777216:=iB;refine eB rfl rfl (WC.of (zV (nX (mS S.ob ?_))));refine xX (bb:=aB) (xs:=ps.map λp=>AV.ref p.1) (λi ys σ h'=>h'=h/\(∃a b,σ=[a,b])/\ys.length=bJ ((ps.take i).map (·.2.2))/\ys.length<=i) (by rw[aV,fF];omega) ⟨rfl,⟨_,_,rfl⟩,rfl,cB _⟩ (λi ys σ h' y=>by rw[y.1];exact S.ob) ?_ ?_
 .rintro i x ys σ h' hx ⟨rfl,⟨a,b,rfl⟩,e1,e2⟩
  obtain⟨⟨m0,z,it⟩,hp,rfl⟩:=fX hx;have hpm:=fQ hp;have hi:=(List.getElem?_eq_some_iff.mp hp).1;have ei:bJ ((ps.take (i+1)).map (·.2.2))=bJ ((ps.take i).map (·.2.2))+it.rw:=by rw[gM,hp,dA,Ap];exact congrArg _ Aq
  refine aFi (S.it _ hpm).2 (mR _ (bI.of vw (aM.ite (aM.by (λeb=>bR _ ⟨by omega,rfl,⟨_,_,rfl⟩,?_,by rw[fP,uN];omega⟩) λeb=>⟨rfl,⟨_,_,rfl⟩,?_,by omega⟩))))
  .rw[fP,ei,e1];cases it<;>first|rfl|cases eb
  .rw[ei,e1];cases it<;>first|rfl|cases eb
 .rintro ys σ h' ⟨rfl,⟨a,b,rfl⟩,e1,e2⟩
  rw[aV,jG]at e1;rw[aV]at e2;refine WC.of (zS (dR bO) ?_);rw[e1];generalize hM:bJ (ps.map (·.2.2))=M at q e1 ⊢;have hM2:M<=90:=by omega
  have k0:Kp h' (h'.new (.lst aB ys)):=Kp.refl.new;generalize h'.new (.lst aB ys)=h1 at k0 ⊢;refine WB.of ?_;with_reducible refine mT (nX ?_)
  have k1:Kp h' (h1.new (.lst aB [])):=k0.new;have o1:(h1.new (.lst aB [])).ob h1.nx=aA (.lst aB []):=bO;have n1:h1.nx<(h1.new (.lst aB [])).nx:=cQ _;have n0:=k0.nx;generalize h1.new (.lst aB [])=h2 at k1 o1 n1 ⊢;generalize h1.nx=m1 at o1 n1 n0 ⊢;refine mS (k1.get S.lt S.ob) ?_;refine xi (bb:=aB) (xs:=ps.map λp=>AV.ref p.1) (λi σ h3=>(∃a b,σ=[aA (.ref n),aA (.int M),aA (.ref m1),a,b])/\Kp h' h3/\m1<h3.nx/\∃qs:List (Nat×aI×It),h3.ob m1=aA (.lst aB (qs.map λp=>.ref p.1))/\(∀p∈qs,p.1≠m1/\p.1<h3.nx/\h3.ob p.1=aA (.lst aB [.str p.2.1,p.2.2.av]))/\qs.length=i/\∀(j:Nat) p p',ps[j]?=aA p->qs[j]?=aA p'->lY M p.2 p'.2) (by rw[aV,fF];omega) ⟨⟨_,_,rfl⟩,k1,n1,[],o1,λp hp=>(nomatch hp),rfl,λj p p' _ e=>by simp at e⟩ (λi σ h3 y=>y.2.1.get S.lt S.ob) ?_ ?_
  .rintro i x σ h3 hx ⟨⟨a,b,rfl⟩,kp,lm,qs,e3,e4,e5,e6⟩
   obtain⟨p,hp,rfl⟩:=fX hx;have hpm:=fQ hp;have hi:=(List.getElem?_eq_some_iff.mp hp).1;have op:=kp.get (S.it p hpm).1 (S.it p hpm).2;have raw:=hr p hpm;obtain⟨m0,z,it⟩:=p;have app:∀{h4:AH} {m':Nat} {z':aI} {it':It},Kp h3 h4->m'<h4.nx->h4.ob m'=aA (.lst aB [.str z',it'.av])->lY M (z,it) (z',it')->WC Xc (kP (.ref m1) (.ref m')) h4 λ_ h5=>(∃a b,[aA (AV.ref n),aA (.int M),aA (.ref m1),aA (.str z),aA it.av]=[aA (.ref n),aA (.int M),aA (.ref m1),a,b])/\Kp h' h5/\m1<h5.nx/\∃qs:List (Nat×aI×It),h5.ob m1=aA (.lst aB (qs.map λp=>.ref p.1))/\(∀p∈qs,p.1≠m1/\p.1<h5.nx/\h5.ob p.1=aA (.lst aB [.str p.2.1,p.2.2.av]))/\qs.length=i+1/\∀(j:Nat) p p',ps[j]?=aA p->qs[j]?=aA p'->lY M p.2 p'.2:=λ{h4 m' z' it'} k4 l4 o4 lr=>by
    have e34:=k4.get lm e3;have ne:m'≠m1:=λe=>by
     rw[e,e34]at o4;injection o4 with o4;injection o4 with _ o4;cases qs with
     |nil=>cases o4|cons y ys=>rw[dS,pC]at o4;cases o4.1
    refine WC.of (wR e34 (by rw[aV];omega) ⟨⟨_,_,rfl⟩,(kp.trans k4).put n0,cP lm k4.nx,qs++[(m',z',it')],by rw[rO,dA];rfl,λp hp=>?_,by rw[fP,e5];rfl,λj p p' ej ej'=>?_⟩)
    .rcases List.mem_append.mp hp with hp|hp
     .obtain⟨a1,a2,a3⟩:=e4 p hp;exact⟨a1,cP a2 k4.nx,(tU a1).trans (k4.get a2 a3)⟩
     .rw[List.mem_singleton.mp hp];exact⟨ne,l4,(tU ne).trans o4⟩
    .by_cases hj:j<qs.length
     .rw[uL hj]at ej';exact e6 j p p' ej ej'
     .have hj2:j<qs.length+1:=by have:=(List.getElem?_eq_some_iff.mp ej').1;simpa using this
      have:j=qs.length:=by omega
      subst this;rw[e5,hp]at ej;cases ej;have:(m',z',it')=p':=by simpa using ej'
      subst this;exact lr
   have same:(∀r m,it = .row r->r.tg≠aA (.num m))->aM (iX h3 (.ref m1)) (WC Xc (kP (.ref m1) (.ref h3.nx)) (h3.new (.lst aB [.str z,it.av])) λ_ h5=>(∃a b,[aA (AV.ref n),aA (.int M),aA (.ref m1),aA (.str z),aA it.av]=[aA (.ref n),aA (.int M),aA (.ref m1),a,b])/\Kp h' h5/\m1<h5.nx/\∃qs:List (Nat×aI×It),h5.ob m1=aA (.lst aB (qs.map λp=>.ref p.1))/\(∀p∈qs,p.1≠m1/\p.1<h5.nx/\h5.ob p.1=aA (.lst aB [.str p.2.1,p.2.2.av]))/\qs.length=i+1/\∀(j:Nat) p p',ps[j]?=aA p->qs[j]?=aA p'->lY M p.2 p'.2) False:=λhh=>aM.t (oV e3) (app Kp.refl.new (cQ _) bO (.inr ⟨hh,rfl⟩));refine kY _ (bI.of (dR op) (jE _ ?_));cases it with
   |aK=>exact same λr m e=>by cases e
   |bN l=>exact same λr m e=>by cases e
   |bad=>exact same λr m e=>by cases e
   |row r=>
    have oth:(∀m,r.tg≠aA (.num m))->∀r' m,It.row r = .row r'->r'.tg≠aA (.num m):=λhh r' m e=>by cases e;exact hh m
    have em:∀m:Nat,(m:Int)%((M:Int)+1)=((m%(M+1):Nat):Int):=λm=>by rw[show((M:Int)+1)=((M+1:Nat):Int) by omega];exact(Int.natCast_emod m (M+1)).symm
    have tln:∀{m:Nat}{v:Int}{h4:AH},Kp h3 h4->(TT.num m).ok->r.tg=aA (.num m)->0<=v->WC Xc (run pg (k+1) jm [.int ((m:Int)%((M:Int)+1)),.int v]) h4 λy h4=>WC Xc (kP (.ref m1) y) h4 λ_ h5=>(∃a b,[aA (AV.ref n),aA (.int M),aA (.ref m1),aA (.str z),aA r.av]=[aA (.ref n),aA (.int M),aA (.ref m1),a,b])/\Kp h' h5/\m1<h5.nx/\∃qs:List (Nat×aI×It),h5.ob m1=aA (.lst aB (qs.map λp=>.ref p.1))/\(∀p∈qs,p.1≠m1/\p.1<h5.nx/\h5.ob p.1=aA (.lst aB [.str p.2.1,p.2.2.av]))/\qs.length=i+1/\∀(j:Nat) p p',ps[j]?=aA p->qs[j]?=aA p'->lY M p.2 p'.2:=λ{m v h4} k4 ht tg hv=>by have hm:m<=400:=ht;rw[em m];refine DM (t:=.num (m%(M+1))) (show m%(M+1)<=400 from eN (Nat.mod_le _ _) hm) hv λh5 m5 z5 r5 k5 l5 o5 raw5 tg5=>?_;exact app (it':=.row r5) (k4.trans k5) l5 o5 (.inl ⟨r,m,r5,rfl,tg,rfl,tg5,raw5⟩)
    refine bI.of pO (aM.dc (λe1=>?_) λe1=>bI.of pO (aM.dc (λe2=>?_) λe2=>same (oth λm e=>?_)))
    .obtain⟨x,t,rfl⟩:=Io e1;cases t with
     |bN l=>exact same (oth λm e=>by cases e)|num m=>refine wTt (aM.t (oV e3) ?_);refine aM.dt (c:=0<(M:Int)+1) (by omega) ?_;exact WC.of (iL (dR bO) (v:=.int (1+3*x)) rfl (tln Kp.refl.new raw.ok.2 rfl (by omega)))
    .obtain⟨t,rfl⟩:=Im e2;cases t with
     |bN l=>exact same (oth λm e=>by cases e)|num m=>refine aM.t (oV e3) ?_;refine aM.dt (c:=0<(M:Int)+1) (by omega) ?_;exact WC.of (iL (dR bO) (v:=.int 0) rfl (tln (v:=0) Kp.refl.new raw.ok rfl (by decide)))
    .cases r with
     |gF x t=>exact e1 rfl|go t=>exact e2 rfl|_=>cases e
  .rintro σ h3 ⟨⟨a,b,rfl⟩,kp,lm,qs,e3,e4,e5,e6⟩
   rw[aV]at e5;exact q _ _ qs kp ⟨lm,e3,λp hp=>(e4 p hp).2⟩ e5 e6
theorem aBp{n:Nat}{ps:List (Nat×aI×It)}(S:kK h n ps)(hr:∀p∈ps,p.2.2.ok)(len:ps.length<=100)
  (q:∀h' m d aE,Kp h h'->d<h'.nx->h'.ob m=aA (.lst aB [.ref d,.int (bJ (ps.map (·.2.2)))])->h'.ob d=aA (.bQ aE)->(∀i,bT aE (.inl i)=aD)->(∀l,dN (tl l)->bT aE (.inr l)=dI (cF (ps.map (·.2.2)) 0 l))->R (.ref m) h'):WC Xc (run pg (k+1) SU [.ref n]) h R:=by
 have big:sizeLine=16777216:=iB;have vp:¬dN (tl ("BAD":aI)):=λz=>absurd (z.2.1 66 (by decide +kernel)) (by omega);refine eB rfl rfl (WB.of ?_);with_reducible refine mT (nX ?_)
 have k0:Kp h (h.new (.bQ [])):=Kp.refl.new;have o0:(h.new (.bQ [])).ob h.nx=aA (.bQ []):=bO;have n0:h.nx<(h.new (.bQ [])).nx:=cQ _;generalize em:h.nx=d at o0 n0 ⊢;generalize h.new (.bQ [])=h1 at k0 o0 n0 ⊢;refine mS (k0.get S.lt S.ob) ?_;refine xi (bb:=aB) (xs:=ps.map λp=>AV.ref p.1) (λi σ h'=>(∃a b,σ=[aA (.ref n),aA (.ref d),aA (.int (bJ ((ps.take i).map (·.2.2)))),a,b])/\Kp h h'/\d<h'.nx/\∃aE,h'.ob d=aA (.bQ aE)/\aE.length<=i/\(∀i,bT aE (.inl i)=aD)/\∀l,dN (tl l)->bT aE (.inr l)=dI (cF ((ps.take i).map (·.2.2)) 0 l)) (by rw[aV,fF];omega) ⟨⟨_,_,rfl⟩,k0,n0,[],o0,cB _,λ_=>rfl,λ_ _=>rfl⟩ (λi σ h' y=>y.2.1.get S.lt S.ob) ?_ ?_
 .rintro i x σ h' hx ⟨⟨a,b,rfl⟩,kp,ld,aE,od,lk,v1,v2⟩
  obtain⟨p,hp,rfl⟩:=fX hx;have hpm:=fQ hp;have hi:=(List.getElem?_eq_some_iff.mp hp).1;have op:=kp.get (S.it p hpm).1 (S.it p hpm).2;have ok:=hr p hpm;obtain⟨m0,z,it⟩:=p;have ei:(ps.take (i+1)).map (·.2.2)=(ps.take i).map (·.2.2)++[it]:=by rw[gM,hp,dA];rfl
  have er:bJ ((ps.take (i+1)).map (·.2.2))=bJ ((ps.take i).map (·.2.2))+it.rw:=by rw[ei,Ap,Aq]
  have same:(it.lb=aD\/∃l,it.lb=aA l/\∃v,cF ((ps.take i).map (·.2.2)) 0 l=aA v)->∀l',cF ((ps.take (i+1)).map (·.2.2)) 0 l'=cF ((ps.take i).map (·.2.2)) 0 l':=λhh l'=>by
   rw[ei,Bc];rcases hh with hh|⟨l,hh,v,hv⟩
   .rw[hh,if_neg (by simp),uc]
   .by_cases e:l=l'
    .subst e;rw[hv];rfl
    .rw[hh,if_neg (λz=>e (dB z)),uc]
  have put:∀{u:aI},(∀l',dN (tl l')->(if u=l' then aA (AV.int (bJ ((ps.take i).map (·.2.2)))) else dI (cF ((ps.take i).map (·.2.2)) 0 l'))=dI (cF ((ps.take (i+1)).map (·.2.2)) 0 l'))->it.rw=0->WC Xc (nB (run pg k) (.sub (.var 1) (.var 4)) (.int (bJ ((ps.take i).map (·.2.2)))) [aA (.ref n),aA (.ref d),aA (.int (bJ ((ps.take i).map (·.2.2)))),aA (.str z),aA (.str u)]) h' λσ1 h5=>(∃a b,σ1=[aA (.ref n),aA (.ref d),aA (.int (bJ ((ps.take (i+1)).map (·.2.2)))),a,b])/\Kp h h5/\d<h5.nx/\∃aE,h5.ob d=aA (.bQ aE)/\aE.length<=i+1/\(∀i,bT aE (.inl i)=aD)/\∀l,dN (tl l)->bT aE (.inr l)=dI (cF ((ps.take (i+1)).map (·.2.2)) 0 l):=λ{u} hh hw=>by
   refine WC.of (FI (gZ rfl (gZ rfl ⟨d,aE,.inr u,rfl,rfl,od,by omega,?_⟩)));refine⟨⟨_,_,by rw[er,hw];rfl⟩,kp.put (by omega),ld,_,rO,?_,λj=>?_,λl hl=>?_⟩
   .unfold jP;split
    .rw[aV];omega
    .rw[fP,uN];omega
   .rw[Lv,if_neg (by simp)];exact v1 j
   .rw[Lv,<- hh l hl,v2 l hl];by_cases e:u=l
    .rw[if_pos (by rw[e]),if_pos e]
    .rw[if_neg (λz=>e (Pk z)),if_neg e]
  refine kY _ (bI.of (dR op) (jE _ ?_));cases it with
  |row r=>refine⟨⟨aA (.str z),aA r.av,?_⟩,kp,ld,aE,od,by omega,v1,λl hl=>by rw[same (.inl rfl)];exact v2 l hl⟩;rw[er];show[_,_,aA (AV.int (((bJ ((ps.take i).map (·.2.2)):Nat):Int)+1)),_,_]=_;rw[show((bJ ((ps.take i).map (·.2.2)):Nat):Int)+1=((bJ ((ps.take i).map (·.2.2))+1:Nat):Int) by omega];rfl
  |aK=>exact⟨⟨aA (.str z),aA .aK,by rw[er];rfl⟩,kp,ld,aE,od,by omega,v1,λl hl=>by rw[same (.inl rfl)];exact v2 l hl⟩|bad=>refine WC.of (Bz (y:=.str "BAD") od rfl (aM.by (λhb=>put (u:="BAD") (λl' hl'=>?_) rfl) λhb=>⟨⟨aA (.str z),aA (.str "BAD"),by rw[er];rfl⟩,kp,ld,aE,od,by omega,v1,λl hl=>by rw[same (.inl rfl)];exact v2 l hl⟩));rw[if_neg (λz=>vp (by rw[z];exact hl')),same (.inl rfl)]
  |bN l=>
   refine WC.of (Bz (y:=.str l) od rfl ?_);rw[v2 l ok];cases hs:cF ((ps.take i).map (·.2.2)) 0 l with
   |some v=>exact⟨⟨aA (.str z),aA (.str l),by rw[er];rfl⟩,kp,ld,aE,od,by omega,v1,λl' hl'=>by rw[same (.inr ⟨l,rfl,v,hs⟩)];exact v2 l' hl'⟩|none=>
    refine put (u:=l) (λl' hl'=>?_) rfl;rw[ei,Bc];by_cases e:l=l'
    .subst e;rw[if_pos rfl,hs,show It.lb (.bN l)=aA l from rfl,if_pos rfl];rfl
    .rw[if_neg e,show It.lb (.bN l)=aA l from rfl,if_neg (λz=>e (dB z)),uc]
 .rintro σ h' ⟨⟨a,b,rfl⟩,kp,ld,aE,od,lk,v1,v2⟩
  rw[aV,jG]at v2;refine q _ _ d aE kp.new (lV ld) ?_ ((gH (bU ld)).trans od) v1 v2;rw[bO,aV,jG]
end
def It.bd:It->Bool
 |.bad=>aB|_=>aF
theorem Jf{its:List It}:(its.map It.av).all nK=aB:=by rw[xA];intro x hx;obtain⟨it,_,rfl⟩:=List.mem_map.mp hx;cases it<;>rfl
theorem xf{it:It}(ok:it.ok):iT it.av (.str "BAD")=it.bd:=by
 cases it with
 |aK=>rfl|row r=>rfl|bad=>rfl|bN l=>show(l==("BAD":aI))=aF;rw[beq_eq_false_iff_ne];intro e;have ok:dN (tl l):=ok;rw[e]at ok;exact absurd (ok.2.1 66 (by decide +kernel)) (by omega)
theorem VX{its:List It}(ok:∀it∈its,it.ok):jN (.str "BAD") (its.map It.av)=its.any It.bd:=by unfold jN;rw[De,uJ,gp,gp];exact⟨λ⟨x,hx,e⟩=>⟨x,hx,by rw[<- xf (ok x hx)];exact e⟩,λ⟨x,hx,e⟩=>⟨x,hx,by show iT x.av _=aB;rw[xf (ok x hx)];exact e⟩⟩
theorem VY{its:List It}{l:aI}(hl:dN (tl l)):jN (.str l) (its.map It.av)=decide (l∈cD its):=by
 unfold jN cD;rw[De,uJ,gp,decide_eq_true_eq,List.mem_filterMap];refine⟨λ⟨x,hx,e⟩=>⟨x,hx,?_⟩,λ⟨x,hx,e⟩=>⟨x,hx,?_⟩⟩
 .have e:iT x.av (.str l)=aB:=e;cases x with
  |bN l'=>rw[show l'=l from eq_of_beq e];rfl|bad=>have:("BAD":aI)=l:=eq_of_beq e;rw[<- this]at hl;exact absurd (hl.2.1 66 (by decide +kernel)) (by omega)
  |aK=>cases e|row r=>cases e
 .cases x with
  |bN l'=>have e:l'=l:=dB e;subst e;show(l'==l')=aB;exact beq_self_eq_true _
  |_=>cases e
def Q1(n d M m3 m4:Nat)(σ:aH):Prop:=∃a b c e f,σ=[aA (.ref n),aA (.ref d),aA (.int M),aA (.ref m3),aA (.ref m4),a,b,c,e,f]
def Q2(n d M m7:Nat)(σ:aH):Prop:=∃a b c e f g,σ=[aA (.ref n),aA (.ref d),aA (.int M),c,e,a,b,aA (.ref m7),f,g]
def MK(h:AH)(m:Nat):Rs->Prop
 |.row i=>h.ob m=aA (.lst aB [.str "row",.int i])
 |.twice i=>h.ob m=aA (.lst aB [.str "twice",.int i])
 |.label i=>h.ob m=aA (.lst aB [.str "label",.int i])
 |.told rs=>∃n,n<h.nx/\h.ob m=aA (.lst aB [.str "told",.ref n])/\h.ob n=aA (.lst aB (rs.map Rk.av))
theorem aEf{its:List It}{rs:List Rk}(h:(its.filterMap It.rk).map (gE its)=rs.map aA):rs=its.filterMap (jf its):=by
 have e:its.filterMap (jf its)=(its.filterMap It.rk).filterMap (gE its):=by rw[IH];rfl
 rw[e];exact(He h).symm
section
variable {Xc:Nat->AH->Prop}{k:Nat}{h:AH}{R:AV->AH->Prop}
theorem FP{n:Nat}{b:Bool}{u:aI}{xs:List AV}{V1:AV->AH->Prop}(e:h.ob n=aA (.lst b xs))(m:xs.all nK=aB)(q:V1 (.bl (jN (.str u) xs)) h):We Xc (Cp.g .oU (.str u) (.ref n)) h V1:=by
 show We Xc (jM aF (.str u) (.ref n)) h V1;unfold We jM;simp only[fG,e];unfold pU;simp only[eD,e];by_cases hf:(eR (.str u)&&xs.all eR)=aB
 .rw[if_pos hf];exact q
 .rw[if_neg hf,if_pos (show(!aF&&Lf (.str u)&&xs.all nK)=aB by rw[m];rfl)];exact q
theorem aGk{n j:Nat}{u:aI}{xs:List AV}{V1:AV->AH->Prop}(e:h.ob n=aA (.lst aB xs))(m:xs.all nK=aB)(f:xs.findIdx? (λy=>iT y (.str u))=aA j)(q:V1 (.int (j:Nat)) h):We Xc (vL (.ref n) (.str u)) h V1:=by unfold We vL;simp only[e,if_pos m,f];exact q
theorem Tc{n:Nat}{ps:List (Nat×aI×It)}(S:kK h n ps)(hr:∀p∈ps,p.2.2.ok)(len:ps.length<=100)
  (q:∀h' m d,Kp h h'->m<h'.nx->Due (ps.map (·.2.2)) d->MK h' m d->R (.ref m) h'):WC Xc (run pg (k+2) SI [.ref n]) h R:=by
 have big:sizeLine=16777216:=iB;refine eB rfl rfl (aBp (k:=k) S hr len λh1 m d aE k1 ld om od v1 v2=>bI.of (dR om) ?_);have dw:∀it∈ps.map (·.2.2),it.ok:=λit hi=>by obtain⟨p,hp,rfl⟩:=List.mem_map.mp hi;exact hr p hp
 have gets:∀{i:Nat}{p:Nat×aI×It},ps[i]?=aA p->(ps.map (·.2.2))[i]?=aA p.2.2:=λ{i p} e=>by rw[gK,e];rfl
 have itl:(ps.map (·.2.2)).length=ps.length:=aV _;have S1:=S.kp k1;refine WC.of (zU (nX (mS S1.ob ?_)));refine Gq (bb:=aB) (xs:=ps.map λp=>AV.ref p.1) (λi ys σ h'=>h'=h1/\(∃a,σ=[a])/\ys=((ps.map (·.2.2)).take i).map It.av) (by rw[aV,fF];omega) ⟨rfl,⟨_,rfl⟩,rfl⟩ (λi ys σ h' y=>by rw[y.1];exact S1.ob) ?_ ?_
 .rintro i x ys σ h' hx ⟨rfl,⟨a,rfl⟩,rfl⟩
  obtain⟨p,hp,rfl⟩:=fX hx;have hi:=(List.getElem?_eq_some_iff.mp hp).1;refine uF (bR _ (WC.of (iL (dR (S1.it p (fQ hp)).2) bp ⟨?_,rfl,⟨_,rfl⟩,?_⟩)))
  .rw[aV,eT];omega
  .rw[gM,gets hp,dA];rfl
 rintro ys σ h' ⟨rfl,⟨a,rfl⟩,rfl⟩
 rw[aV,qQ (by omega)];have k2:Kp h (h'.new (.lst aB ((ps.map (·.2.2)).map It.av))):=k1.new;have o2:(h'.new (.lst aB ((ps.map (·.2.2)).map It.av))).ob h'.nx=aA (.lst aB ((ps.map (·.2.2)).map It.av)):=bO;have d2:(h'.new (.lst aB ((ps.map (·.2.2)).map It.av))).ob d=aA (.bQ aE):=(gH (bU ld)).trans od;have ld2:d<(h'.new (.lst aB ((ps.map (·.2.2)).map It.av))).nx:=lV ld;have l3:h'.nx<(h'.new (.lst aB ((ps.map (·.2.2)).map It.av))).nx:=cQ _;have S2:=S1.kp (Kp.refl.new (o:=.lst aB ((ps.map (·.2.2)).map It.av)));generalize h'.nx=m3 at o2 l3 ⊢;generalize h'.new (.lst aB ((ps.map (·.2.2)).map It.av))=h2 at k2 o2 d2 ld2 l3 S2 ⊢;clear od ld S1 om k1;refine WC.of (FP o2 Jf ?_);rw[VX dw];generalize jX:ps.map (·.2.2)=its at *;refine aM.by (λhb=>?_) λhb=>?_
 .obtain⟨j,hj⟩:∃j,(its.map It.av).findIdx? (λy=>iT y (.str "BAD"))=aA j:=by
   cases e:(its.map It.av).findIdx? (λy=>iT y (.str "BAD")) with
   |some j=>exact⟨j,rfl⟩|none=>rw[aJn]at e;obtain⟨x,hx,ex⟩:=List.any_eq_true.mp hb;have:=e _ (List.mem_map.mpr ⟨x,hx,rfl⟩);rw[xf (dw x hx),ex]at this;cases this
  refine aM.t (oV o2) (WC.of (aGk o2 Jf hj ?_));refine q _ _ (.row j) k2.new (cQ _) ?_ bO;rw[IK]at hj;obtain⟨h1,h2,h3⟩:=hj;rw[aV]at h1;have bdj:∀(i:Nat) (hi:i<its.length),iT ((its.map It.av)[i]'(by rw[aV];exact hi)) (.str "BAD")=its[i].bd:=λi hi=>by rw[List.getElem_map,xf (dw _ (aa hi))]
  refine⟨?_,λi hi z=>?_⟩
  .rw[bdj j h1]at h2;unfold Bd;rw[cZ h1];cases e:its[j]<;>rw[e]at h2<;>first|rfl|cases h2
  .have:=h3 i hi;have hi2:i<its.length:=by omega
   rw[bdj i hi2]at this;unfold Bd at z;rw[cZ hi2]at z;rw[dB z]at this;exact this rfl
 have nb:∀j,¬Bd its j:=λj z=>by have:=List.any_eq_false.mp hb .bad (fQ z);exact this rfl
 have nbp:∀p∈ps,p.2.2 ≠ .bad:=λp hp e=>by obtain⟨j,hj⟩:=xC hp;exact nb j (by unfold Bd;rw[gets hj,e])
 refine WB.of ?_;with_reducible refine mT (fz (gZ rfl ?_))
 have k3:Kp h2 (h2.new (.lst aB [])):=Kp.refl.new;have o4:(h2.new (.lst aB [])).ob h2.nx=aA (.lst aB []):=bO;have l4:h2.nx<(h2.new (.lst aB [])).nx:=cQ _;generalize h2.new (.lst aB [])=h3 at k3 o4 l4 ⊢;generalize e4:h2.nx=m4 at o4 l4 ⊢;refine⟨_,_,_,rfl,k3.get S2.lt S2.ob,?_⟩;refine jo (xs:=ps.map λp=>AV.ref p.1) (λi σ h'=>Q1 n d (bJ its) m3 m4 σ/\Kp h2 h'/\m4<h'.nx/\h'.ob m4=aA (.lst aB ((its.take i).map It.av))/\∀j,j<i->¬Tw its j) (by rw[aV,fF];omega) ⟨⟨_,_,_,_,_,rfl⟩,k3,l4,o4,λj z=>absurd z (ua _)⟩ (λi σ h' y=>y.2.1.get S2.lt S2.ob) ?_ ?_
 .rintro i x σ h' hx ⟨⟨a,b,c,e,f,rfl⟩,kp,lm,om,nt⟩
  obtain⟨p,hp,rfl⟩:=fX hx;have hpm:=fQ hp;have hi:=(List.getElem?_eq_some_iff.mp hp).1;have op:=kp.get (S2.it p hpm).1 (S2.it p hpm).2;have hit:=gets hp;have et:(its.take (i+1)).map It.av=(its.take i).map It.av++[p.2.2.av]:=by rw[gM,hit,dA];rfl
  have app:¬Tw its i->aM (iX h' (.ref m4)) (WC Xc (Op.g .ix (.ref p.1) (.int 1)) h' λy h5=>WC Xc (kP (.ref m4) y) h5 λ_ h5=>Q1 n d (bJ its) m3 m4 [aA (AV.ref n),aA (.ref d),aA (.int (bJ its)),aA (.ref m3),aA (.ref m4),aA (.int i),aA (.ref p.1),c,e,f]/\Kp h2 h5/\m4<h5.nx/\h5.ob m4=aA (.lst aB ((its.take (i+1)).map It.av))/\∀j,j<i+1->¬Tw its j) False:=λhn=>by
   refine aM.t (oV om) (WC.of (iL (dR op) bp (WC.of (wR om (by rw[aV,eT];omega) ⟨⟨_,_,_,_,_,rfl⟩,kp.put (by omega),lm,by rw[rO,et],λj hj=>?_⟩))));by_cases hji:j=i
   .subst hji;exact hn
   .exact nt j (by omega)
  refine kY _ (jE _ (WC.of (iL (dR op) bp (bI.of vw (aM.by (λeb=>?_) λeb=>?_)))))
  .obtain⟨m0,z,it⟩:=p;cases it with
   |aK=>cases eb|row r=>cases eb|bad=>exact absurd rfl (nbp _ hpm)|bN l=>
    have hl:dN (tl l):=hr _ hpm;refine WC.of (iL (dR op) bp (WC.of (FP (u:=l) om Jf ?_)));rw[VY hl];refine aM.dc (λhm=>?_) λhm=>app λ⟨l',e1,e2⟩=>?_
    .exact q _ _ (.twice i) (k2.trans kp).new (cQ _) ⟨nb,⟨l,hit,hm⟩,nt⟩ bO
    .rw[hit]at e1;cases e1;exact hm e2
  .exact app λ⟨l',e1,e2⟩=>by rw[hit]at e1;rw[dB e1]at eb;cases eb
 rintro σ h' ⟨⟨a,b,c,e,f,rfl⟩,kp,lm,om,nt⟩
 rw[aV]at nt;have nt:∀j,¬Tw its j:=λj z=>nt j (by
  obtain⟨l,e1,_⟩:=id z;have:=(List.getElem?_eq_some_iff.mp e1).1;omega) z
 have S3:=S2.kp kp;have k5:=k2.trans kp;have d5:=kp.get ld2 d2;have ld5:d<h'.nx:=cP ld2 kp.nx;clear kp om;refine WB.of ?_;with_reducible refine mT (fz (gZ rfl ?_))
 have k6:Kp h' (h'.new (.lst aB [])):=Kp.refl.new;have o7:(h'.new (.lst aB [])).ob h'.nx=aA (.lst aB []):=bO;have l7:h'.nx<(h'.new (.lst aB [])).nx:=cQ _;generalize h'.new (.lst aB [])=h6 at k6 o7 l7 ⊢;generalize e7:h'.nx=m7 at o7 l7 ⊢;refine⟨_,_,_,rfl,k6.get S3.lt S3.ob,?_⟩;refine jo (xs:=ps.map λp=>AV.ref p.1) (λi σ h8=>Q2 n d (bJ its) m7 σ/\Kp h' h8/\m7<h8.nx/\(∃rs:List Rk,h8.ob m7=aA (.lst aB (rs.map Rk.av))/\((its.take i).filterMap It.rk).map (gE its)=rs.map aA)/\∀j,j<i->¬uX its j) (by rw[aV,fF];omega) ⟨⟨_,_,_,_,_,_,rfl⟩,k6,l7,⟨[],o7,rfl⟩,λj z=>absurd z (ua _)⟩ (λi σ h8 y=>y.2.1.get S3.lt S3.ob) ?_ ?_
 .rintro i x σ h8 hx ⟨⟨a,b,c,e,f,g,rfl⟩,kp,lm,⟨rs,om,hrs⟩,nf⟩
  obtain⟨p,hp,rfl⟩:=fX hx;have hpm:=fQ hp;have hi:=(List.getElem?_eq_some_iff.mp hp).1;have op:=kp.get (S3.it p hpm).1 (S3.it p hpm).2;have hit:=gets hp;have d8:=kp.get ld5 d5;have rl:rs.length<=i:=by have:=congrArg qN hrs;rw[aV,aV]at this;have h2:=Dk It.rk (its.take i);rw[eT]at h2;omega
  have nfi:(uX its i->False)->∀j,j<i+1->¬uX its j:=λhn j hj=>by
   by_cases hji:j=i
   .subst hji;exact hn
   .exact nf j (by omega)
  refine kY _ (jE _ (WC.of (iL (dR op) bp (bI.of vw (aM.by (λeb=>?_) λeb=>bI.of vw ?_)))))
  .obtain⟨m0,z,it⟩:=p;cases it with
   |aK=>cases eb|bN l=>cases eb|bad=>cases eb|row r=>
    have ok:r.ok:=hr _ hpm;have et:(its.take (i+1)).filterMap It.rk=(its.take i).filterMap It.rk++[r]:=by rw[gM,hit,so];rfl
    have far:gE its r=aD->Due its (.label i):=λha=>⟨nb,nt,⟨r,hit,ha⟩,nf⟩;have app:∀{r':Rk} {σ':aH},gE its r=aA r'->Q2 n d (bJ its) m7 σ'->aM (iX h8 (.ref m7)) (WC Xc (kP (.ref m7) r'.av) h8 λ_ h9=>Q2 n d (bJ its) m7 σ'/\Kp h' h9/\m7<h9.nx/\(∃rs:List Rk,h9.ob m7=aA (.lst aB (rs.map Rk.av))/\((its.take (i+1)).filterMap It.rk).map (gE its)=rs.map aA)/\∀j,j<i+1->¬uX its j) False:=λ{r' σ'} ha hq=>by
     refine aM.t (oV om) (WC.of (wR om (by rw[aV];omega) ⟨hq,kp.put (by omega),lm,⟨rs++[r'],by rw[rO,dA];rfl,?_⟩,nfi λ⟨r2,e1,e2⟩=>?_⟩))
     .rw[et,dA,dA,hrs,dS,ha];rfl
     .rw[hit]at e1;cases e1;rw[ha]at e2;cases e2
    have get:∀{y:AV}{key:aU}{V:AV->AH->Prop},iY y=aA key->V ((bT aE key).getD y) h8->We Xc (Dm.g .get (.ref d) [y,y]) h8 V:=λhk q=>aFu d8 hk q;have isd:(fG h8 (.ref d)).isSome=aB:=by simp only[fG,d8];rfl
    have bN:∀ha:gE its r=aD,R (.ref h8.nx) (h8.new (.lst aB [.str "label",.int i])):=λha=>q _ _ (.label i) (k5.trans kp).new (cQ _) (far ha) bO;refine bI.of pO (aM.dc (λe1=>?_) λe1=>bI.of pO (aM.dc (λe2=>?_) λe2=>app (Qq e1 e2) ⟨_,_,_,_,_,_,rfl⟩))
    .obtain⟨x,t,rfl⟩:=Io e1;refine WC.of (GD (gZ rfl ⟨isd,sA _ ?_⟩));cases t with
     |bN l=>
      refine get (y:=.str l) rfl ?_;rw[v2 l ok.2];cases hs:cF its 0 l with
      |none=>exact bN (by show(cF its 0 l).map _=aD;rw[hs];rfl)|some v=>have:=Lc hs;refine aM.df (c:=((bJ its:Nat):Int)<(v:Int)) (by omega) ?_;exact lU (WC.of (zT (xs:=[.str "jump",.int x,.str l]) (by show¬(HT.bF 3 0 aD=0/\HT.bF 3 3 (aA (-1))=3);decide) (WC.of (zR (eN (m:=3) (by show 2+1<=3;decide) (by decide)) (app (r':=.gF x (.num v)) (by show(cF its 0 l).map _=_;rw[hs];rfl) ⟨_,_,_,_,_,_,rfl⟩)))))
     |num m=>
      refine get (y:=.int m) rfl ?_;rw[v1 m];refine aM.dc (c:=((bJ its:Nat):Int)<(m:Int)) (λhm=>bN ?_) λhm=>?_
      .show(if m<=bJ its then _ else _)=_;rw[if_neg (by omega)]
      .exact lU (WC.of (zT (xs:=[.str "jump",.int x,.int m]) (by show¬(HT.bF 3 0 aD=0/\HT.bF 3 3 (aA (-1))=3);decide) (WC.of (zR (eN (m:=3) (by show 2+1<=3;decide) (by decide)) (app (r':=.gF x (.num m)) (by show(if m<=bJ its then _ else _)=_;rw[if_pos (by omega)]) ⟨_,_,_,_,_,_,rfl⟩)))))
    .obtain⟨t,rfl⟩:=Im e2;refine WC.of (GD (gZ rfl ⟨isd,sA _ ?_⟩));cases t with
     |bN l=>
      refine get (y:=.str l) rfl ?_;rw[v2 l ok];cases hs:cF its 0 l with
      |none=>exact bN (by show(cF its 0 l).map _=aD;rw[hs];rfl)|some v=>have:=Lc hs;refine aM.df (c:=((bJ its:Nat):Int)<(v:Int)) (by omega) ?_;exact lU (WC.of (zT (xs:=[.str "go",.str l]) (by show¬(HT.bF 2 0 aD=0/\HT.bF 2 2 (aA (-1))=2);decide) (WC.of (zR (eN (m:=3) (by show 1+1<=3;decide) (by decide)) (app (r':=.go (.num v)) (by show(cF its 0 l).map _=_;rw[hs];rfl) ⟨_,_,_,_,_,_,rfl⟩)))))
     |num m=>
      refine get (y:=.int m) rfl ?_;rw[v1 m];refine aM.dc (c:=((bJ its:Nat):Int)<(m:Int)) (λhm=>bN ?_) λhm=>?_
      .show(if m<=bJ its then _ else _)=_;rw[if_neg (by omega)]
      .exact lU (WC.of (zT (xs:=[.str "go",.int m]) (by show¬(HT.bF 2 0 aD=0/\HT.bF 2 2 (aA (-1))=2);decide) (WC.of (zR (eN (m:=3) (by show 1+1<=3;decide) (by decide)) (app (r':=.go (.num m)) (by show(if m<=bJ its then _ else _)=_;rw[if_pos (by omega)]) ⟨_,_,_,_,_,_,rfl⟩)))))
  .refine aM.f eb ?_;have hrk:p.2.2.rk=aD:=by cases hv:p.2.2<;>rw[hv]at eb<;>first|rfl|cases eb
   refine⟨⟨_,_,_,_,_,_,rfl⟩,kp,lm,⟨rs,om,?_⟩,nfi λ⟨r2,e1,e2⟩=>?_⟩
   .rw[gM,hit,so];show(_++[p.2.2].filterMap It.rk).map _=_;rw[sr hrk,II,iS];exact hrs
   .rw[hit]at e1;rw[dB e1]at hrk;cases hrk
 .rintro σ h8 ⟨⟨a,b,c,e,f,g,rfl⟩,kp,lm,⟨rs,om,hrs⟩,nf⟩
  rw[aV]at nf hrs;rw[qQ (by omega)]at hrs;refine q _ _ (.told rs) (k5.trans kp).new (cQ _) ⟨nb,nt,λj z=>?_,aEf hrs⟩ ⟨m7,lV lm,bO,(gH (bU lm)).trans om⟩;obtain⟨r,e1,_⟩:=id z;have:=(List.getElem?_eq_some_iff.mp e1).1;exact nf j (by omega) z
end
def cX:bX->bX
 |.cons _ r=>r
 |.nil=>.nil
theorem RM{h:AH}{n:Nat}{a:Int}:iG h (n+1) (.int a) (.int a)=aA aB:=by simp[iG,eR,iT]
theorem RQ{h:AH}{n:Nat}{a:aI}:iG h (n+1) (.str a) (.str a)=aA aB:=by simp[iG,eR,iT]
theorem RS{h:AH}{n:Nat}{vs:List AV}(H:∀v∈vs,iG h n v v=aA aB):iG h (n+1) (.tup vs) (.tup vs)=aA aB:=by
 have e:oP (iG h n) vs vs=aA aB:=Gz rfl λi x y e1 e2=>by cases dB (e1.symm.trans e2);exact H x (fQ e1)
 show(if aF=aF then if aF=aB/\vs.length≠vs.length then aA aF else(oP (iG h n) vs vs).map λb=>b&&decide (vs.length=vs.length) else aA aF)=_;rw[e];simp
def uz(r:Rk):Prop:=∀p∈r.ps,∃i,p.v = .int i
theorem MQ{its:List It}{r r':Rk}(h:gE its r=aA r'):uz r':=by
 have num:∀m:Nat,∃i,(kA (.num m)).v = .int i:=λm=>⟨_,rfl⟩;have key:(∀t,r'.tg=aA t->∃m,t = .num m):=by
  cases r with
  |gF x t=>
   cases t with
   |bN l=>obtain⟨n,_,rfl⟩:=Option.map_eq_some_iff.mp (show(cF its 0 l).map _=aA r' from h);intro t e;cases e;exact⟨_,rfl⟩
   |num n=>
    have h:(if n<=bJ its then aA (Rk.gF x (.num n)) else aD)=aA r':=h;split at h
    .cases h;intro t e;cases e;exact⟨_,rfl⟩
    .cases h
  |go t=>
   cases t with
   |bN l=>obtain⟨n,_,rfl⟩:=Option.map_eq_some_iff.mp (show(cF its 0 l).map _=aA r' from h);intro t e;cases e;exact⟨_,rfl⟩
   |num n=>
    have h:(if n<=bJ its then aA (Rk.go (.num n)) else aD)=aA r':=h;split at h
    .cases h;intro t e;cases e;exact⟨_,rfl⟩
    .cases h
  |_=>cases h;intro t e;cases e
 intro p hp;cases r' with
 |gF x t=>obtain⟨m,rfl⟩:=key t rfl;simp only[Rk.ps,pF,qP,or_false]at hp;rcases hp with rfl|rfl<;>exact⟨_,rfl⟩
 |go t=>obtain⟨m,rfl⟩:=key t rfl;simp only[Rk.ps,pF,qP,or_false]at hp;subst hp;exact⟨_,rfl⟩
 |_=>
  simp only[Rk.ps,pF,qP,or_false]at hp;first
   | (rcases hp with rfl|rfl|rfl<;>exact⟨_,rfl⟩)
   | (rcases hp with rfl|rfl<;>exact⟨_,rfl⟩)
   | (subst hp;exact⟨_,rfl⟩)
theorem aEd{its:List It}{rs:List Rk}(h:Due its (.told rs)):∀r∈rs,uz r:=λr hr=>by rw[h.2.2.2]at hr;obtain⟨it,_,e⟩:=List.mem_filterMap.mp hr;obtain⟨r0,_,e⟩:=Option.bind_eq_some_iff.mp e;exact MQ e
theorem aEg{its:List It}{rs:List Rk}(h:Due its (.told rs)):rs.length<=its.length:=by rw[h.2.2.2];exact Dk ..
theorem RP{h:AH}{n:Nat}{r:Rk}(hr:uz r):iG h (n+2) r.av r.av=aA aB:=by
 refine RS λv hv=>?_;rcases List.mem_cons.mp hv with rfl|hv
 .exact RQ
 .obtain⟨p,hp,rfl⟩:=List.mem_map.mp hv;obtain⟨i,e⟩:=hr p hp;rw[e];exact RM
section
variable {Xc:Nat->AH->Prop}{k:Nat}{h:AH}{R:AV->AH->Prop}
theorem Fl{a b:AV}(e:a=b)(q:R a h):R b h:=e▸q
theorem OS{n:Nat}{b:Bool}{xs:List AV}(e:h.ob n=aA (.lst b xs)):rA h (.ref n)=aA .lst:=by simp only[rA,e]
theorem QH{r:Rk}{V1:AV->AH->Prop}(q:V1 (.tup (r.ps.map (·.v))) h):We Xc (lO r.av (aA 1) aD) h V1:=by
 have hl:=Ju r;refine zT (xs:=.str r.nm::r.ps.map (·.v)) ?_ ?_
 .have hn:(AV.str r.nm::r.ps.map (·.v)).length=r.ps.length+1:=by simp
  rw[hn,show(aA 1:Option Int)=aA ((1:Nat):Int) from rfl,HT.Ar];omega
 .rw[show(aA 1:Option Int)=aA ((1:Nat):Int) from rfl,Sk];exact q
theorem WN{nf nd:Nat}{rs:List Rk}(of:h.ob nf=aA (.lst aB (rs.map Rk.av)))(od:h.ob nd=aA (.lst aB (rs.map Rk.av)))(hi:∀r∈rs,uz r)(len:rs.length<=200)(q:R (.bl aB) h):WC Xc (run pg (k+1) Ts [.ref nf,.ref nd]) h R:=by
 refine eB rfl rfl (bI.of (OS of) (WC.of (zS (dR of) (WC.of (zS (dR od) (aM.nt rfl (WB.of ?_)))))));with_reducible refine mT (GA (Cc (gZ rfl (Cc (gZ rfl (GG ?_))))))
 refine⟨_,_,_,_,rfl,Hi of,Hi od,?_⟩;refine TV (xs:=rs.map Rk.av) (ys:=rs.map Rk.av) (λi σ h'=>h'=h/\∃a b c,σ=[aA (.ref nf),aA (.ref nd),a,b,c]) rfl (by rw[aV,fF];omega) ⟨rfl,_,_,_,rfl⟩ (λi σ h' y=>by rw[y.1];exact⟨of,od⟩) ?_ ?_
 .rintro i x y σ h' hx hy ⟨rfl,a,b,c,rfl⟩
  obtain rfl:x=y:=dB (hx.symm.trans hy);obtain⟨r,hp,rfl⟩:=fX hx;have ir:=hi r (fQ hp);have pl:=Ju r;refine kY _ (jE _ (WC.of (FT (b:=aB) rfl (RP (n:=10) ir) ?_)));refine bI.of (v:=aF) rfl (wFf (bI.of pO (WB.of ?_)));with_reducible refine mT (nX ?_)
  refine lU (WC.of (QH (aHe ?_)));refine TU (xs:=r.ps.map (·.v)) (λj σ h2=>h2=h'/\∃a b c,σ=[aA (.ref nf),aA (.ref nd),a,b,c]) (by rw[aV,fF];omega) ⟨rfl,_,_,_,rfl⟩ ?_ ?_
  .rintro j x σ h'' hx ⟨rfl,a,b,c,rfl⟩
   obtain⟨p,hp,rfl⟩:=fX hx;obtain⟨v,e⟩:=ir p (fQ hp);rw[e];exact kY _ (jE _ ⟨rfl,_,_,_,rfl⟩)
  .rintro σ h'' ⟨rfl,a,b,c,rfl⟩
   exact⟨rfl,_,_,_,rfl⟩
 .rintro σ h' ⟨rfl,a,b,c,rfl⟩
  exact q
theorem PL{tx:aI}{its:List It}{d:Rs}{c:Nat}(T:jd tx its)(hd:Due its d)(hc:d.xc=aA c)(hm:c%64=6\/c%64=7\/c%64=8)
  (q:∀h' n,Kp h h'->n<h'.nx->h'.ob n=aA (.xo c)->R (.ref n) h'):WC Xc (run pg (k+8) SG [.str tx]) h R:=by
 refine eB rfl rfl (WB.of ?_);with_reducible refine aIl (aFm (sA _ ?_))
 refine WC.we (BK (k:=k) T (λh' d' c' kp hd' hc'=>?_) λh' n rs kp ln hd' on=>?_)
 .rw[hd'.wL hd,hc]at hc';cases hc';refine aIh ?_ (aIg (jE _ ?_))
  .rcases hm with e|e|e<;>rw[e]<;>rfl
  .exact q _ _ kp.new (cQ _) bO
 .rw[hd.wL hd']at hc;cases hc
def XA:Nat->aI
 |6=>"row" |7=>"twice" |_=>"label"
theorem RT{n m:Nat}{xs:List Bool}(e1:h.ob n=aA (.lst aB (xs.map AV.bl)))(e2:h.ob m=aA (.lst aB (xs.map AV.bl))):oQ h (.ref n) (.ref m)=aA aB:=
 Tp e1 e2 (RN e1 e2 rfl (Gz rfl λi x y a b=>by cases dB (a.symm.trans b);obtain⟨r,_,rfl⟩:=fX a;simp[iG,eR,iT]))
theorem Kq{tx:aI}{its:List It}{d:Rs}{cl i:Nat}(T:jd tx its)(hd:Due its d)(hc:d.xc=aA (cl+64*(i+1)))(hm:cl=6\/cl=7\/cl=8)(q:∀h',Kp h h'->R (.bl aB) h'):WC Xc (run pg (k+9) SR [.str tx,.str (XA cl),.int i]) h R:=by
 have m1:(cl+64*(i+1))%64=cl:=by omega
 refine eB rfl rfl (PL (k:=k) T hd hc (by rw[m1];exact hm) λh' n kp ln on=>?_);have dv:(cl+64*(i+1)) / 64-1=i:=by omega
 have x1:∀{cs:List (Nat×Bool)}{b:Bool}{V1:AV->AH->Prop}{h2:AH},h2.ob n=aA (.xo (cl+64*(i+1)))->cs.lookup cl=aA b->V1 (.bl b) h2->WC Xc (tH cs (.ref n)) h2 V1:=λo l q=>WC.of (aGh o (by rw[m1];exact l) q);have x2:∀{V1:AV->AH->Prop}{h2:AH},h2.ob n=aA (.xo (cl+64*(i+1)))->V1 (.int i) h2->WC Xc (vN [8,6,7] (.ref n)) h2 V1:=λo q=>WC.of (aHa o (by
  rw[m1,decide_eq_true (show(cl+64*(i+1)) / 64≠0 by omega)];rcases hm with rfl|rfl|rfl<;>rfl) (by rw[dv];exact q))
 have fin:∀{bs:List Bool}{h2:AH}{V:AV->AH->Prop},h2=(h'.new (.lst aB (bs.map AV.bl))).new (.lst aB (bs.map AV.bl))->V (.bl aF) h2->WC Xc (Cp.g .ne (.ref h'.nx) (.ref (h'.new (.lst aB (bs.map AV.bl))).nx)) h2 V:=λ{bs h2 V} e q=>by subst e;exact WC.of (FT (b:=aB) rfl (RT (xs:=bs) ((gH (bU (cQ _))).trans bO) bO) q)
 rcases hm with rfl|rfl|rfl
 all_goals refine x1 on rfl (x1 on rfl (x1 on rfl (x1 on rfl ?_)))
 .have o2:((h'.new (.lst aB [.bl aB,.bl aF,.bl aF])).new (.lst aB [.bl aB,.bl aF,.bl aF])).ob n=aA (.xo (6+64*(i+1))):=(Kp.refl.new.new).get ln on;exact fin (bs:=[aB,aF,aF]) rfl (x1 o2 rfl (x1 o2 rfl (x1 o2 rfl (x1 o2 rfl (x1 o2 rfl (x2 o2 (x2 o2 (x2 o2 (Fl (by rw[decide_eq_true rfl]) (q _ kp.new.new))))))))))
 .have o2:((h'.new (.lst aB [.bl aF,.bl aB,.bl aF])).new (.lst aB [.bl aF,.bl aB,.bl aF])).ob n=aA (.xo (7+64*(i+1))):=(Kp.refl.new.new).get ln on;exact fin (bs:=[aF,aB,aF]) rfl (x1 o2 rfl (x1 o2 rfl (x1 o2 rfl (x1 o2 rfl (x1 o2 rfl (x2 o2 (x2 o2 (x2 o2 (Fl (by rw[decide_eq_true rfl]) (q _ kp.new.new))))))))))
 .have o2:((h'.new (.lst aB [.bl aF,.bl aF,.bl aB])).new (.lst aB [.bl aF,.bl aF,.bl aB])).ob n=aA (.xo (8+64*(i+1))):=(Kp.refl.new.new).get ln on;exact fin (bs:=[aF,aF,aB]) rfl (x1 o2 rfl (x1 o2 rfl (x1 o2 rfl (x1 o2 rfl (x1 o2 rfl (x2 o2 (x2 o2 (x2 o2 (Fl (by rw[decide_eq_true rfl]) (q _ kp.new.new))))))))))
end
theorem Iw{x:It}{a:List It}:cD (x::a)=x.lb.toList++cD a:=by unfold cD;rw[pD];cases x.lb<;>rfl
theorem Ym:∀{zs:List (aI×It)}{pre:List It},(cD ((iH pre zs).map (·.2))).Nodup/\∀l,l∈cD ((iH pre zs).map (·.2))↔l∈cD (zs.map (·.2))/\l∉cD pre
 |[],pre=>⟨List.nodup_nil,λl=>⟨λz=>(nomatch z),λz=>(nomatch z.1)⟩⟩
 |p::r,pre=>by
  obtain⟨i1,i2⟩:=Ym (zs:=r) (pre:=pre++[p.2]);rw[iH,dS,dS,Iw,Iw];have ea:cD (pre++[p.2])=cD pre++p.2.lb.toList:=by rw[yP,Iw];simp[cD]
  rw[ea]at i2;cases hp:p.2.lb with
  |none=>
   have eo:(nL pre p).2.lb=aD:=by unfold nL;rw[hp];exact hp
   rw[eo];rw[hp,Option.toList_none,iS]at i2;simpa using ⟨i1,i2⟩
  |some l=>
   rw[hp]at i2;by_cases hm:l∈cD pre
   .have eo:(nL pre p).2.lb=aD:=by unfold nL;rw[hp];dsimp only;rw[if_pos hm];rfl
    rw[eo];refine⟨by simpa using i1,λx=>?_⟩;show x∈[]++cD _↔x∈[l]++cD _/\_;rw[hW,i2 x,sJ,sJ,ae];show _/\¬(_\/x∈[l])↔_;rw[ae];constructor
    .rintro ⟨a,b⟩;exact⟨.inr a,λz=>b (.inl z)⟩
    .rintro ⟨a,b⟩
     have hx:x≠l:=λz=>b (z▸hm);exact⟨a.resolve_left hx,λz=>z.elim b hx⟩
   .have eo:(nL pre p).2.lb=aA l:=by unfold nL;rw[hp];dsimp only;rw[if_neg hm];exact hp
    rw[eo];show([l]++cD _).Nodup/\∀x,x∈[l]++cD _↔x∈[l]++cD _/\_;refine⟨List.nodup_cons.mpr ⟨λz=>((i2 l).mp z).2 (hU _ (.head _)),i1⟩,λx=>?_⟩;rw[sJ,i2 x,sJ,sJ,ae];show _\/_/\¬(_\/x∈[l])↔_;rw[ae];constructor
    .rintro (rfl|⟨a,b⟩)
     .exact⟨.inl rfl,hm⟩
     .exact⟨.inr a,λz=>b (.inl z)⟩
    .rintro ⟨a,b⟩
     by_cases hx:x=l
     .exact .inl hx
     .exact .inr ⟨a.resolve_left hx,λz=>z.elim b hx⟩
theorem Yn:∀{zs:List (aI×It)}{pre:List It}{p:aI×It},p∈iH pre zs->p=(("":aI),It.aK)\/p∈zs
 |[],_,_,h=>nomatch h
 |x::r,pre,p,h=>by
  rw[iH]at h;rcases List.mem_cons.mp h with rfl|h
  .unfold nL;split
   .split
    .exact .inl rfl
    .exact .inr (.head _)
   .exact .inr (.head _)
  .rcases Yn h with h|h
   .exact .inl h
   .exact .inr (.tail _ h)
theorem Y4:Raw "" .aK:=uC (kU (by decide +kernel)) trivial (by show wf _=[];decide +kernel)
theorem Y3{l:aI}(hl:dN (tl l)):Raw (l++":") (.bN l):=by refine uC (uB (b:=1) (km hl) (by decide +kernel) (by decide)) hl ?_;show wf _=_;rw[eF];exact Iu hl
def kJ(bE:List aI)(z:aI×It):Prop:=Raw z.1 z.2/\xR bE z.2
theorem Hm{bE Xb:List aI}{zs:List (aI×It)}{s:aI->Bool}(hg:∀p∈zs,kJ bE p)(hb:∀p∈zs,p.2 ≠ .bad)(hl:∀l∈Xb,dN (tl l)):∀p∈iH [] zs++(Xb.filter s).map ye,kJ bE p/\p.2 ≠ .bad:=λp hp=>by
 rcases List.mem_append.mp hp with hp|hp
 .rcases Yn hp with rfl|hp
  .exact⟨⟨Y4,λr l e=>by cases e⟩,λz=>by cases z⟩
  .exact⟨hg p hp,hb p hp⟩
 .obtain⟨l,hm,rfl⟩:=List.mem_map.mp hp;exact⟨⟨Y3 (hl l (List.mem_filter.mp hm).1),λr l e=>by cases e⟩,λz=>by cases z⟩
theorem Hl{bE:List aI}{M:Nat}{p p':aI×It}(hg:kJ bE p)(h:lY M p p'):kJ bE p':=by
 rcases h with⟨r,m,r',e1,e2,e3,e4,raw⟩|⟨_,rfl⟩
 .refine⟨raw,λr2 l e5 e6=>?_⟩;rw[e3]at e5;cases e5;rw[e4]at e6;cases e6
 .exact hg
theorem YC{M:Nat}{p p':aI×It}(hg:p.2 ≠ .bad)(h:lY M p p'):p'.2 ≠ .bad:=by
 rcases h with⟨r,m,r',e1,e2,e3,e4,raw⟩|⟨_,rfl⟩
 .rw[e3];exact λz=>by cases z
 .exact hg
theorem Xs{M:Nat}{p p':aI×It}(h:lY M p p'):p'.2.lb=p.2.lb/\p'.2.rw=p.2.rw:=by
 rcases h with⟨r,m,r',e1,e2,e3,e4,raw⟩|⟨_,rfl⟩
 .rw[e1,e3];exact⟨rfl,rfl⟩
 .exact⟨rfl,rfl⟩
theorem yh{M:Nat}{ps ps':List (Nat×aI×It)}(hl:ps'.length=ps.length)(lr:∀(i:Nat) p p',ps[i]?=aA p->ps'[i]?=aA p'->lY M p.2 p'.2){p':Nat×aI×It}(h:p'∈ps'):∃p∈ps,lY M p.2 p'.2:=by
 obtain⟨j,hj⟩:=xC h;have hlt:j<ps.length:=by rw[<- hl];exact(List.getElem?_eq_some_iff.mp hj).1
 exact⟨_,aa hlt,lr j _ _ (cZ hlt) hj⟩
theorem Xt{β:Type}{M:Nat}{f:It->β}{ps ps':List (Nat×aI×It)}(hl:ps'.length=ps.length)(lr:∀(i:Nat) p p',ps[i]?=aA p->ps'[i]?=aA p'->lY M p.2 p'.2)(hf:∀{p p':aI×It},lY M p p'->f p'.2=f p.2):(ps'.map (·.2.2)).map f=(ps.map (·.2.2)).map f:=by
 apply List.ext_getElem?;intro i;rw[gK,gK,gK,gK];by_cases h:i<ps.length
 .have h':i<ps'.length:=by omega
  rw[cZ h,cZ h'];exact congrArg aA (hf (lr i _ _ (cZ h) (cZ h')))
 .rw[sv (by omega),sv (by omega)]
theorem Xd{its:List It}:cD its=(its.map It.lb).filterMap id:=by unfold cD;rw[Nt];rfl
theorem YN{bE:List aI}{zs:List (aI×It)}{ps1 ps2:List (Nat×aI×It)}{d:Rs}(nd:bE.Nodup)(hb:∀p∈zs,p.2 ≠ .bad)(hin:∀p∈zs,kJ bE p)(hl:∀l∈bE,dN (tl l))
  (e1:ps1.map (·.2)=iH [] zs++(bE.filter (λl=>decide (l∉cD (zs.map (·.2))))).map ye) (l2:ps2.length=ps1.length) (lr:∀(i:Nat) p p',ps1[i]?=aA p->ps2[i]?=aA p'->lY (bJ (ps1.map (·.2.2))) p.2 p'.2)
  (hd:Due (ps2.map (·.2.2)) d):∃rs,d = .told rs:=by
 have g1:=Hm (s:=λl=>decide (l∉cD (zs.map (·.2)))) hin hb hl;rw[<- e1]at g1;have g1:∀p∈ps1,kJ bE p.2/\p.2.2 ≠ .bad:=λp hp=>g1 p.2 (List.mem_map.mpr ⟨p,hp,rfl⟩);have ei:ps1.map (·.2.2)=(iH [] zs).map (·.2)++(bE.filter (λl=>decide (l∉cD (zs.map (·.2))))).map It.bN:=by have:=congrArg (Oc λp:aI×It=>p.2) e1;rw[lD,dA,lD]at this;exact this
 have elb:∀l:List aI,cD (l.map It.bN)=l:=λl=>by unfold cD;rw[Nt];exact List.filterMap_some
 obtain⟨o1,o2⟩:=Ym (zs:=zs) (pre:=[]);have el:cD (ps2.map (·.2.2))=cD (ps1.map (·.2.2)):=by rw[Xd,Xd,Xt l2 lr λh=>(Xs h).1]
 have er:bJ (ps2.map (·.2.2))=bJ (ps1.map (·.2.2)):=by unfold bJ;rw[Xt l2 lr λh=>(Xs h).2]
 refine RG (λj z=>?_) ?_ (λr hr=>?_) hd
 .have hm:=fQ z;obtain⟨p',hp',e⟩:=List.mem_map.mp hm;obtain⟨p,hp,h⟩:=yh l2 lr hp';exact YC (g1 p hp).2 h e
 .rw[el,ei,yP,elb,JD];refine⟨o1,nd.filter _,λx hx y hy e=>?_⟩;subst e;have:=of_decide_eq_true (List.mem_filter.mp hy).2;exact this ((o2 x).mp hx).1
 .obtain⟨p',hp',e⟩:=List.mem_map.mp hr;obtain⟨p,hp,h⟩:=yh l2 lr hp';have g2:=Hl (g1 p hp).1 h;have num:∀m,r.tg=aA (.num m)->m<=bJ (ps2.map (·.2.2)):=λm hm=>by
   rcases h with⟨r0,m0,r',a1,a2,a3,a4,_⟩|⟨a1,a2⟩
   .have:r'=r:=by rw[a3]at e;cases e;rfl
    subst this;rw[a4]at hm;cases hm;rw[er];exact Nat.le_of_lt_succ (Nat.mod_lt _ (Nat.succ_pos _))
   .exact absurd hm (a1 r m (by rw[<- a2];exact e))
  have lbl:∀l,r.tg=aA (.bN l)->∃n,cF (ps2.map (·.2.2)) 0 l=aA n:=λl hm=>by
   have hl:=g2.2 r l e hm;cases hs:cF (ps2.map (·.2.2)) 0 l with
   |some n=>exact⟨n,rfl⟩|none=>
    refine absurd ?_ (Bb.mp hs);rw[el,ei,yP,elb,sJ];by_cases hz:l∈cD (zs.map (·.2))
    .exact .inl ((o2 l).mpr ⟨hz,λz=>nomatch z⟩)
    .exact .inr (List.mem_filter.mpr ⟨hl,decide_eq_true hz⟩)
  cases r with
  |gF x t=>
   cases t with
   |bN l=>obtain⟨n,hn⟩:=lbl l rfl;exact⟨_,by show(cF _ 0 l).map _=_;rw[hn];rfl⟩|num m=>exact⟨_,by show(if m<=_ then _ else _)=_;rw[if_pos (num m rfl)]⟩
  |go t=>
   cases t with
   |bN l=>obtain⟨n,hn⟩:=lbl l rfl;exact⟨_,by show(cF _ 0 l).map _=_;rw[hn];rfl⟩|num m=>exact⟨_,by show(if m<=_ then _ else _)=_;rw[if_pos (num m rfl)]⟩
  |_=>exact⟨_,rfl⟩
theorem Jo:∀{zs:List (aI×It)}{pre:List It},(iH pre zs).length=zs.length
 |[],_=>rfl|x::r,pre=>by rw[iH,hJ,Jo,hJ]
theorem RF{d:Rs}(h:Due [] d):Due [.aK] d:=by
 have e:∀{i:Nat}{it:It},[It.aK][i]?=aA it->it = .aK:=λ{i it} z=>by
  cases i with
  |zero=>exact(by simpa using z.symm)|succ i=>simp at z
 cases d with
 |row i=>have z:([]:List It)[i]?=aA .bad:=h.1;simp at z|twice i=>obtain⟨l,z,_⟩:=h.2.1;simp at z|label i=>obtain⟨r,z,_⟩:=h.2.2.1;simp at z|told rs=>exact⟨λj z=>(nomatch e z),λj ⟨l,z,_⟩=>(nomatch e z),λj ⟨r,z,_⟩=>(nomatch e z),h.2.2.2⟩
theorem wz{ps:List (Nat×aI×It)}{its:List It}(he:its=ps.map (·.2.2)\/(ps=[]/\its=[.aK])){d:Rs}(h:Due (ps.map (·.2.2)) d):Due its d:=by
 rcases he with rfl|⟨rfl,rfl⟩
 .exact h
 .exact RF h
section
variable {Xc:Nat->AH->Prop}{k:Nat}{h:AH}{R:AV->AH->Prop}
theorem wa{i:Int}{ns:List Int}(h0:0<=i)(o:h.ob 0=aA (.lst aF (ns.map AV.int)))(q:∀c,R (.int c) h):WC Xc (run pg (k+1) SH [.ref 0,.int i]) h R:=
 eB rfl rfl (WC.of (zS (dR o) (aM.dc (λhc=>WC.of (iL (dR o) (MU h0 hc) (q _))) λ_=>q 0)))
theorem aGp{xs:List AV}{u:aI}{V1:AV->AH->Prop}(q:V1 (.bl aB) h):We Xc (Cp.g .ne (.tup xs) (.str u)) h V1:=by show We Xc (tK (.tup xs) (.str u)) h V1;unfold We tK;exact q
theorem aFc{F:AM.Run}{v:AV}{σ:aH}{Q:AV->AH->Prop}(q:Q v h):wE Xc F (.val v) σ h Q:=q
theorem ZI{it:It}{V:AV->AH->Prop}(ok:it.ok)(q:V (.bl (!it.bd)) h):wN Xc .ne it.av (.str "BAD") h V:=by
 cases it with
 |aK=>exact WC.of (aGo (b:=aF) rfl q)|row r=>exact WC.of (aGp q)|bad=>show V (.bl (!decide (("BAD":aI)="BAD"))) h;rw[decide_eq_true rfl];exact q
 |bN l=>
  show V (.bl (!decide (l="BAD"))) h;rw[decide_eq_false (λe=>by have ok:dN (tl l):=ok;rw[e]at ok;exact absurd (ok.2.1 66 (by decide +kernel)) (by omega))]
  exact q
theorem Vq{n m:Nat}{ps:List (Nat×aI×It)}{its:List It}{tx:aI}{rs:List Rk}(T:jd tx its)(he:its=ps.map (·.2.2)\/(ps=[]/\its=[.aK]))(len:ps.length<=100)(hd:Due (ps.map (·.2.2)) (.told rs))(ln:n<h.nx)(on:h.ob n=aA (.lst aB (rs.map Rk.av)))(q:∀h',R (.bl aB) h') :
  WC Xc (run pg 11 Tx [.str tx]) h λv h1=>WC Xc (run pg 11 Ts [v,.ref n]) h1 R:=by
 have hd':=wz he hd;refine BK (k:=4) T (λh' d c kp hx hc=>?_) λh' n' rs' kp ln' hx on'=>?_
 .rw[hx.wL hd']at hc;cases hc
 .have e:rs'=rs:=by have:=hx.wL hd';cases this;rfl
  subst e;have l1:=aEg hd;rw[aV]at l1;exact WN (k:=10) on' (kp.get ln on) (aEd hd) (by omega) (q _)
end
section
variable {h:AH}{n nl:Nat}{ps:List (Nat×aI×It)}{bE:List aI}{way:Int}{dr:Option Int}{N B C:aH->AH->Prop}{v5 v6 v7:Option AV}
theorem Y8(S:kK h n ps)(G:∀p∈ps,kJ bE p.2)(ol:h.ob nl=aA (.lst aB (bE.map AV.str)))(ll:nl<h.nx)(l8:bE.length=8)(hl:∀l∈bE,dN (tl l))(nd:bE.Nodup)(len:ps.length<=58) :
  mQ (λ_ _=>False) (run pg 11) (cX (cX (cX (cX (cX (cX (cX (cX (cX (cX (cX vF))))))))))) [aA (.ref 0),aA (.int way),aA (.ref nl),aA (.ref n),aA (yA dr),v5,v6,v7] h N (λv _=>v = .bl aB) B C:=by
 have big:sizeLine=16777216:=iB;refine WC.of (zV (nX (mS S.ob ?_)));refine xX (bb:=aB) (xs:=ps.map λp=>AV.ref p.1) (λi ys σ h'=>h'=h/\(∃a,σ=[a])/\ys=((ps.take i).filter λp=>!p.2.2.bd).map λp=>AV.ref p.1) (by rw[aV,fF];omega) ⟨rfl,⟨_,rfl⟩,rfl⟩ (λi ys σ h' y=>by rw[y.1];exact S.ob) ?_ ?_
 .rintro i x ys σ h' hx ⟨rfl,⟨a,rfl⟩,rfl⟩
  obtain⟨p,hp,rfl⟩:=fX hx;have hpm:=fQ hp;have hi:=(List.getElem?_eq_some_iff.mp hp).1;have et:ps.take (i+1)=ps.take i++[p]:=by rw[gM,hp];rfl
  refine uF (mR _ (WC.of (iL (dR (S.it p hpm).2) bp ?_)));refine aFc ?_;refine ZI (G p hpm).1.ok ?_;refine aM.ite (aM.by (λeb=>bR _ ⟨?_,rfl,⟨_,rfl⟩,?_⟩) λeb=>⟨rfl,⟨_,rfl⟩,?_⟩)
  .rw[aV];have:=qO (λp:Nat×aI×It=>!p.2.2.bd) (ps.take i);rw[eT]at this;omega
  .rw[et,pE,Nv (p:=λp:Nat×aI×It=>!p.2.2.bd) eb,dA];rfl
  .rw[et,pE,Nu (p:=λp:Nat×aI×It=>!p.2.2.bd) (by rw[eb];exact dG)];simp
 rintro ys σ h' ⟨rfl,⟨a,rfl⟩,rfl⟩
 rw[aV,jG];have fl:=qO (λp:Nat×aI×It=>!p.2.2.bd) ps;have sub:∀p∈ps.filter (λp=>!p.2.2.bd),p∈ps/\p.2.2 ≠ .bad:=λp hp=>by obtain⟨h1,h2⟩:=List.mem_filter.mp hp;exact⟨h1,λe=>by rw[e]at h2;cases h2⟩
 have k1:Kp h' (h'.new (.lst aB ((ps.filter λp=>!p.2.2.bd).map λp=>AV.ref p.1))):=Kp.refl.new;have S1:kK (h'.new (.lst aB ((ps.filter λp=>!p.2.2.bd).map λp=>AV.ref p.1))) h'.nx (ps.filter λp=>!p.2.2.bd):=⟨cQ _,bO,λp hp=>⟨lV (S.it p (sub p hp).1).1,k1.get (S.it p (sub p hp).1).1 (S.it p (sub p hp).1).2⟩⟩;refine Yp (k:=10) S1 (λp hp=>(sub p hp).2) (k1.get ll ol) (lV ll) hl (by omega) (by omega) λh2 n2 ps2 k2 S2 e2=>?_;have e3:((ps.filter λp=>!p.2.2.bd).map (·.2.2))=((ps.filter λp=>!p.2.2.bd).map (·.2)).map (·.2):=by rw[lD];rfl
 rw[e3]at e2;have G0:∀z∈(ps.filter λp=>!p.2.2.bd).map (·.2),kJ bE z:=λz hz=>by obtain⟨p,hp,rfl⟩:=List.mem_map.mp hz;exact G p (sub p hp).1
 have B0:∀z∈(ps.filter λp=>!p.2.2.bd).map (·.2),z.2 ≠ .bad:=λz hz=>by obtain⟨p,hp,rfl⟩:=List.mem_map.mp hz;exact(sub p hp).2
 have G2:∀p∈ps2,kJ bE p.2:=λp hp=>(Hm G0 B0 hl p.2 (by rw[<- e2];exact List.mem_map.mpr ⟨p,hp,rfl⟩)).1;have len2:ps2.length<=66:=by have:=congrArg qN e2;rw[aV,fP,Jo,aV,aV]at this;have f2:=qO (λl=>decide (l∉cD (((ps.filter λp=>!p.2.2.bd).map (·.2)).map (·.2)))) bE;omega
 refine Xu (k:=9) S2 (λp hp=>(G2 p hp).1) (by omega) λh3 n3 ps3 k3 S3 l3 lr=>?_;have G3:∀p∈ps3,kJ bE p.2:=λp hp=>by obtain⟨p0,hp0,hlr⟩:=yh l3 lr hp;exact Hl (G2 p0 hp0) hlr
 refine Tc (k:=9) S3 (λp hp=>(G3 p hp).1.ok) (by omega) λh4 m d k4 lm hd dv=>?_;obtain⟨rs,rfl⟩:=YN nd B0 G0 hl e2 l3 lr hd;obtain⟨n5,l5,o5,o6⟩:=dv;refine bI.of (dR o5) ?_;refine DT (k:=8) (dr:=dr) (S3.kp k4) (λp hp=>(G3 p hp).1) (by omega) λh5 tx its k5 T he=>?_;exact Vq (m:=0) T he (by omega) hd (cP l5 k5.nx) (k5.get l5 o6) λ_=>rfl
theorem DJ(S:kK h n ps)(G:∀p∈ps,kJ bE p.2)(ol:h.ob nl=aA (.lst aB (bE.map AV.str)))(ll:nl<h.nx)(l8:bE.length=8)(hl:∀l∈bE,dN (tl l))(nd:bE.Nodup)(len:ps.length<=58) :
  mQ (λ_ _=>False) (run pg 11) (cX (cX (cX (cX (cX (cX (cX vF))))))) [aA (.ref 0),aA (.int way),aA (.ref nl),aA (.ref n),aA (yA dr),v5,v6,v7] h N (λv _=>v = .bl aB) B C:=by
 refine DT (k:=8) (dr:=dr) S (λp hp=>(G p hp).1) (by omega) λh1 tx its k1 T he=>?_;refine Tc (k:=9) (S.kp k1) (λp hp=>(G p hp).1.ok) (by omega) λh2 m d k2 lm hd dv=>?_;have kk:=k1.trans k2;have S2:=S.kp kk;have fin:∀{h3:AH}{v5 v6 v7:Option AV},Kp h2 h3->mQ (λ_ _=>False) (run pg 11) (cX (cX (cX (cX (cX (cX (cX (cX (cX (cX (cX vF))))))))))) [aA (.ref 0),aA (.int way),aA (.ref nl),aA (.ref n),aA (yA dr),v5,v6,v7] h3 N (λv _=>v = .bl aB) B C:=λ{h3 v5 v6 v7} k3=>
  Y8 (S2.kp k3) G ((kk.trans k3).get ll ol) (cP ll (kk.trans k3).nx) l8 hl nd len
 cases d with
 |told rs=>obtain⟨n5,l5,o5,o6⟩:=dv;refine bI.of (dR o5) ?_;exact Vq (m:=0) T he (by omega) hd l5 o6 λ_=>rfl
 |row i=>exact bI.of (dR (show h2.ob m=_ from dv)) (Kq (k:=2) (cl:=6) T (wz he hd) rfl (.inl rfl) λh3 k3=>fin k3)|twice i=>exact bI.of (dR (show h2.ob m=_ from dv)) (Kq (k:=2) (cl:=7) T (wz he hd) rfl (.inr (.inl rfl)) λh3 k3=>fin k3)|label i=>exact bI.of (dR (show h2.ob m=_ from dv)) (Kq (k:=2) (cl:=8) T (wz he hd) rfl (.inr (.inr rfl)) λh3 k3=>fin k3)
theorem Tb{ns:List Int}(o0:h.ob 0=aA (.lst aF (ns.map AV.int)))(S:kK h n ps)(G:∀p∈ps,kJ bE p.2)(ol:h.ob nl=aA (.lst aB (bE.map AV.str)))(ll:nl<h.nx)(l8:bE.length=8)(hl:∀l∈bE,dN (tl l))(nd:bE.Nodup)(len:ps.length<=58) :
  mQ (λ_ _=>False) (run pg 11) (cX (cX (cX (cX (cX vF))))) [aA (.ref 0),aA (.int way),aA (.ref nl),aA (.ref n),aD,aD,aD,aD] h N (λv _=>v = .bl aB) B C:=by
 refine wa (k:=10) (by decide) o0 λc0=>aM.dc (λ_=>?_) λ_=>?_
 .exact wa (k:=10) (by decide) o0 λc1=>DJ (dr:=aA (c1 / 7)) S G ol ll l8 hl nd len
 .exact DJ (dr:=aD) S G ol ll l8 hl nd len
end
theorem QD{ns:List Int}:∃ms:List Int,jU (ns.map AV.int) (aA 2) (aA 52)=ms.map AV.int/\ms.length<=50:=by refine⟨wd ns (aA 2) (aA 52),QF _ _ _ _,?_⟩;unfold wd;rw[show(aA 2:Option Int)=aA ((2:Nat):Int) from rfl,show(aA 52:Option Int)=aA ((52:Nat):Int) from rfl,HT.Ar,HT.Ar,eT,uM];omega
section
variable {h:AH}{n nl:Nat}{ps:List (Nat×aI×It)}{bE:List aI}{way:Int}{N B C:aH->AH->Prop}
theorem Xr{ns:List Int}(o0:h.ob 0=aA (.lst aF (ns.map AV.int)))(n0:0<h.nx)(S:kK h n ps)(G:∀p∈ps,kJ bE p.2)(ol:h.ob nl=aA (.lst aB (bE.map AV.str)))(ll:nl<h.nx)(l8:bE.length=8)(hl:∀l∈bE,dN (tl l))(nd:bE.Nodup)(len:ps.length<=58) :
  mQ (λ_ _=>False) (run pg 11) (cX (cX (cX (cX vF)))) [aA (.ref 0),aA (.int way),aA (.ref nl),aA (.ref n),aD,aD,aD,aD] h N (λv _=>v = .bl aB) B C:=by
 refine aM.dc (λ_=>?_) λ_=>?_
 .refine Xu (k:=9) S (λp hp=>(G p hp).1) (by omega) λh3 n3 ps3 k3 S3 l3 lr=>?_;refine Tb (k3.get n0 o0) S3 (λp hp=>?_) (k3.get ll ol) (cP ll k3.nx) l8 hl nd (by omega);obtain⟨p0,hp0,hlr⟩:=yh l3 lr hp;exact Hl (G p0 hp0) hlr
 .exact Tb o0 S G ol ll l8 hl nd len
theorem a9{ns:List Int}(o0:h.ob 0=aA (.lst aF (ns.map AV.int)))(n0:0<h.nx)(S:kK h n ps)(G:∀p∈ps,kJ bE p.2)(nb:way≠3->∀p∈ps,p.2.2 ≠ .bad)(ol:h.ob nl=aA (.lst aB (bE.map AV.str)))(ll:nl<h.nx)(l8:bE.length=8)(hl:∀l∈bE,dN (tl l))(nd:bE.Nodup)(len:ps.length<=50) :
  mQ (λ_ _=>False) (run pg 11) (cX (cX (cX vF))) [aA (.ref 0),aA (.int way),aA (.ref nl),aA (.ref n),aD,aD,aD,aD] h N (λv _=>v = .bl aB) B C:=by
 have big:sizeLine=16777216:=iB;have one:way≠3->WC (λ_ _=>False) (aN (run pg 11) (.mD [aD,aA 1] (.nm 0) (.seq (.var 2)) (.cmp .eq (.var 1) (.val (.int 0))) (.var 0)) [aA (.ref 0),aA (.int way),aA (.ref nl),aA (.ref n),aD,aD,aD,aD]) h λv h1=>WC (λ_ _=>False) (run pg 11 Tv [.ref n,v]) h1 λv h1=>mQ (λ_ _=>False) (run pg 11) (cX (cX (cX (cX vF)))) [aA (.ref 0),aA (.int way),aA (.ref nl),aA v,aD,aD,aD,aD] h1 N (λv _=>v = .bl aB) B C:=λhw=>by
  refine WC.of (zV (nX (mS ol ?_)));refine xX (bb:=aB) (xs:=bE.map AV.str) (λi ys σ h'=>h'=h/\(∃a,σ=[a,aA (.int way)])/\ys=((bE.take i).filter λ_=>decide (way=0)).map AV.str) (by rw[aV,fF];omega) ⟨rfl,⟨_,rfl⟩,rfl⟩ (λi ys σ h' y=>by rw[y.1];exact ol) ?_ ?_
  .rintro i x ys σ h' hx ⟨rfl,⟨a,rfl⟩,rfl⟩
   obtain⟨l,hp,rfl⟩:=fX hx;have hi:=(List.getElem?_eq_some_iff.mp hp).1;have et:bE.take (i+1)=bE.take i++[l]:=by rw[gM,hp];rfl
   refine uF (mR _ (aM.ite (aM.dc (λeb=>bR _ ⟨?_,rfl,⟨_,rfl⟩,?_⟩) λeb=>⟨rfl,⟨_,rfl⟩,?_⟩)))
   .rw[aV];have:=qO (λ_:aI=>decide (way=0)) (bE.take i);rw[eT]at this;omega
   .rw[et,pE,Nv (p:=λ_:aI=>decide (way=0)) (decide_eq_true eb),dA];rfl
   .rw[et,pE,Nu (p:=λ_:aI=>decide (way=0)) (by rw[decide_eq_false eb];exact dG)];simp
  rintro ys σ h' ⟨rfl,⟨a,rfl⟩,rfl⟩
  rw[aV,jG];have fl:=qO (λ_:aI=>decide (way=0)) bE;have hl':∀l∈bE.filter (λ_=>decide (way=0)),dN (tl l):=λl hm=>hl l (List.mem_filter.mp hm).1;have k1:Kp h' (h'.new (.lst aB ((bE.filter λ_=>decide (way=0)).map AV.str))):=Kp.refl.new;refine Yp (k:=10) (S.kp k1) (nb hw) bO (cQ _) hl' (by omega) (by omega) λh2 n2 ps2 k2 S2 e2=>?_;have kk:=k1.trans k2;have G0:∀z∈ps.map (·.2),kJ bE z:=λz hz=>by obtain⟨p,hp,rfl⟩:=List.mem_map.mp hz;exact G p hp
  have B0:∀z∈ps.map (·.2),z.2 ≠ .bad:=λz hz=>by obtain⟨p,hp,rfl⟩:=List.mem_map.mp hz;exact nb hw p hp
  refine Xr (kk.get n0 o0) (cP n0 kk.nx) S2 (λp hp=>?_) (kk.get ll ol) (cP ll kk.nx) l8 hl nd ?_
  .exact(Hm G0 B0 hl' p.2 (by rw[<- e2];exact List.mem_map.mpr ⟨p,hp,rfl⟩)).1
  .have:=congrArg qN e2;rw[aV,fP,Jo,aV,aV]at this;have f2:=qO (λl=>decide (l∉cD (ps.map (·.2.2)))) (bE.filter λ_=>decide (way=0));omega
 refine aM.dc (λe0=>?_) λe0=>aM.dc (λe2=>?_) λe2=>?_
 .exact one (by omega)
 .exact one (by omega)
 .exact Xr o0 n0 S G ol ll l8 hl nd (by omega)
end
theorem keeps:Keeps pg 12 SD:=by
 have big:sizeLine=16777216:=iB;refine Keeps.of λns hns=>WC.we (eB rfl rfl ?_);have e0:(h0 ns).ob 0=aA (.lst aF (ns.map AV.int)):=rfl;have z0:0<(h0 ns).nx:=JT;refine wa (k:=10) (by decide) e0 λc0=>?_;refine wa (k:=10) (by decide) e0 λc1=>?_;refine XQ (k:=9) λh1 nl bE k1 ll ol l8 hl nd=>?_;have e1:=k1.get z0 e0;have z1:0<h1.nx:=cP z0 k1.nx;obtain⟨ms,em,lm⟩:=QD (ns:=ns);refine WC.of (zU (fz (bR _ (lU (WC.of (FW e1 ?_))))));refine⟨_,_,_,rfl,bO,?_⟩;rw[em];have k2:Kp h1 (h1.new (.lst aB (ms.map AV.int))):=Kp.refl.new;have o2:(h1.new (.lst aB (ms.map AV.int))).ob h1.nx=aA (.lst aB (ms.map AV.int)):=bO;have l2:h1.nx<(h1.new (.lst aB (ms.map AV.int))).nx:=cQ _;generalize h1.nx=m2 at o2 l2 ⊢;generalize h1.new (.lst aB (ms.map AV.int))=h2 at k2 o2 l2 ⊢;have e2:=k2.get z1 e1;have ol2:=k2.get ll ol;have ll2:nl<h2.nx:=cP ll k2.nx;have z2:0<h2.nx:=cP z1 k2.nx;refine PQ (bb:=aB) (xs:=ms.map AV.int) (λi ys σ h'=>Kp h2 h'/\(∃a b,σ=[a,b,aA (.ref nl),aA (.int (c0%4))])/\∃ps:List (Nat×aI×It),ys=ps.map (λp=>AV.ref p.1)/\ps.length=i/\(∀p∈ps,p.1<h'.nx/\h'.ob p.1=aA (.lst aB [.str p.2.1,p.2.2.av]))/\(∀p∈ps,kJ bE p.2)/\(c0%4≠3->∀p∈ps,p.2.2 ≠ .bad)) (by rw[aV,fF];omega) ⟨Kp.refl,⟨_,_,rfl⟩,[],rfl,rfl,λp hp=>(nomatch hp),λp hp=>(nomatch hp),λ_ p hp=>(nomatch hp)⟩ (λi ys σ h' y=>y.1.get l2 o2) ?_ ?_
 .rintro i x ys σ h' hx ⟨kp,⟨a,b,rfl⟩,ps,rfl,pl,p1,p2,p3⟩
  obtain⟨c,hc,rfl⟩:=fX hx;have hi:=(List.getElem?_eq_some_iff.mp hc).1;refine Mc (bR _ (WO (k:=9) (kp.get ll2 ol2) l8 hl (by omega) λh3 m z it k3 l3 o3 raw inl bad=>⟨by rw[aV];omega,kp.trans k3,⟨_,_,rfl⟩,ps++[(m,z,it)],by rw[dA];rfl,by rw[fP,pl];rfl,λp hp=>?_,λp hp=>?_,λhw p hp=>?_⟩))
  .rcases List.mem_append.mp hp with hp|hp
   .exact⟨cP (p1 p hp).1 k3.nx,k3.get (p1 p hp).1 (p1 p hp).2⟩
   .rw[List.mem_singleton.mp hp];exact⟨l3,o3⟩
  .rcases List.mem_append.mp hp with hp|hp
   .exact p2 p hp
   .rw[List.mem_singleton.mp hp];exact⟨raw,inl⟩
  .rcases List.mem_append.mp hp with hp|hp
   .exact p3 hw p hp
   .rw[List.mem_singleton.mp hp];exact λe=>hw (bad e)
 .rintro ys σ h' ⟨kp,⟨a,b,rfl⟩,ps,rfl,pl,p1,p2,p3⟩
  rw[aV]at pl;have k4:Kp h2 (h'.new (.lst aB (ps.map λp=>AV.ref p.1))):=kp.new;refine a9 (k4.get z2 e2) (cP z2 k4.nx) (ps:=ps) ⟨cQ _,bO,λp hp=>⟨lV (p1 p hp).1,(gH (bU (p1 p hp).1)).trans (p1 p hp).2⟩⟩ p2 p3 (k4.get ll2 ol2) (cP ll2 k4.nx) l8 hl nd (by omega)
def pr:Pr:=⟨Gs,34,[("LETTERS",.str "abcdefghijklmnopqrstuvwxyz"),("FIGURES",.str "0123456789"),("BOXES",.tup [.str "a",.str "b",.str "c",.str "d",.str "e",.str "f",.str "g",.str "h"]),("LONGEST_LABEL",.int 8),("GREATEST_WORD",.int 18446744073709551615),("GREATEST_STEP",.int 999),("GREATEST_TARGET",.int 400)],["len","int","tuple","list","str","any","all","isinstance","bool","range","enumerate","zip"],[],[("MillError",[(8,aB),(6,aB),(7,aB)])],[("Halted",[(8,aF),(6,aF),(7,aF)]),("Busy",[(8,aF),(6,aF),(7,aF)]),("NoTicket",[(8,aF),(6,aF),(7,aF)]),("NoPlace",[(8,aF),(6,aF),(7,aF)]),("Nought",[(8,aF),(6,aF),(7,aF)]),("NoLabel",[(8,aB),(6,aF),(7,aF)]),("Twice",[(8,aF),(6,aF),(7,aB)]),("NoRow",[(8,aF),(6,aB),(7,aF)]),("ValueError",[(8,aB),(6,aB),(7,aB)])],[("FORMS",qo)],[("BOXES",["a","b","c","d","e","f","g","h"])],[("NoLabel",8,36),("NoRow",6,34),("Twice",7,35)]⟩
def lI:List Addr:=[173,178,183,190,197,204,211,218,225,230,237,244,251,258,263,270,277,284,291,296,303,308,315,322,329,336,341,346,353,358,365,372,379,384,101,120,139]
theorem WG:pr.ir=pg:=by
 have e:pr.defs.map pr.bodyOf=Ii:=by kernel_rfl
 funext i
 show(pr.defs[i]?).map pr.bodyOf=Ii[i]?;rw[<- e,gK]
def cs:List (Nat×Addr):=[(0,24),(1,37),(2,49),(3,61),(4,73),(5,85),(6,104),(7,123),(8,142)]
theorem dh{α:Type}{x:Str}{v:α}(h:([]:List (Str×α)).lookup x=aA v):False:=by cases h
theorem iZ{α:Type}{x k:Str}{v u:α}{r:List (Str×α)}(h:((k,u)::r).lookup x=aA v):(x=k/\v=u)\/r.lookup x=aA v:=by
 rw[gR]at h;split at h
 .rename_i q;exact .inl ⟨eq_of_beq q,(dB h).symm⟩
 .exact .inr h
theorem rK{α:Type}{x:Nat}{v:α}(h:([]:List (Nat×α)).lookup x=aA v):False:=by cases h
theorem eV{α:Type}{x k:Nat}{v u:α}{r:List (Nat×α)}(h:((k,u)::r).lookup x=aA v):(x=k/\v=u)\/r.lookup x=aA v:=by
 rw[gR]at h;split at h
 .rename_i q;exact .inl ⟨eq_of_beq q,(dB h).symm⟩
 .exact .inr h
theorem aMt{α:Type}{x:Str×Nat}{v:α}(h:([]:List ((Str×Nat)×α)).lookup x=aA v):False:=by cases h
theorem aMs{α:Type}{x y:Str}{m n:Nat}{v u:α}{r:List ((Str×Nat)×α)}(h:(((y,m),u)::r).lookup (x,n)=aA v):(x=y/\n=m/\v=u)\/r.lookup (x,n)=aA v:=by
 rw[gR]at h;split at h
 .rename_i q;have q:=eq_of_beq q;cases q;exact .inl ⟨rfl,rfl,(dB h).symm⟩
 .exact .inr h
theorem all_mk{l:Pa}{w:bD}{K:aX}{h:aQ}{mg:Str->Option Value}{fa:Addr} (X:K.In h) (G:h.Ns eJ mg) (hfa:mg "law"=aA (.ref fa)) {fds:List eW} (D:lG K Gs lI fds) (lb:∀v,bindArgs (fds.getD 33 default) ⟨[v],[]⟩=pure [(("_law_script":Str),v)]) (oN:ku K pr lI=aB)
  {aDn:Tok}{aDj:Tok}{xq:Addr}{aCd aCe aCf aCg aCh aCi aCj aCk:Tok}{ZN:Nat}{aBq:Array (Option Value)}{aDo:Tok}{aDm:Tok}{aDk:Tok}{aDl:Tok}{jx:Addr}{du:Obj}
  (Mq:gS K eJ "MillError"=aA (aA (.ref 24)))(Mr:gS K eJ "Nought"=aA (aA (.ref 37)))(Ms:gS K eJ "NoPlace"=aA (aA (.ref 49)))(Mt:gS K eJ "NoTicket"=aA (aA (.ref 61)))(Mu:gS K eJ "Busy"=aA (aA (.ref 73)))(Mv:gS K eJ "Halted"=aA (aA (.ref 85)))(Ce:gS K eJ "NoRow"=aA (aA (.ref 104)))(Cf:gS K eJ "Twice"=aA (aA (.ref 123)))(Cg:gS K eJ "NoLabel"=aA (aA (.ref 142)))(Mo:gS K eJ "LETTERS"=aA (aA (.str "abcdefghijklmnopqrstuvwxyz" aDn)))(Mj:gS K eJ "FIGURES"=aA (aA (.str "0123456789" aDj)))(Cd:gS K eJ "BOXES"=aA (aA (.ref xq)))(yd:K.lookup xq=aA ⟨.type "tuple",aD,.seq #[nY "a" aCd,nY "b" aCe,nY "c" aCf,nY "d" aCg,nY "e" aCh,nY "f" aCi,nY "g" aCj,nY "h" aCk] ZN,aBq⟩)(Mp:gS K eJ "LONGEST_LABEL"=aA (aA (.int 8 aDo)))(Mn:gS K eJ "GREATEST_WORD"=aA (aA (.int 18446744073709551615 aDm)))(Ml:gS K eJ "GREATEST_STEP"=aA (aA (.int 999 aDk)))(Mm:gS K eJ "GREATEST_TARGET"=aA (aA (.int 400 aDl)))(Mk:gS K eJ "FORMS"=aA (aA (.ref jx)))(Ip:K.lookup jx=aA du)(Gx:JX Al (λ_=>aA du) jx (fg du)=aB)(Jv:JW (λ_=>aA du) jx=(fg du).map λp=>(uQ l.prog w).hash p.1)(DI:qy K (fg du) jC=aB)(Ky:(jx==kF)=aF)(Rw:L2.clsIn K 24=aB)(Rx:L2.clsIn K 104=aB)(Ry:L2.clsIn K 123=aB)(Rz:L2.clsIn K 142=aB)(GO:L2.wU K 142 139 [.type "ValueError",.type "Exception",.type "BaseException",.type "object"] "ValueError.__new__"=aB)(sF:W.uH K 142=aB)(GJ:W.lA K 142 "line"=aB)(GL:L2.wU K 104 101 [.type "ValueError",.type "Exception",.type "BaseException",.type "object"] "ValueError.__new__"=aB)(sD:W.uH K 104=aB)(GH:W.lA K 104 "line"=aB)(GN:L2.wU K 123 120 [.type "ValueError",.type "Exception",.type "BaseException",.type "object"] "ValueError.__new__"=aB)(sE:W.uH K 123=aB)(GI:W.lA K 123 "line"=aB)(Xz:(L2.mroOf K 142).contains (.ref 24)=aB)(Xx:(L2.mroOf K 104).contains (.ref 24)=aB)(Xy:(L2.mroOf K 123).contains (.ref 24)=aB)(Wv:eO K (.ref 142) (.ref 85)=aA aF)(Vy:eO K (.ref 104) (.ref 85)=aA aF)(Wj:eO K (.ref 123) (.ref 85)=aA aF)(Wu:eO K (.ref 142) (.ref 73)=aA aF)(Vx:eO K (.ref 104) (.ref 73)=aA aF)(Wi:eO K (.ref 123) (.ref 73)=aA aF)(Wr:eO K (.ref 142) (.ref 61)=aA aF)(Vw:eO K (.ref 104) (.ref 61)=aA aF)(Wh:eO K (.ref 123) (.ref 61)=aA aF)(Wq:eO K (.ref 142) (.ref 49)=aA aF)(Vv:eO K (.ref 104) (.ref 49)=aA aF)(Wg:eO K (.ref 123) (.ref 49)=aA aF)(Wo:eO K (.ref 142) (.ref 37)=aA aF)(Vu:eO K (.ref 104) (.ref 37)=aA aF)(Wf:eO K (.ref 123) (.ref 37)=aA aF)(Wy:eO K (.ref 142) (.ref 142)=aA aB)(Wb:eO K (.ref 104) (.ref 142)=aA aF)(Wm:eO K (.ref 123) (.ref 142)=aA aF)(Wx:eO K (.ref 142) (.ref 123)=aA aF)(Wa:eO K (.ref 104) (.ref 123)=aA aF)(Wl:eO K (.ref 123) (.ref 123)=aA aB)(Ww:eO K (.ref 142) (.ref 104)=aA aF)(Vz:eO K (.ref 104) (.ref 104)=aA aB)(Wk:eO K (.ref 123) (.ref 104)=aA aF)(Mw:gS K eJ "ValueError"=aA aD)(Wz:eO K (.ref 142) (.type "ValueError")=aA aB)(Wc:eO K (.ref 104) (.type "ValueError")=aA aB)(Wn:eO K (.ref 123) (.type "ValueError")=aA aB) :
  ∃fd:eW,(∀(s:aG) (v:Value),gg s fd ⟨[v],[]⟩ [("_law_script",v)])/\∀base:aQ,K.In base->base.Ns eJ mg->iN l.prog w K mg base (dU l.prog w) (2*12+2) fa fd ["_law_script"] (Ay K):=by
 have e:=hfa.symm.trans (Yl X G D oN 33 _ rfl);cases e;have O:Fj l.prog w pr ⟨K,λaE a=>False,λi=>cs.lookup i⟩ mg (λi=>lI.getD i 0) (λi=>fds.getD i default):=by
  refine⟨λi d hd=>?_,λi d hd=>?_,λx v hx=>?_,λx hx=>?_,λaE a ht=>?_,λx aE hx=>?_,λx ts hx=>?_,λx c hx=>?_,λx cs hx=>?_,λy cs hx=>?_,λx c i hx=>?_⟩
  .exact lG.get D i d hd
  .exact Yl X G D oN i d hd
  .rcases iZ hx with⟨rfl,rfl⟩|hx
   .exact⟨_,.str "abcdefghijklmnopqrstuvwxyz",iA X G Mo,⟨_,rfl⟩,λ_ _=>.str _⟩
   rcases iZ hx with⟨rfl,rfl⟩|hx
   .exact⟨_,.str "0123456789",iA X G Mj,⟨_,rfl⟩,λ_ _=>.str _⟩
   rcases iZ hx with⟨rfl,rfl⟩|hx
   .exact⟨_,.ref xq,iA X G Cd,rfl,λ_ _=>.tup (ys:=[.str "a",.str "b",.str "c",.str "d",.str "e",.str "f",.str "g",.str "h"]) (.inr ⟨_,_,_,yd,rfl,rfl,(by decide:8<=sizeLine),(.cons ⟨_,rfl⟩ (.cons ⟨_,rfl⟩ (.cons ⟨_,rfl⟩ (.cons ⟨_,rfl⟩ (.cons ⟨_,rfl⟩ (.cons ⟨_,rfl⟩ (.cons ⟨_,rfl⟩ (.cons ⟨_,rfl⟩ .nil))))))))⟩) (.cons (.str _) (.cons (.str _) (.cons (.str _) (.cons (.str _) (.cons (.str _) (.cons (.str _) (.cons (.str _) (.cons (.str _) .nil))))))))⟩
   rcases iZ hx with⟨rfl,rfl⟩|hx
   .exact⟨_,.int 8,iA X G Mp,⟨_,rfl⟩,λ_ _=>.int _⟩
   rcases iZ hx with⟨rfl,rfl⟩|hx
   .exact⟨_,.int 18446744073709551615,iA X G Mn,⟨_,rfl⟩,λ_ _=>.int _⟩
   rcases iZ hx with⟨rfl,rfl⟩|hx
   .exact⟨_,.int 999,iA X G Ml,⟨_,rfl⟩,λ_ _=>.int _⟩
   rcases iZ hx with⟨rfl,rfl⟩|hx
   .exact⟨_,.int 400,iA X G Mm,⟨_,rfl⟩,λ_ _=>.int _⟩
   exact(dh hx).elim
  .exact ZZ X G oN x hx
  .exact ht.elim
  .rcases iZ hx with⟨rfl,rfl⟩|hx
   .exact AM.aDr (iA X G Mk) Ip Gx (by decide +kernel) Jv DI Ky
   exact(dh hx).elim
  .rcases iZ hx with⟨rfl,rfl⟩|hx
   .exact⟨xq,_,_,_,iA X G Cd,yd,rfl,rfl,rfl,(by decide:8<=sizeLine),(.cons ⟨_,rfl⟩ (.cons ⟨_,rfl⟩ (.cons ⟨_,rfl⟩ (.cons ⟨_,rfl⟩ (.cons ⟨_,rfl⟩ (.cons ⟨_,rfl⟩ (.cons ⟨_,rfl⟩ (.cons ⟨_,rfl⟩ .nil))))))))⟩
   exact(dh hx).elim
  .exact(dh hx).elim
  .rcases iZ hx with⟨rfl,rfl⟩|hx
   .refine⟨24,iA X G Mq,Rw,λc b hc=>?_⟩;rcases eV hc with⟨rfl,rfl⟩|hc
    .exact⟨142,rfl,Rz,Xz⟩
    rcases eV hc with⟨rfl,rfl⟩|hc
    .exact⟨104,rfl,Rx,Xx⟩
    rcases eV hc with⟨rfl,rfl⟩|hc
    .exact⟨123,rfl,Ry,Xy⟩
    exact(rK hc).elim
   exact(dh hx).elim
  .rcases iZ hx with⟨rfl,rfl⟩|hx
   .refine⟨.ref 85,.ref 85,λu h=>h,rfl,.inl (iA X G Mv),λk b hk=>?_⟩;rcases eV hk with⟨rfl,rfl⟩|hk
    .exact⟨142,rfl,sF,Wv⟩
    rcases eV hk with⟨rfl,rfl⟩|hk
    .exact⟨104,rfl,sD,Vy⟩
    rcases eV hk with⟨rfl,rfl⟩|hk
    .exact⟨123,rfl,sE,Wj⟩
    exact(rK hk).elim
   rcases iZ hx with⟨rfl,rfl⟩|hx
   .refine⟨.ref 73,.ref 73,λu h=>h,rfl,.inl (iA X G Mu),λk b hk=>?_⟩;rcases eV hk with⟨rfl,rfl⟩|hk
    .exact⟨142,rfl,sF,Wu⟩
    rcases eV hk with⟨rfl,rfl⟩|hk
    .exact⟨104,rfl,sD,Vx⟩
    rcases eV hk with⟨rfl,rfl⟩|hk
    .exact⟨123,rfl,sE,Wi⟩
    exact(rK hk).elim
   rcases iZ hx with⟨rfl,rfl⟩|hx
   .refine⟨.ref 61,.ref 61,λu h=>h,rfl,.inl (iA X G Mt),λk b hk=>?_⟩;rcases eV hk with⟨rfl,rfl⟩|hk
    .exact⟨142,rfl,sF,Wr⟩
    rcases eV hk with⟨rfl,rfl⟩|hk
    .exact⟨104,rfl,sD,Vw⟩
    rcases eV hk with⟨rfl,rfl⟩|hk
    .exact⟨123,rfl,sE,Wh⟩
    exact(rK hk).elim
   rcases iZ hx with⟨rfl,rfl⟩|hx
   .refine⟨.ref 49,.ref 49,λu h=>h,rfl,.inl (iA X G Ms),λk b hk=>?_⟩;rcases eV hk with⟨rfl,rfl⟩|hk
    .exact⟨142,rfl,sF,Wq⟩
    rcases eV hk with⟨rfl,rfl⟩|hk
    .exact⟨104,rfl,sD,Vv⟩
    rcases eV hk with⟨rfl,rfl⟩|hk
    .exact⟨123,rfl,sE,Wg⟩
    exact(rK hk).elim
   rcases iZ hx with⟨rfl,rfl⟩|hx
   .refine⟨.ref 37,.ref 37,λu h=>h,rfl,.inl (iA X G Mr),λk b hk=>?_⟩;rcases eV hk with⟨rfl,rfl⟩|hk
    .exact⟨142,rfl,sF,Wo⟩
    rcases eV hk with⟨rfl,rfl⟩|hk
    .exact⟨104,rfl,sD,Vu⟩
    rcases eV hk with⟨rfl,rfl⟩|hk
    .exact⟨123,rfl,sE,Wf⟩
    exact(rK hk).elim
   rcases iZ hx with⟨rfl,rfl⟩|hx
   .refine⟨.ref 142,.ref 142,λu h=>h,rfl,.inl (iA X G Cg),λk b hk=>?_⟩;rcases eV hk with⟨rfl,rfl⟩|hk
    .exact⟨142,rfl,sF,Wy⟩
    rcases eV hk with⟨rfl,rfl⟩|hk
    .exact⟨104,rfl,sD,Wb⟩
    rcases eV hk with⟨rfl,rfl⟩|hk
    .exact⟨123,rfl,sE,Wm⟩
    exact(rK hk).elim
   rcases iZ hx with⟨rfl,rfl⟩|hx
   .refine⟨.ref 123,.ref 123,λu h=>h,rfl,.inl (iA X G Cf),λk b hk=>?_⟩;rcases eV hk with⟨rfl,rfl⟩|hk
    .exact⟨142,rfl,sF,Wx⟩
    rcases eV hk with⟨rfl,rfl⟩|hk
    .exact⟨104,rfl,sD,Wa⟩
    rcases eV hk with⟨rfl,rfl⟩|hk
    .exact⟨123,rfl,sE,Wl⟩
    exact(rK hk).elim
   rcases iZ hx with⟨rfl,rfl⟩|hx
   .refine⟨.ref 104,.ref 104,λu h=>h,rfl,.inl (iA X G Ce),λk b hk=>?_⟩;rcases eV hk with⟨rfl,rfl⟩|hk
    .exact⟨142,rfl,sF,Ww⟩
    rcases eV hk with⟨rfl,rfl⟩|hk
    .exact⟨104,rfl,sD,Vz⟩
    rcases eV hk with⟨rfl,rfl⟩|hk
    .exact⟨123,rfl,sE,Wk⟩
    exact(rK hk).elim
   rcases iZ hx with⟨rfl,rfl⟩|hx
   .refine⟨.ty "ValueError",.type "ValueError",λu h=>h,rfl,.inr ⟨KP X G Mw,PyProof.Rows.Boot.«ValueError»⟩,λk b hk=>?_⟩;rcases eV hk with⟨rfl,rfl⟩|hk
    .exact⟨142,rfl,sF,Wz⟩
    rcases eV hk with⟨rfl,rfl⟩|hk
    .exact⟨104,rfl,sD,Wc⟩
    rcases eV hk with⟨rfl,rfl⟩|hk
    .exact⟨123,rfl,sE,Wn⟩
    exact(rK hk).elim
   exact(dh hx).elim
  .rcases List.mem_cons.mp hx with e|hx
   .cases e;exact⟨_,142,_,_,_,_,rfl,by kernel_rfl,iA X G Cg,rfl,by decide,GO,Ox,GJ⟩
   rcases List.mem_cons.mp hx with e|hx
   .cases e;exact⟨_,104,_,_,_,_,rfl,by kernel_rfl,iA X G Ce,rfl,by decide,GL,Ox,GH⟩
   rcases List.mem_cons.mp hx with e|hx
   .cases e;exact⟨_,123,_,_,_,_,rfl,by kernel_rfl,iA X G Cf,rfl,by decide,GN,Ox,GI⟩
   cases hx
 have hk:Keeps pr.ir 12 33:=by rw[WG];exact keeps
 exact⟨_,λs v=>.of_eq (lb v),λbase _ _=>XU (T:=⟨K,λaE a=>False,λi=>cs.lookup i⟩) O (i:=33) rfl hk⟩
end AMx
open PySem PySem.W PyProof.Rows
namespace PySem.W.Fast
def mf:List Stmt->Nat->Stmt|a::_,0=>a|_::l,n+1=>mf l n | [],_=>.Pass (.mk 0 0 0 0)
def pY:Stmt->List Stmt | .FunctionDef _ _ b _ _ _ _ _ _ _=>b | .ClassDef _ _ _ b _ _ _ _ _ _ _=>b|_=>[]
def vX:Stmt->Mx | .FunctionDef _ p _ _ _ _ _ _ _ _=>p|_=>default
def vY:Stmt->eU | .FunctionDef _ _ _ _ _ _ s _ _ _=>s | .ClassDef _ _ _ _ _ _ s _ _ _ _=>s|_=>default
def qf(o:Obj):BT:=.node o .nil .nil
def qb(s:String)(x:Data):Obj:=⟨.type s,.none,x,#[]⟩
def qd(P:dD)(n:Str)(i:Nat)(v:Value):DictEntry:=⟨PySem.PyData.keyHash P n,.str n i,v⟩
def qS(n:Nat):Stmt:=mf PySem.Challenge.pw_aheadmill_k12_labels.main.body n
def qe:List Obj->List Obj|x::_::l=>x::qe l|l=>l
def qg:List Obj->List Obj|_::y::l=>y::qg l|_=>[]
def qB:Nat->List Obj->BT|0,_=>.nil|_+1,[]=>.nil|n+1,x::l=>.node x (qB n (qe l)) (qB n (qg l))
def aW:String:=aMb
def Kl:String:=aMg
def W0:String:=aMj
def zH:String:=aLx
def W2:String:=aMk
def iQ:String:=aMi
def AU:String:=aLw
def W3:String:=aLu
def qC:String:=aLz
def rY:String:=aMh
def rV:String:=aMd
def rW:String:=aMa
def rX:String:=aMc
def V6:String:=aLy
def V7:String:=aLv
def V8:String:=aMe
def V9:String:=aMf
def Ai:String:=aMl
def rQ:Stmt:=mf (pY (qS 7)) 0
def Af:Stmt:=mf (pY (qS 8)) 0
def Ag:Stmt:=mf (pY (qS 9)) 0
def K5:Str:=.ofString "<module>"
def yY:Str:=.ofString "/claim/cut.py"
def N4:Str:=.ofString "__main__"
def nQ:Str:=.ofString "__name__"
def gI:Str:=.ofString "aheadmill.errors"
def Kf:Str:=.ofString "__doc__"
def Q6:Str:=.ofString "__package__"
def S6:Str:=.ofString "__loader__"
def S7:Str:=.ofString "__spec__"
def S9:Str:=.ofString "__annotations__"
def K6:Str:=.ofString "__builtins__"
def K7:Str:=.ofString "__file__"
def L5:Str:=.ofString "__cached__"
def dP:Str:=.ofString "MillError"
def zq:Str:=.ofString "__module__"
def Zy:Str:=.ofString "__qualname__"
def zr:Str:=.ofString "__firstlineno__"
def zF:Str:=.ofString "__static_attributes__"
def AB:Str:=.ofString "__weakref__"
def zt:Str:=.ofString "Nought"
def zu:Str:=.ofString "NoPlace"
def zw:Str:=.ofString "NoTicket"
def zx:Str:=.ofString "Busy"
def zy:Str:=.ofString "Halted"
def zz:Str:=.ofString "NoRow"
def nP:Str:=.ofString "__init__"
def Ka:Str:=.ofString "self"
def tX:Str:=.ofString "line"
def Kb:Str:=.ofString "NoRow.__init__"
def Aa:Str:=.ofString "Twice"
def Kd:Str:=.ofString "Twice.__init__"
def nR:Str:=.ofString "aheadmill.lines"
def Ab:Str:=.ofString "NoLabel"
def N5:Str:=.ofString "LETTERS"
def N6:Str:=.ofString "abcdefghijklmnopqrstuvwxyz"
def N7:Str:=.ofString "FIGURES"
def N8:Str:=.ofString "0123456789"
def N9:Str:=.ofString "BOXES"
def O0:Str:=.ofString "LONGEST_LABEL"
def O1:Str:=.ofString "GREATEST_WORD"
def O2:Str:=.ofString "GREATEST_STEP"
def O3:Str:=.ofString "GREATEST_TARGET"
def Ke:Str:=.ofString "NoLabel.__init__"
def O4:Str:=.ofString "a"
def O5:Str:=.ofString "b"
def O6:Str:=.ofString "c"
def O7:Str:=.ofString "d"
def O8:Str:=.ofString "e"
def O9:Str:=.ofString "f"
def P0:Str:=.ofString "g"
def P4:Str:=.ofString "h"
def P5:Str:=.ofString "FORMS"
def P6:Str:=.ofString "set"
def P7:Str:=.ofString "move"
def P8:Str:=.ofString "sum"
def P9:Str:=.ofString "less"
def Q0:Str:=.ofString "times"
def Q3:Str:=.ofString "share"
def Q4:Str:=.ofString "rest"
def Q5:Str:=.ofString "both"
def Q7:Str:=.ofString "some"
def Q8:Str:=.ofString "odd"
def Q9:Str:=.ofString "up"
def R6:Str:=.ofString "down"
def R7:Str:=.ofString "below"
def R8:Str:=.ofString "same"
def R9:Str:=.ofString "load"
def S4:Str:=.ofString "store"
def S5:Str:=.ofString "jump"
def AD:Str:=.ofString "go"
def AE:Str:=.ofString "fault"
def cY:Str:=.ofString "box"
def zG:Str:=.ofString "word"
def AF:Str:=.ofString "step"
def Kg:Str:=.ofString "target"
def og:Str:=.ofString "aheadmill.texts"
def oh:Str:=.ofString "bare"
def Ac:Str:=.ofString "words_in"
def Ad:Str:=.ofString "made_of"
def oj:Str:=.ofString "is_label"
def oo:Str:=.ofString "number_in"
def oq:Str:=.ofString "step_in"
def ot:Str:=.ofString "target_in"
def ou:Str:=.ofString "box_in"
def ow:Str:=.ofString "part_in"
def Ae:Str:=.ofString "row_in"
def oy:Str:=.ofString "label_in"
def oz:Str:=.ofString "told_lines"
def pj:Str:=.ofString "labels_in"
def S8:Str:=.ofString "figures"
def T1:Str:=.ofString "greatest"
def pk:Str:=.ofString "number"
def T2:Str:=.ofString "form"
def T3:Str:=.ofString "left"
def T4:Str:=.ofString "text"
def AG:Str:=.ofString "told"
def AI:Str:=.ofString "label"
def Kh:Str:=.ofString "row"
def AJ:Str:=.ofString "labels"
def T5:Str:=.ofString "above"
def iI:Str:=.ofString "law_aheadmill_k12_labels"
def mq:Str:=.ofString "aimed"
def zc:Str:=.ofString "read"
def mv:Str:=.ofString "_law_cell_at"
def mw:Str:=.ofString "_law_number"
def my:Str:=.ofString "_law_remark"
def mz:Str:=.ofString "_law_line"
def zi:Str:=.ofString "_law_text"
def ng:Str:=.ofString "_law_letters"
def zj:Str:=.ofString "_law_labels"
def nh:Str:=.ofString "_law_plain_line"
def ni:Str:=.ofString "_law_target_line"
def nj:Str:=.ofString "_law_bad_line"
def K8:Str:=.ofString "many"
def K9:Str:=.ofString "_law_script"
def fc:Str:=.ofString "_law_k"
def Zt:Str:=.ofString "_law_cell"
def yZ:Str:=.ofString "_law_number_here"
def Jx:Str:=.ofString "_law_some"
def L4:Str:=.ofString "_law_signs"
def Zu:Str:=.ofString "_law_at"
def L6:Str:=.ofString "_law_words"
def Jy:Str:=.ofString "_law_line_here"
def L7:Str:=.ofString "_law_word"
def Zv:Str:=.ofString "_law_many"
def L8:Str:=.ofString "_law_small"
def Jz:Str:=.ofString "_law_found"
def L9:Str:=.ofString "_law_rows"
def M0:Str:=.ofString "_law_target"
def Zw:Str:=.ofString "_law_row"
def M1:Str:=.ofString "_law_label"
def nk:Str:=.ofString "_law_item"
def zk:Str:=.ofString "_law_once"
def zm:Str:=.ofString "_law_low"
def nq:Str:=.ofString "_law_spots"
def zo:Str:=.ofString "_law_due"
def nu:Str:=.ofString "_law_is_program"
def nv:Str:=.ofString "_law_caught"
def ny:Str:=.ofString "_law_refused"
def zp:Str:=.ofString "law"
def M3:Str:=.ofString "_law_labels_here"
def M4:Str:=.ofString "_law_way"
def Zx:Str:=.ofString "_law_kind"
def M5:Str:=.ofString "_law_rest"
def M6:Str:=.ofString "_law_items"
def M7:Str:=.ofString "_law_spots_here"
def M8:Str:=.ofString "_law_what"
def M9:Str:=.ofString "_law_due_here"
def N1:Str:=.ofString "_law_other"
def N2:Str:=.ofString "_law_part"
def Zz:Str:=.ofString "_law_lines"
def AA:Str:=.ofString "_law_caught_here"
def N3:Str:=.ofString "error"
variable (P:dD)
def tw10748214328490429975:dD->aX:=λ_=>[]
theorem te10748214328490429975:tw10748214328490429975=tw10748214328490429975:=rfl
def tw10066882661387008402:bG:={ PySem.Challenge.rw_aheadmill_k12_labels.row.toRowW.1 with main:={ PySem.Challenge.rw_aheadmill_k12_labels.row.toRowW.1.main with body:=[(qS 1),(qS 2),(qS 3),(qS 4),(qS 5),(qS 6),(qS 7),(qS 8),(qS 9),(qS 11),(qS 12),(qS 13),(qS 14),(qS 15),(qS 16),(qS 17),(qS 18),(qS 19),(qS 20),(qS 21),(qS 22),(qS 23),(qS 24),(qS 25),(qS 26),(qS 27),(qS 28),(qS 29),(qS 31),(qS 32),(qS 33),(qS 34),(qS 36),(qS 37),(qS 38),(qS 39),(qS 40),(qS 41),(qS 42),(qS 43),(qS 44),(qS 45),(qS 46),(qS 47),(qS 48),(qS 49),(qS 50),(qS 51),(qS 52),(qS 53),(qS 54)] } }
theorem te10066882661387008402:tw10066882661387008402=tw10066882661387008402:=rfl
def qE(P:dD):List DictEntry:=[(qd P Kf 166 .none),(qd P Q6 167 .none),(qd P S6 168 (.builtin W2)),(qd P S7 169 .none),(qd P S9 170 (.ref 6)),(qd P K6 171 (.ref 4)),(qd P K7 173 (.str yY 172)),(qd P L5 174 .none),(qd P dP 206 (.ref 24)),(qd P zt 222 (.ref 37)),(qd P zu 238 (.ref 49)),(qd P zw 254 (.ref 61)),(qd P zx 270 (.ref 73)),(qd P zy 286 (.ref 85)),(qd P zz 311 (.ref 104)),(qd P Aa 336 (.ref 123)),(qd P Ab 361 (.ref 142)),(qd P N5 365 (.str N6 364)),(qd P N7 367 (.str N8 366)),(qd P N9 376 (.ref 145)),(qd P O0 378 (.int 8 377)),(qd P O1 380 (.int 18446744073709551615 379)),(qd P O2 382 (.int 999 381)),(qd P O3 384 (.int 400 383)),(qd P P5 473 (.ref 146)),(qd P oh 480 (.ref 173)),(qd P Ac 486 (.ref 178)),(qd P Ad 492 (.ref 183)),(qd P oj 499 (.ref 190)),(qd P oo 508 (.ref 197)),(qd P oq 516 (.ref 204)),(qd P ot 523 (.ref 211)),(qd P ou 530 (.ref 218)),(qd P ow 538 (.ref 225)),(qd P Ae 544 (.ref 230)),(qd P oy 552 (.ref 237)),(qd P oz 566 (.ref 244)),(qd P pj 578 (.ref 251)),(qd P mq 589 (.ref 258)),(qd P zc 595 (.ref 263)),(qd P mv 605 (.ref 270)),(qd P mw 613 (.ref 277)),(qd P my 624 (.ref 284)),(qd P mz 635 (.ref 291)),(qd P zi 641 (.ref 296)),(qd P ng 653 (.ref 303)),(qd P zj 659 (.ref 308)),(qd P nh 668 (.ref 315)),(qd P ni 677 (.ref 322)),(qd P nj 686 (.ref 329)),(qd P nk 699 (.ref 336)),(qd P zk 705 (.ref 341)),(qd P zm 711 (.ref 346)),(qd P nq 722 (.ref 353)),(qd P zo 728 (.ref 358)),(qd P nu 739 (.ref 365)),(qd P nv 748 (.ref 372)),(qd P ny 759 (.ref 379)),(qd P zp 765 (.ref 384))]
def qM(P:dD)(e:DictEntry)(n m:Nat):Obj:=qb zH (.dict (e::(qE P).take n).toArray m)
def qJ:List (Nat×Nat)->List Value | []=>[] | (a,b)::l=>.int a 0 :: .int 0 0 :: .ref b::qJ l
def qK:List Value:=qJ [(2,20),(4,33),(6,45),(8,57),(10,69),(12,81),(14,93),(18,112),(22,131),(35,172),(37,177),(39,182),(41,189),(43,196),(50,203),(55,210),(57,217),(59,224),(67,229),(78,236),(84,243),(94,250),(105,257),(116,262),(122,269),(126,276),(128,283),(135,290),(145,295),(154,302),(161,307),(177,314),(183,321),(189,328),(195,335),(208,340),(219,345),(228,352),(237,357),(258,364),(268,371),(275,378),(287,383)]
def qI(n:Nat):Obj:=.mk .none .none (.fields (qK.take n).toArray) #[]
def dZ(a0:Str)(a1:Stmt):Obj:=(.mk .none .none (.func (.mk a0 a0 (vX a1) (.stmts (pY a1)) (vY a1) 0 [] .none .none .none .none .none .none .none 0)) #[])
def eA(a0:Str)(a1:Stmt)(a2:Str)(a3:Nat)(a4:Nat):Obj:=qb Ai (.func (.mk a0 a0 (vX a1) (.stmts (pY a1)) (vY a1) 3 [] .none .none .none (.str a2 a3) .none (.ref a4) .none 0))
def fN(a0:Str)(a1:Nat)(a2:Str)(a3:Int)(a4:Int)(a5:Nat)(a6:Int)(a7:Nat):Obj:=qb Kl (.fields #[(.str a0 a1),(.str a2 (a1+1)),(.str yY (a1+2)),(.int a3 0),(.int a4 0),(.int 0 0),(.int 0 0),(.int 3 0),(.ref a5),(.bool .true),(.int 181 0),(.ref (a5+1)),.none,(.ref (a5+2)),(.ref (a5+3)),(.ref (a5+4)),(.int a6 0),(.int a3 0),(.str yY a7)])
def jB(a0:Str)(a1:Nat)(a2:Str)(a3:Str):Obj:=qb aW (.seq #[(.str a0 a1),(.str a2 (a1+1)),(.str a3 (a1+2))] 0)
def qA(a0:Str)(a1:Nat)(a2:Str):Obj:=qb aW (.seq #[(.str a0 a1),(.str a2 (a1+1))] 0)
def rR(a0:Str)(a1:Nat)(a2:Int)(a3:Nat)(a4:Int):Obj:=qb Kl (.fields #[(.str a0 a1),(.str a0 (a1+1)),(.str yY (a1+2)),(.int a2 0),(.int 0 0),(.int 0 0),(.int 0 0),(.int 0 0),(.ref a3),(.bool .false),(.int 181 0),(.ref (a3+1)),.none,.none,.none,.none,(.int a4 0),(.int a2 0),(.str yY (a1+4))])
def rS(a0:Nat)(a1:Nat)(a2:Str)(a3:Nat):Obj:=(.mk (.type W0) .none .plain #[(.some (.ref a0)),(.some (.ref 3)),(.some (.ref a1)),.none,(.some (.str a2 a3)),.none,(.some (.ref 0))])
def rT(a0:Str)(a1:Nat)(a2:Int)(a3:Int)(a4:Nat)(a5:Int):Obj:=qb Kl (.fields #[(.str a0 a1),(.str a0 (a1+1)),(.str yY (a1+2)),(.int a2 0),(.int a3 0),(.int 0 0),(.int 0 0),(.int 3 0),(.ref a4),(.bool .true),(.int 181 0),(.ref (a4+1)),.none,.none,.none,(.ref (a4+2)),(.int a5 0),(.int a2 0),(.str yY (a1+4))])
def tZ:Obj:=qb AU (.fields #[(.builtin W3),(.type qC)])
def uA(a0:Nat):Obj:=qb V8 (.fields #[(.ref a0),(.ref a0),(.ref a0)])
def tY(a0:Nat):Obj:=qb AU (.fields #[(.builtin V9),(.ref a0)])
def vZ(a0:Str)(a1:Nat)(a2:Nat)(a3:Nat)(a4:Nat):Obj:=(.mk (.type qC) .none (.cls (.mk a0 [(.ref 24)] [(.ref a1),(.ref 24),(.type iQ),(.type rY),(.type rV),(.type rW)] a2 a0 .true [] [] .false .none .false)) #[(.some (.ref a3)),.none,(.some (.str a0 a4)),(.some (.str a0 (a4+8))),(.some (.builtin rX)),(.some (.bool .true))])
def fe(P:dD)(a0:Nat)(a1:Str)(a2:Int)(a3:Nat):Obj:=qb zH (.dict #[(qd P zq a0 (.str gI 187)),(qd P Zy (a0+2) (.str a1 (a0+1))),(qd P zr (a0+4) (.int a2 (a0+3))),(qd P zF (a0+5) (.ref a3))] 4)
def ff(a0:Str)(a1:Nat)(a2:Str)(a3:Str)(a4:Str)(a5:Str):Obj:=qb aW (.seq #[(.str a0 a1),(.str a2 (a1+1)),(.str a3 (a1+2)),(.str a4 (a1+3)),(.str a5 (a1+4))] 0)
def pq(P:dD)(a0:Nat)(a1:Int)(a2:Nat):Obj:=qb zH (.dict #[(qd P zq a0 (.str gI 187)),(qd P zr (a0+4) (.int a1 (a0+3))),(qd P zF (a0+5) (.ref a2)),(qd P Kf (a0+6) .none)] 2)
def Ah(P:dD)(a0:Nat)(a1:Int)(a2:Str)(a3:Nat)(a4:Nat)(a5:Str)(a6:Nat)(a7:Nat):Obj:=qb zH (.dict #[(qd P zq a0 (.str gI 187)),(qd P zr (a0+4) (.int a1 (a0+3))),(qd P a2 a3 (.ref a4)),(qd P a5 (a3+2) (.ref a6)),(qd P Kf (a3+3) .none)] a7)
def Kj(P:dD)(a0:Nat)(a1:Str)(a2:Int)(a3:Nat):Obj:=qb zH (.dict #[(qd P zq a0 (.str gI 187)),(qd P Zy (a0+2) (.str a1 (a0+1))),(qd P zr (a0+4) (.int a2 (a0+3))),(qd P nP (a0+12) (.ref a3)),(qd P zF (a0+14) (.ref (a3+1)))] 5)
def Kk(a0:Int)(a1:Nat):Obj:=(.mk .none .none (.fields #[(.int a0 0),(.int 4 0),(.ref a1)]) #[])
def jA(P:dD):List Obj:=[boot_o_0 P,boot_o_1 P,boot_o_2 P,boot_o_3 P,boot_o_4 P,boot_o_5 P,boot_o_6 P,boot_o_7 P,boot_o_8 P,boot_o_9 P,boot_o_10 P,qb aW (.seq #[] 0),qI 0,rR K5 182 1 11 185,rS 13 3 N4 164]
def kT(P:dD):List Obj:=((jA P).set 3 (qM P (qd P nQ 165 (.str gI 187)) 9 10)).set 12 (qI 3)++[qb aW (.seq #[(.type iQ)] 0),tZ,fe P 196 dP 2 22,qb aW (.seq #[] 0),(.mk .none .none (.fields #[]) #[]),rR dP 191 2 18 194,rS 20 17 gI 187,qb aW (.seq #[] 0),Ah P 196 2 zF 201 22 AB 25 3,(.mk (.type qC) .none (.cls (.mk dP [(.type iQ)] [(.ref 24),(.type iQ),(.type rY),(.type rV),(.type rW)] 23 dP .true [] [] .false .none .false)) #[(.some (.ref 15)),.none,(.some (.str dP 189)),(.some (.str dP 197)),(.some (.builtin rX)),(.some (.bool .true))]),qb V6 (.fields #[(.str AB 202),(.ref 24),(.builtin V7),.none]),uA 24,tY 24]
def lQ(P:dD):List Obj:=(((kT P).set 3 (qM P (qd P nQ 165 (.str gI 187)) 10 11)).set 12 (qI 6)).set 24 ((.mk (.type qC) .none (.cls (.mk dP [(.type iQ)] [(.ref 24),(.type iQ),(.type rY),(.type rV),(.type rW)] 23 dP .true [] [(.ref 37)] .false .none .false)) #[(.some (.ref 15)),.none,(.some (.str dP 189)),(.some (.str dP 197)),(.some (.builtin rX)),(.some (.bool .true))]))++[qb aW (.seq #[(.ref 24)] 0),tZ,fe P 214 zt 4 35,qb aW (.seq #[] 0),(.mk .none .none (.fields #[]) #[]),rR zt 209 4 31 212,rS 33 30 gI 187,qb aW (.seq #[] 0),pq P 214 4 35,vZ zt 37 36 28 207,uA 37,tY 37]
def mO(P:dD):List Obj:=(((lQ P).set 3 (qM P (qd P nQ 165 (.str gI 187)) 11 12)).set 12 (qI 9)).set 24 ((.mk (.type qC) .none (.cls (.mk dP [(.type iQ)] [(.ref 24),(.type iQ),(.type rY),(.type rV),(.type rW)] 23 dP .true [] [(.ref 37),(.ref 49)] .false .none .false)) #[(.some (.ref 15)),.none,(.some (.str dP 189)),(.some (.str dP 197)),(.some (.builtin rX)),(.some (.bool .true))]))++[qb aW (.seq #[(.ref 24)] 0),tZ,fe P 230 zu 6 47,qb aW (.seq #[] 0),(.mk .none .none (.fields #[]) #[]),rR zu 225 6 43 228,rS 45 42 gI 187,qb aW (.seq #[] 0),pq P 230 6 47,vZ zu 49 48 40 223,uA 49,tY 49]
def nN(P:dD):List Obj:=(((mO P).set 3 (qM P (qd P nQ 165 (.str gI 187)) 12 13)).set 12 (qI 12)).set 24 ((.mk (.type qC) .none (.cls (.mk dP [(.type iQ)] [(.ref 24),(.type iQ),(.type rY),(.type rV),(.type rW)] 23 dP .true [] [(.ref 37),(.ref 49),(.ref 61)] .false .none .false)) #[(.some (.ref 15)),.none,(.some (.str dP 189)),(.some (.str dP 197)),(.some (.builtin rX)),(.some (.bool .true))]))++[qb aW (.seq #[(.ref 24)] 0),tZ,fe P 246 zw 8 59,qb aW (.seq #[] 0),(.mk .none .none (.fields #[]) #[]),rR zw 241 8 55 244,rS 57 54 gI 187,qb aW (.seq #[] 0),pq P 246 8 59,vZ zw 61 60 52 239,uA 61,tY 61]
def oX(P:dD):List Obj:=(((nN P).set 3 (qM P (qd P nQ 165 (.str gI 187)) 13 14)).set 12 (qI 15)).set 24 ((.mk (.type qC) .none (.cls (.mk dP [(.type iQ)] [(.ref 24),(.type iQ),(.type rY),(.type rV),(.type rW)] 23 dP .true [] [(.ref 37),(.ref 49),(.ref 61),(.ref 73)] .false .none .false)) #[(.some (.ref 15)),.none,(.some (.str dP 189)),(.some (.str dP 197)),(.some (.builtin rX)),(.some (.bool .true))]))++[qb aW (.seq #[(.ref 24)] 0),tZ,fe P 262 zx 10 71,qb aW (.seq #[] 0),(.mk .none .none (.fields #[]) #[]),rR zx 257 10 67 260,rS 69 66 gI 187,qb aW (.seq #[] 0),pq P 262 10 71,vZ zx 73 72 64 255,uA 73,tY 73]
def pX(P:dD):List Obj:=(((oX P).set 3 (qM P (qd P nQ 165 (.str gI 187)) 14 15)).set 12 (qI 18)).set 24 ((.mk (.type qC) .none (.cls (.mk dP [(.type iQ)] [(.ref 24),(.type iQ),(.type rY),(.type rV),(.type rW)] 23 dP .true [] [(.ref 37),(.ref 49),(.ref 61),(.ref 73),(.ref 85)] .false .none .false)) #[(.some (.ref 15)),.none,(.some (.str dP 189)),(.some (.str dP 197)),(.some (.builtin rX)),(.some (.bool .true))]))++[qb aW (.seq #[(.ref 24)] 0),tZ,fe P 278 zy 12 83,qb aW (.seq #[] 0),(.mk .none .none (.fields #[]) #[]),rR zy 273 12 79 276,rS 81 78 gI 187,qb aW (.seq #[] 0),pq P 278 12 83,vZ zy 85 84 76 271,uA 85,tY 85]
def rP(P:dD):List Obj:=(((pX P).set 3 (qM P (qd P nQ 165 (.str gI 187)) 15 16)).set 12 (qI 21)).set 24 ((.mk (.type qC) .none (.cls (.mk dP [(.type iQ)] [(.ref 24),(.type iQ),(.type rY),(.type rV),(.type rW)] 23 dP .true [] [(.ref 37),(.ref 49),(.ref 61),(.ref 73),(.ref 85),(.ref 104)] .false .none .false)) #[(.some (.ref 15)),.none,(.some (.str dP 189)),(.some (.str dP 197)),(.some (.builtin rX)),(.some (.bool .true))]))++[qb aW (.seq #[(.ref 24)] 0),tZ,Kj P 294 zz 14 101,qb aW (.seq #[] 0),Kk 16 100,rR zz 289 14 91 292,rS 93 90 gI 187,qb aW (.seq #[] 0),(.mk .none .none (.fields #[]) #[]),qA Ka 302 tX,qb aW (.seq #[] 0),(.mk .none .none (.func (.mk nP Kb (vX rQ) (.stmts (pY rQ)) (vY rQ) 0 [] .none .none .none .none .none .none .none 0)) #[]),fN nP 299 Kb 16 2 95 304 305,qb Ai (.func (.mk nP Kb (vX rQ) (.stmts (pY rQ)) (vY rQ) 3 [] .none .none .none (.str gI 187) .none (.ref 100) .none 0)),qb aW (.seq #[(.str tX 307)] 0),Ah P 294 14 nP 306 101 zF 102 2,vZ zz 104 103 88 287,uA 104,tY 104]
def tV(P:dD):List Obj:=(((rP P).set 3 (qM P (qd P nQ 165 (.str gI 187)) 16 17)).set 12 (qI 24)).set 24 ((.mk (.type qC) .none (.cls (.mk dP [(.type iQ)] [(.ref 24),(.type iQ),(.type rY),(.type rV),(.type rW)] 23 dP .true [] [(.ref 37),(.ref 49),(.ref 61),(.ref 73),(.ref 85),(.ref 104),(.ref 123)] .false .none .false)) #[(.some (.ref 15)),.none,(.some (.str dP 189)),(.some (.str dP 197)),(.some (.builtin rX)),(.some (.bool .true))]))++[qb aW (.seq #[(.ref 24)] 0),tZ,Kj P 319 Aa 18 120,qb aW (.seq #[] 0),Kk 20 119,rR Aa 314 18 110 317,rS 112 109 gI 187,qb aW (.seq #[] 0),(.mk .none .none (.fields #[]) #[]),qA Ka 327 tX,qb aW (.seq #[] 0),(.mk .none .none (.func (.mk nP Kd (vX Af) (.stmts (pY Af)) (vY rQ) 0 [] .none .none .none .none .none .none .none 0)) #[]),fN nP 324 Kd 20 2 114 329 330,qb Ai (.func (.mk nP Kd (vX Af) (.stmts (pY Af)) (vY rQ) 3 [] .none .none .none (.str gI 187) .none (.ref 119) .none 0)),qb aW (.seq #[(.str tX 332)] 0),Ah P 319 18 nP 331 120 zF 121 2,vZ Aa 123 122 107 312,uA 123,tY 123]
def vW(P:dD):List Obj:=(((tV P).set 3 (qM P (qd P nQ 165 (.str nR 362)) 24 25)).set 12 (qI 27)).set 24 ((.mk (.type qC) .none (.cls (.mk dP [(.type iQ)] [(.ref 24),(.type iQ),(.type rY),(.type rV),(.type rW)] 23 dP .true [] [(.ref 37),(.ref 49),(.ref 61),(.ref 73),(.ref 85),(.ref 104),(.ref 123),(.ref 142)] .false .none .false)) #[(.some (.ref 15)),.none,(.some (.str dP 189)),(.some (.str dP 197)),(.some (.builtin rX)),(.some (.bool .true))]))++[qb aW (.seq #[(.ref 24)] 0),tZ,Kj P 344 Ab 22 139,qb aW (.seq #[] 0),Kk 24 138,rR Ab 339 22 129 342,rS 131 128 gI 187,qb aW (.seq #[] 0),(.mk .none .none (.fields #[]) #[]),qA Ka 352 tX,qb aW (.seq #[] 0),(.mk .none .none (.func (.mk nP Ke (vX Ag) (.stmts (pY Ag)) (vY rQ) 0 [] .none .none .none .none .none .none .none 0)) #[]),fN nP 349 Ke 24 2 133 354 355,qb Ai (.func (.mk nP Ke (vX Ag) (.stmts (pY Ag)) (vY rQ) 3 [] .none .none .none (.str gI 187) .none (.ref 138) .none 0)),qb aW (.seq #[(.str tX 357)] 0),Ah P 344 22 nP 356 139 zF 140 2,vZ Ab 142 141 126 337,uA 142,tY 142,qb aW (.seq #[(.str O4 368),(.str O5 369),(.str O6 370),(.str O7 371),(.str O8 372),(.str O9 373),(.str P0 374),(.str P4 375)] 0)]
def yW(P:dD):List Obj:=(vW P).set 3 (qM P (qd P nQ 165 (.str nR 362)) 25 26)++[qb zH (.dict #[(qd P P6 385 (.ref 147)),(qd P P7 389 (.ref 148)),(qd P P8 393 (.ref 149)),(qd P P9 398 (.ref 150)),(qd P Q0 403 (.ref 151)),(qd P Q3 408 (.ref 152)),(qd P Q4 413 (.ref 153)),(qd P Q5 418 (.ref 154)),(qd P Q7 423 (.ref 155)),(qd P Q8 428 (.ref 156)),(qd P Q9 433 (.ref 157)),(qd P R6 438 (.ref 158)),(qd P R7 443 (.ref 159)),(qd P R8 448 (.ref 160)),(qd P R9 453 (.ref 161)),(qd P S4 458 (.ref 162)),(qd P S5 463 (.ref 163)),(qd P AD 467 (.ref 165)),(qd P AE 469 (.ref 166))] 19),qA cY 386 zG,qA cY 390 cY,jB cY 394 cY cY,jB cY 399 cY cY,jB cY 404 cY cY,jB cY 409 cY cY,jB cY 414 cY cY,jB cY 419 cY cY,jB cY 424 cY cY,jB cY 429 cY cY,jB cY 434 cY cY,jB cY 439 cY cY,jB cY 444 cY cY,jB cY 449 cY cY,jB cY 454 cY AF,jB cY 459 cY AF,qA cY 464 Kg,qb zH (.dict #[(qd P AD 467 (.ref 165)),(qd P AE 469 (.ref 166))] 2),qb aW (.seq #[(.str Kg 468)] 0),qb aW (.seq #[(.str zG 470)] 0)]
def eu(P:dD):List Obj:=((yW P).set 3 (qM P (qd P nQ 165 (.str og 553)) 38 39)).set 12 (qI 66)++[qb aW (.seq #[] 0),(.mk .none .none (.fields #[]) #[]),qb aW (.seq #[(.str tX 477)] 0),qb aW (.seq #[] 0),dZ oh (qS 19),fN oh 474 oh 35 1 167 478 479,eA oh (qS 19) nR 362 172,qb aW (.seq #[] 0),(.mk .none .none (.fields #[]) #[]),dZ Ac (qS 20),rT Ac 481 37 1 174 484,eA Ac (qS 20) nR 362 177,qb aW (.seq #[] 0),(.mk .none .none (.fields #[]) #[]),dZ Ad (qS 21),rT Ad 487 39 2 179 490,eA Ad (qS 21) nR 362 182,qb aW (.seq #[] 0),(.mk .none .none (.fields #[]) #[]),qb aW (.seq #[(.str zG 496)] 0),qb aW (.seq #[] 0),dZ oj (qS 22),fN oj 493 oj 41 1 184 497 498,eA oj (qS 22) nR 362 189,qb aW (.seq #[] 0),(.mk .none .none (.fields #[]) #[]),jB S8 503 T1 pk,qb aW (.seq #[] 0),dZ oo (qS 23),fN oo 500 oo 43 2 191 506 507,eA oo (qS 23) nR 362 196,qb aW (.seq #[] 0),(.mk .none .none (.fields #[]) #[]),qA zG 512 pk,qb aW (.seq #[] 0),dZ oq (qS 24),fN oq 509 oq 50 1 198 514 515,eA oq (qS 24) nR 362 203,qb aW (.seq #[] 0),(.mk .none .none (.fields #[]) #[]),qb aW (.seq #[(.str zG 520)] 0),qb aW (.seq #[] 0),dZ ot (qS 25),fN ot 517 ot 55 1 205 521 522,eA ot (qS 25) nR 362 210,qb aW (.seq #[] 0),(.mk .none .none (.fields #[]) #[]),qb aW (.seq #[(.str zG 527)] 0),qb aW (.seq #[] 0),dZ ou (qS 26),fN ou 524 ou 57 1 212 528 529,eA ou (qS 26) nR 362 217,qb aW (.seq #[] 0),(.mk .none .none (.fields #[]) #[]),qA T2 534 zG,qb aW (.seq #[] 0),dZ ow (qS 27),fN ow 531 ow 59 2 219 536 537,eA ow (qS 27) nR 362 224,qb aW (.seq #[] 0),(.mk .none .none (.fields #[]) #[]),dZ Ae (qS 28),rT Ae 539 67 1 226 542,eA Ae (qS 28) nR 362 229,qb aW (.seq #[] 0),(.mk .none .none (.fields #[]) #[]),qA tX 548 T3,qb aW (.seq #[] 0),dZ oy (qS 29),fN oy 545 oy 78 1 231 550 551,eA oy (qS 29) nR 362 236,qb aW (.seq #[] 0),(.mk .none .none (.fields #[]) #[]),qb aW (.seq #[(.str T4 558),(.str AG 559),(.str pk 560),(.str tX 561),(.str AI 562),(.str Kh 563)] 0),qb aW (.seq #[] 0),dZ oz (qS 31),fN oz 555 oz 84 1 238 564 565,eA oz (qS 31) og 553 243,qb aW (.seq #[] 0),(.mk .none .none (.fields #[]) #[]),qb aW (.seq #[(.str AG 570),(.str AJ 571),(.str T5 572),(.str pk 573),(.str AI 574),(.str Kh 575)] 0),qb aW (.seq #[] 0),dZ pj (qS 32),fN pj 567 pj 94 1 245 576 577,eA pj (qS 32) og 553 250]
def md(P:dD):List Obj:=((eu P).set 3 (qM P (qd P nQ 165 (.str iI 596)) 50 51)).set 12 (qI 102)++[qb aW (.seq #[] 0),(.mk .none .none (.fields #[]) #[]),ff Kh 582 pk AJ K8 Kg,qb aW (.seq #[] 0),dZ mq (qS 33),fN mq 579 mq 105 4 252 587 588,eA mq (qS 33) og 553 257,qb aW (.seq #[] 0),(.mk .none .none (.fields #[]) #[]),dZ zc (qS 34),rT zc 590 116 1 259 593,eA zc (qS 34) og 553 262,qb aW (.seq #[] 0),(.mk .none .none (.fields #[]) #[]),qA K9 601 fc,qb aW (.seq #[] 0),dZ mv (qS 36),fN mv 598 mv 122 2 264 603 604,eA mv (qS 36) iI 596 269,qb aW (.seq #[] 0),(.mk .none .none (.fields #[]) #[]),qA Zt 609 fc,qb aW (.seq #[] 0),dZ mw (qS 37),fN mw 606 mw 126 2 271 611 612,eA mw (qS 37) iI 596 276,qb aW (.seq #[] 0),(.mk .none .none (.fields #[]) #[]),ff yZ 617 Jx L4 fc Zu,qb aW (.seq #[] 0),dZ my (qS 38),fN my 614 my 128 1 278 622 623,eA my (qS 38) iI 596 283,qb aW (.seq #[] 0),(.mk .none .none (.fields #[]) #[]),ff L6 628 yZ Jy fc L7,qb aW (.seq #[] 0),dZ mz (qS 39),fN mz 625 mz 135 2 285 633 634,eA mz (qS 39) iI 596 290,qb aW (.seq #[] 0),(.mk .none .none (.fields #[]) #[]),dZ zi (qS 40),rT zi 636 145 2 292 639,eA zi (qS 40) iI 596 295,qb aW (.seq #[] 0),(.mk .none .none (.fields #[]) #[]),qb aW (.seq #[(.str yZ 645),(.str Zv 646),(.str L8 647),(.str Jz 648),(.str fc 649),(.str Zu 650)] 0),qb aW (.seq #[] 0),dZ ng (qS 41),fN ng 642 ng 154 2 297 651 652,eA ng (qS 41) iI 596 302,qb aW (.seq #[] 0),(.mk .none .none (.fields #[]) #[]),dZ zj (qS 42),rT zj 654 161 1 304 657,eA zj (qS 42) iI 596 307,qb aW (.seq #[] 0),(.mk .none .none (.fields #[]) #[]),jB yZ 663 Jx L9,qb aW (.seq #[] 0),dZ nh (qS 43),fN nh 660 nh 177 1 309 666 667,eA nh (qS 43) iI 596 314,qb aW (.seq #[] 0),(.mk .none .none (.fields #[]) #[]),jB M0 672 yZ Zw,qb aW (.seq #[] 0),dZ ni (qS 44),fN ni 669 ni 183 2 316 675 676,eA ni (qS 44) iI 596 321,qb aW (.seq #[] 0),(.mk .none .none (.fields #[]) #[]),jB yZ 681 M1 Jx,qb aW (.seq #[] 0),dZ nj (qS 45),fN nj 678 nj 189 2 323 684 685,eA nj (qS 45) iI 596 328]
def yy(P:dD):List Obj:=((md P).set 3 (qM P (qd P nQ 165 (.str iI 596)) 59 60)).set 12 (qI 129)++[qb aW (.seq #[] 0),(.mk .none .none (.fields #[]) #[]),qb aW (.seq #[(.str Zt 690),(.str fc 691),(.str M3 692),(.str M4 693),(.str yZ 694),(.str Zx 695),(.str M5 696)] 0),qb aW (.seq #[] 0),dZ nk (qS 46),fN nk 687 nk 195 4 330 697 698,eA nk (qS 46) iI 596 335,qb aW (.seq #[] 0),(.mk .none .none (.fields #[]) #[]),dZ zk (qS 47),rT zk 700 208 2 337 703,eA zk (qS 47) iI 596 340,qb aW (.seq #[] 0),(.mk .none .none (.fields #[]) #[]),dZ zm (qS 48),rT zm 706 219 1 342 709,eA zm (qS 48) iI 596 345,qb aW (.seq #[] 0),(.mk .none .none (.fields #[]) #[]),ff M6 715 M7 Zv Jy M8,qb aW (.seq #[] 0),dZ nq (qS 49),fN nq 712 nq 228 1 347 720 721,eA nq (qS 49) iI 596 352,qb aW (.seq #[] 0),(.mk .none .none (.fields #[]) #[]),dZ zo (qS 50),rT zo 723 237 1 354 726,eA zo (qS 50) iI 596 357,qb aW (.seq #[] 0),(.mk .none .none (.fields #[]) #[]),ff Jz 732 M9 Zw N1 N2,qb aW (.seq #[] 0),dZ nu (qS 51),fN nu 729 nu 258 2 359 737 738,eA nu (qS 51) iI 596 364,qb aW (.seq #[] 0),(.mk .none .none (.fields #[]) #[]),jB Zz 743 AA N3,qb aW (.seq #[] 0),dZ nv (qS 52),fN nv 740 nv 268 1 366 746 747,eA nv (qS 52) iI 596 371,qb aW (.seq #[] 0),(.mk .none .none (.fields #[]) #[]),ff Zz 752 Zx Jy AA Jz,qb aW (.seq #[] 0),dZ ny (qS 53),fN ny 749 ny 275 3 373 757 758,eA ny (qS 53) iI 596 378,qb aW (.seq #[] 0),(.mk .none .none (.fields #[]) #[]),dZ zp (qS 54),rT zp 760 287 1 380 763,eA zp (qS 54) iI 596 383]
def tw8218316385558397151:dD->aQ:=λP=>lF (p:=λt=>t=(.mk (jA P).toArray (.mk [] [] [] 0 [] [] .false #[] [] 0 .false .false .false 0 [2000,10,10] .false 0 .true [] [] 0 .false))) ⟨_,by dsimp only[jA,lE,fT,hW]⟩
theorem te8218316385558397151:tw8218316385558397151=tw8218316385558397151:=rfl
def tw1644369227593217165:dD->BT:=λP=>lF (p:=λt=>t=qB 12 (jA P)) ⟨_,by dsimp only[jA,lE,fT,hW,qB,qe,qg]⟩
theorem te1644369227593217165:tw1644369227593217165=tw1644369227593217165:=rfl
def tw2347783159367682518:List Stmt:=[(qS 0),(qS 1)]
theorem te2347783159367682518:tw2347783159367682518=tw2347783159367682518:=rfl
def tw11628779864859271576:dD->BT:=λP=>lF (p:=λt=>t=qB 12 (kT P)) ⟨_,by dsimp only[kT,jA,lE,fT,hW,qB,qe,qg]⟩
theorem te11628779864859271576:tw11628779864859271576=tw11628779864859271576:=rfl
def tw16582616638374261095:List Stmt:=[(qS 2)]
theorem te16582616638374261095:tw16582616638374261095=tw16582616638374261095:=rfl
def tw4869555145487283094:dD->BT:=λP=>lF (p:=λt=>t=qB 12 (lQ P)) ⟨_,by dsimp only[lQ,kT,jA,lE,fT,hW,qB,qe,qg]⟩
theorem te4869555145487283094:tw4869555145487283094=tw4869555145487283094:=rfl
def tw18025037790479141700:List Stmt:=[(qS 3)]
theorem te18025037790479141700:tw18025037790479141700=tw18025037790479141700:=rfl
def tw14200885392148075836:dD->BT:=λP=>lF (p:=λt=>t=qB 12 (mO P)) ⟨_,by dsimp only[mO,lQ,kT,jA,lE,fT,hW,qB,qe,qg]⟩
theorem te14200885392148075836:tw14200885392148075836=tw14200885392148075836:=rfl
def tw3250327784161146398:List Stmt:=[(qS 4)]
theorem te3250327784161146398:tw3250327784161146398=tw3250327784161146398:=rfl
def tw279017185626658719:dD->BT:=λP=>lF (p:=λt=>t=qB 12 (nN P)) ⟨_,by dsimp only[nN,mO,lQ,kT,jA,lE,fT,hW,qB,qe,qg]⟩
theorem te279017185626658719:tw279017185626658719=tw279017185626658719:=rfl
def tw14123909304095342922:List Stmt:=[(qS 5)]
theorem te14123909304095342922:tw14123909304095342922=tw14123909304095342922:=rfl
def tw7391741161824943699:dD->BT:=λP=>lF (p:=λt=>t=qB 12 (oX P)) ⟨_,by dsimp only[oX,nN,mO,lQ,kT,jA,lE,fT,hW,qB,qe,qg]⟩
theorem te7391741161824943699:tw7391741161824943699=tw7391741161824943699:=rfl
def tw9620674791499483629:List Stmt:=[(qS 6)]
theorem te9620674791499483629:tw9620674791499483629=tw9620674791499483629:=rfl
def tw2189367837986451729:dD->BT:=λP=>lF (p:=λt=>t=qB 12 (pX P)) ⟨_,by dsimp only[pX,oX,nN,mO,lQ,kT,jA,lE,fT,hW,qB,qe,qg]⟩
theorem te2189367837986451729:tw2189367837986451729=tw2189367837986451729:=rfl
def tw9820104116125816700:List Stmt:=[(qS 7)]
theorem te9820104116125816700:tw9820104116125816700=tw9820104116125816700:=rfl
def tw2589641401532430726:dD->BT:=λP=>lF (p:=λt=>t=qB 12 (rP P)) ⟨_,by dsimp only[rP,pX,oX,nN,mO,lQ,kT,jA,lE,fT,hW,qB,qe,qg]⟩
theorem te2589641401532430726:tw2589641401532430726=tw2589641401532430726:=rfl
def tw14372731753790959650:List Stmt:=[(qS 8)]
theorem te14372731753790959650:tw14372731753790959650=tw14372731753790959650:=rfl
def tw17740901522773970562:dD->BT:=λP=>lF (p:=λt=>t=qB 12 (tV P)) ⟨_,by dsimp only[tV,rP,pX,oX,nN,mO,lQ,kT,jA,lE,fT,hW,qB,qe,qg]⟩
theorem te17740901522773970562:tw17740901522773970562=tw17740901522773970562:=rfl
def tw10092266747760140736:List Stmt:=[(qS 9),(qS 10),(qS 11),(qS 12),(qS 13),(qS 14),(qS 15),(qS 16),(qS 17)]
theorem te10092266747760140736:tw10092266747760140736=tw10092266747760140736:=rfl
def tw67715903216336859:dD->BT:=λP=>lF (p:=λt=>t=qB 12 (vW P)) ⟨_,by dsimp only[vW,tV,rP,pX,oX,nN,mO,lQ,kT,jA,lE,fT,hW,qB,qe,qg]⟩
theorem te67715903216336859:tw67715903216336859=tw67715903216336859:=rfl
def tw1240874078658593628:List Stmt:=[(qS 18)]
theorem te1240874078658593628:tw1240874078658593628=tw1240874078658593628:=rfl
def tw10804408834626695023:dD->BT:=λP=>lF (p:=λt=>t=qB 12 (yW P)) ⟨_,by dsimp only[yW,vW,tV,rP,pX,oX,nN,mO,lQ,kT,jA,lE,fT,hW,qB,qe,qg]⟩
theorem te10804408834626695023:tw10804408834626695023=tw10804408834626695023:=rfl
def tw8906248552931604376:List Stmt:=[(qS 19),(qS 20),(qS 21),(qS 22),(qS 23),(qS 24),(qS 25),(qS 26),(qS 27),(qS 28),(qS 29),(qS 30),(qS 31),(qS 32)]
theorem te8906248552931604376:tw8906248552931604376=tw8906248552931604376:=rfl
def tw8783133333274456019:dD->BT:=λP=>lF (p:=λt=>t=qB 12 (eu P)) ⟨_,by dsimp only[eu,yW,vW,tV,rP,pX,oX,nN,mO,lQ,kT,jA,lE,fT,hW,qB,qe,qg]⟩
theorem te8783133333274456019:tw8783133333274456019=tw8783133333274456019:=rfl
def tw14273112477757297843:List Stmt:=[(qS 33),(qS 34),(qS 35),(qS 36),(qS 37),(qS 38),(qS 39),(qS 40),(qS 41),(qS 42),(qS 43),(qS 44),(qS 45)]
theorem te14273112477757297843:tw14273112477757297843=tw14273112477757297843:=rfl
def tw5918206029767105582:dD->BT:=λP=>lF (p:=λt=>t=qB 12 (md P)) ⟨_,by dsimp only[md,eu,yW,vW,tV,rP,pX,oX,nN,mO,lQ,kT,jA,lE,fT,hW,qB,qe,qg]⟩
theorem te5918206029767105582:tw5918206029767105582=tw5918206029767105582:=rfl
def tw9132575011015522376:List Stmt:=[(qS 46),(qS 47),(qS 48),(qS 49),(qS 50),(qS 51),(qS 52),(qS 53),(qS 54)]
theorem te9132575011015522376:tw9132575011015522376=tw9132575011015522376:=rfl
def tw3816744352398359170:dD->BT:=λP=>lF (p:=λt=>t=qB 12 (yy P)) ⟨_,by dsimp only[yy,md,eu,yW,vW,tV,rP,pX,oX,nN,mO,lQ,kT,jA,lE,fT,hW,qB,qe,qg]⟩
theorem te3816744352398359170:tw3816744352398359170=tw3816744352398359170:=rfl
def tw12978560171449592471:dD->aQ:=λP=>lF (p:=λt=>t=(.mk (yy P).toArray (.mk [] [] [] 0 [] [] .false #[] [] 0 .false .false .false 0 [2000,10,10] .false 0 .true [] [] 0 .false))) ⟨_,by dsimp only[yy,md,eu,yW,vW,tV,rP,pX,oX,nN,mO,lQ,kT,jA,lE,fT,hW]⟩
theorem te12978560171449592471:tw12978560171449592471=tw12978560171449592471:=rfl
def tw13208455329478822880:PySem.Program:=aKc
theorem te13208455329478822880:tw13208455329478822880=tw13208455329478822880:=rfl
end PySem.W.Fast
theorem PySem.Challenge.cw_aheadmill_k12_labels_holds : PySem.Challenge.rw_aheadmill_k12_labels.Holds := by
 w_on;o_law;k_head;(case hw=>w_witness2)
 k_fill
 refine AM.walk (k:=2*12+2) (x:="_law_script") (l:=aKd) rfl rfl ⟨rfl,by decide,by decide⟩ (λw h Y=>W.kIn_of Y) ?F
 case F=>
  intro w mg fa h KX G hmg;refine' AMx.all_mk KX G hmg ?D ?lb ?oN ?Mq ?Mr ?Ms ?Mt ?Mu ?Mv ?Ce ?Cf ?Cg ?Mo ?Mj ?Cd ?yd ?Mp ?Mn ?Ml ?Mm ?Mk ?Ip ?Gx ?Jv ?DI ?Ky ?Rw ?Rx ?Ry ?Rz ?GO ?sF ?GJ ?GL ?sD ?GH ?GN ?sE ?GI ?Xz ?Xx ?Xy ?Wv ?Vy ?Wj ?Wu ?Vx ?Wi ?Wr ?Vw ?Wh ?Wq ?Vv ?Wg ?Wo ?Vu ?Wf ?Wy ?Wb ?Wm ?Wx ?Wa ?Wl ?Ww ?Vz ?Wk ?Mw ?Wz ?Wc ?Wn
  case D=>
   unfold AMx.Gs AMx.lI;repeat' first
    |exact AM.lG.nil
    | (apply AM.lG.one (dV:=.none);(case l=>k_is);(case c=>k_is);(case k=>k_is);(case b=>first|exact L2.Binds.all λus hl=>by obtain⟨v0,rfl⟩:=AM.EZ hl;rfl|exact L2.Binds.all λus hl=>by obtain⟨v0,v1,rfl⟩:=AM.FA hl;rfl|exact L2.Binds.all λus hl=>by obtain⟨v0,v1,v2,rfl⟩:=AM.FC hl;rfl|exact L2.Binds.all λus hl=>by obtain⟨v0,v1,v2,v3,rfl⟩:=AM.aFa hl;rfl);(case s=>exact⟨by kernel_rfl,by kernel_rfl,by kernel_rfl,by decide +kernel,by kernel_rfl,by decide +kernel,by decide +kernel⟩))
  (case lb=>exact λv=>rfl)
  (case Mq|Mr|Ms|Mt|Mu|Mv|Ce|Cf|Cg|Mo|Mj|Cd|yd|Mp|Mn|Ml|Mm|Mk|Ip=>k_is)
  (case Gx|Jv=>rfl)
  (case Ky=>decide)
  (case Mw=>k_is)
  (all_goals kernel_rfl)
