import PyProof.Rows.All
import Wide.All
import OpenK.AllK
import Wide.FinOn
import PyProof.EqAt
import PyProof.EqKinds
import PyProof.TupleCall
import KE.BitLaws
import Open.SpecLaws
import KE.OsHead
import KE.OsGo
import KE.KNestM
import PyProof.StrLawsTight
import PyProof.Rows.SetFrom
import KE.KxText
import KE.KSortTupUse
import KE.KSortTupG
import KE.KLam
import KE.KIntText
import KE.IntTextLaws
import VbpoafSpec
import VbpoafNeutral
import PyFlat
import PyVbpoaf
import PySem.Challenge.RW_timetable_s01_answers
set_option Elab.async false
set_option linter.all false
set_option maxRecDepth 100000
set_option maxHeartbeats 2000000
set_option maxHeartbeats 0 in
theorem x'1:PySem.Challenge.rw_timetable_s01_answers.wellSaid=true:=by decide +kernel
namespace PySem.W.Fast
def tw377960426746353312:=0
def tw2225934505825870011:=0
def tw13138489937905972307:=0
def tw8202618508767039309:=0
def tw10106452358576287715:=0
def tw1356530990323928037:=0
def tw9270983925376368951:=0
def tw17707554893051619219:=0
def tw13638555984969728152:=0
def tw1138216688751388387:=0
def tw6223839231038647471:=0
def tw16379198651680987251:=0
def tw13262495207404559399:=0
def tw1557665714136664981:=0
def tw11122102211453004535:=0
def tw8737554236624900608:=0
def tw10460911393102049953:=0
def tw7398331504644126345:=0
def tw523318849188541562:=0
def tw10707250760831064422:=0
def tw13798584567205682792:=0
def tw3496201344999478111:=0
def tw16600583091648942313:=0
def tw14244550878535044790:=0
def tw6528440531585382592:=0
def tw14256515117654565043:=0
def tw3144063472849473141:=0
def tw17348840948867715613:=0
def tw9681332025721383734:=0
def tw3288309336862329495:=0
def tw9506422329640140179:=0
def tw14597664288223580218:=0
def tw6488885686102015834:=0
def tw13957132608030274589:=0
def tw4703887514703557537:=0
def tw17147649583745243693:=0
def tw2077218690228583753:=0
def tw10341834564171971329:=0
def tw527937257301012690:=0
def tw14903722907240944395:=0
def tw665323628745610737:=0
def tw1002106309380639030:=0
def tw5930176350870678240:=0
def tw9447649007365089898:=0
def tw7784524997358106345:=0
def tw16575821445773918405:=0
def tw13398737276337062352:=0
def tw10875051421412103861:=0
def tw5511889850368720653:=0
def tw6083752576757866195:=0
def tw4982667227869530212:=0
def tw17959997241330946021:=0
def tw13537500056355880227:=0
def tw16990492490904812594:=0
def tw6289616952911774675:=0
def tw15577474476441394128:=0
def tw14415145512257354096:=0
def tw13663544188487350848:=0
def tw12222236231384312425:=0
def tw4856864103018088636:=0
def tw15884654250851732684:=0
def tw14548168753750951498:=0
def tw5952196888204595003:=0
def tw14697427894420094603:=0
def tw9626936802197120995:=0
def tw9954082643920681829:=0
def tw12896283655916093610:=0
def tw6061951911125941718:=0
def tw17341482357915696238:=0
def tw12950708796089247111:=0
def tw6981502208302200152:=0
def tw3294944657482268303:=0
def tw1886101448057014668:=0
def tw4674592123268666612:=0
def tw1783932227066628792:=0
def tw8486148407357348604:=0
def tw16184041180943611872:=0
def tw8076151415774996482:=0
def tw5782660768528893189:=0
def tw3662101780213199631:=0
def tw13154646364717334304:=0
def tw11011606118903372441:=0
def tw6005761677432708457:=0
def tw13964824986974555656:=0
def tw10886396585503315573:=0
def tw233272349156829781:=0
def tw4632342910512130617:=0
def tw13058750714240310519:=0
def tw963357368547959128:=0
def tw12241051489725315938:=0
def tw10101174169139020229:=0
def tw9838180334893163731:=0
def tw6783789079129684195:=0
def tw14203582879205016312:=0
def tw846044109481037918:=0
def tw4843115120667557246:=0
def tw9576025522286702647:=0
def tw4674662147972700065:=0
def tw12144310107648966242:=0
def tw7254598244803616313:=0
def tw4491317157246930193:=0
def tw3785630127011424152:=0
def tw13764127158390288365:=0
def tw3514767158103842695:=0
def tw10689279690653343219:=0
def tw4822492238876495304:=0
def tw5088650304556776231:=0
def tw7318022667305957307:=0
def tw10403400997172436052:=0
def tw5987134947884895564:=0
def tw10798963192526709444:=0
def tw893368071307482152:=0
def tw14189143613265171677:=0
def tw6919361156486065652:=0
def tw12149821213339633627:=0
def tw16592153007006597670:=0
def tw1732992095918315695:=0
def tw5058480681487137470:=0
def tw13043470423688220351:=0
def tw4934927230513848358:=0
def tw3847632905762631899:=0
def tw5155056063023508204:=0
def tw11009429022912060831:=0
def tw17704749167291428039:=0
def tw11706991828098069268:=0
def tw11273933392348490871:=0
def tw4803066957079550730:=0
def tw5207824484880883001:=0
def tw10019326290405025057:=0
def tw6543189498417310023:=0
def tw1415559728348040440:=0
def tw11098435141386757645:=0
def tw5718576535894757844:=0
def tw15694093706459278764:=0
def tw5875991838949214578:=0
def tw14180124243200395153:=0
def tw3231013666114313317:=0
def tw13839027543827563697:=0
def tw10456377881739924241:=0
def tw14829337859018339545:=0
def tw4771149881275252139:=0
def tw7387911932151475972:=0
def tw545624113113534477:=0
def tw1958569185227171730:=0
def tw14229543729493047111:=0
def tw1057758678869091806:=0
def tw937569360334129370:=0
def tw3345636444473583143:=0
def tw9263374354846973768:=0
def tw16420573496189647433:=0
def tw8971601767710802105:=0
def tw6137063421079830737:=0
def tw12289717121578223331:=0
def tw1584896944849990072:=0
def tw14723778756416447871:=0
def tw11990197703521268108:=0
def tw10183947672986856536:=0
def tw4088011551275045469:=0
def tw13245876269491689599:=0
def tw7401896781106343654:=0
def tw13846063238510699849:=0
def tw3432876637095059539:=0
def tw6755647486748177315:=0
def tw6640669428689165308:=0
def tw8767774748480898611:=0
def tw1032905450066444737:=0
def tw3672457801904536567:=0
def tw18116204544310824867:=0
def tw8206777463292274197:=0
def tw15982379261163405231:=0
def tw12070669792794430615:=0
def tw6977468376786387961:=0
def tw2347889684378726021:=0
def tw16879378294445855045:=0
def tw8833080242618443116:=0
def tw11855532702025121595:=0
def tw7486683170740290190:=0
def tw9690642403950560865:=0
def tw417005001796405921:=0
def tw2176897685112910168:=0
def tw10927168939809193339:=0
def tw1999834549892264487:=0
def tw10688104760008461426:=0
def tw16828808023875425168:=0
def tw5479003260099863949:=0
end PySem.W.Fast
open Array renaming forIn_toList->Ro,getElem?_eq_getElem->Hv,getElem?_eq_none->Mt,getElem_toList->OU,length_toList->fX,size_zip->Xp,toList->BL,toList_inj->Us
open Array.Perm renaming refl->AA
open Bool renaming and_eq_true->ak,and_eq_true_iff->Pd,and_false->yo,eq_false_iff->ki,eq_iff_iff->cV,false_and->kZ,false_eq_true->fG,false_ne_true->bz,noConfusion->dR,not_eq_false->Ut,not_eq_true'->r9,or_eq_true->E1,true_and->Aq
open Char renaming toNat->SS
open Eq renaming trans->ab1
open Except renaming error->XZ
open False renaming elim->ee
open ForInStep renaming yield->ss
open Int renaming toNat->Xq,toNat_natCast->kr
open List renaming all_cons->lQ,all_eq_true->bB,all_map->BR,any_cons->iS,any_eq_false->Uu,any_eq_true->jE,any_map->jZ,append_assoc->et,append_nil->b9,cons_append->UX,contains_eq_mem->Pg,drop_drop->X2,drop_eq_getElem_cons->eW,drop_length->UY,drop_of_length_le->eS,drop_zero->X3,eq_of_mem_replicate->lR,eq_replicate_iff->OV,ext_getElem?->r_,filterMap_cons->pw,filterMap_flatMap->MG,filter_append->cr,filter_cons->cz,filter_eq_nil_iff->vN,filter_map->Xr,filter_nil->eN,find?_append->Uv,find?_cons->jo,flatMap_append->f8,flatMap_cons->js,flatMap_map->tT,flatten_cons->Uw,foldl->ST,foldl_append->BS,foldl_cons->iD,forIn_nil->X4,getD_eq_getElem?_getD->qo,getElem?_append_right->Hx,getElem?_drop->AB,getElem?_eq_getElem->bb,getElem?_eq_none->fu,getElem?_eq_some_iff->ai,getElem?_map->aF,getElem?_range->f9,getElem?_replicate->tU,getElem?_set_ne->lc,getElem?_set_self->iM,getElem?_take_of_lt->J6,getElem_inj->tV,getElem_mem->tX,getElem_of_mem->eY,getLast?_eq_getElem?->jj,getLast?_eq_none_iff->qP,getLast?_eq_some_getLast->Ev,length->Ph,length_append->ap,length_cons->aP,length_drop->iW,length_eq_zero_iff->jF,length_filterMap_le->J7,length_filter_le->bK,length_map->ab,length_nil->dg,length_pos_iff->Rr,length_range->bQ,length_replicate->gt,length_set->jp,length_singleton->ci,length_take->aM,length_zipIdx->gJ,lookup->lf,lookup_cons->jG,map->aql,map_append->aj,map_congr_left->cJ,map_cons->bD,map_drop->As,map_id->Pi,map_map->dJ,map_nil->m_,map_take->ZY,mem_append->br,mem_append_left->fO,mem_append_right->cj,mem_cons->aD,mem_cons_of_mem->au,mem_cons_self->aJ,mem_filter->eO,mem_filterMap->SU,mem_flatMap->tY,mem_map->aY,mem_of_find?_eq_some->qQ,mem_of_getElem?->aZ,mem_of_mem_drop->yp,mem_of_mem_take->yq,mem_range->gV,mem_reverse->UZ,mem_singleton->aX,nodup_append->dU,nodup_cons->bJ,nodup_iff_pairwise_ne->Hy,nodup_nil->X5,not_mem_nil->cR,of_mem_zip->oR,pairwise_append->Pj,pairwise_cons->ja,pairwise_iff_getElem->Jf,pairwise_map->Ux,pairwise_singleton->Mu,range->ay,range'->ag5,range'_succ->U0,range_succ->l9,range_succ_eq_map->MH,replicate->fY,replicate_succ'->Pk,set_eq_of_length_le->su,size_toArray->ba,take_length->aK,take_of_length_le->vO,take_succ_cons->Rs,toList_toArray->lC
open List.Pairwise renaming filter->Eu,imp_of_mem->ag4,nil->Hw
open List.Perm renaming append_left->axq,cons->axr,cons_inv->axs,eq_of_pairwise->axt,refl->vp,swap->Rq
open List.Sublist renaming append->ail,map->aim,refl->ain,trans->aio
open List.cons renaming inj->axu,injEq->Pf
open Nat renaming add_assoc->Mv,add_comm->ag6,add_le_add_left->pI,add_le_add_right->Rt,le_of_ble_eq_true->dB,le_of_eq->vZ,le_of_lt->Dc,le_of_succ_le->sw,le_refl->aA,le_succ->yB,le_trans->aE,lt_irrefl->fZ,lt_of_le_of_lt->qv,lt_of_lt_of_le->bg,lt_of_not_le->Xs,lt_or_ge->OW,lt_succ_of_lt->nc,lt_succ_self->vq,lt_trans->qj,min_eq_left->iF,min_eq_right->Ew,min_le_right->Xt,min_self->OX,mul_le_mul->ZZ,mul_le_mul_left->SV,mul_le_mul_right->gX,ne_of_gt->ng,ne_of_lt->bw,pow_le_pow_right->Ru,succ_mul->OY,toDigits->OZ,zero_add->lz,zero_le->bV
open Ne renaming symm->cA
open Option renaming bind->Z0,bind_eq_some_iff->cD,getD_none->iO,getD_some->lg,isNone->yC,isSome_iff_exists->lD,isSome_map->AC,isSome_none->Pl,isSome_some->pJ,map_eq_some_iff->bu,map_none->D_,map_some->j0,none->Z1
open Option.some renaming inj->bp,injEq->J8
open Or renaming inl->J9,inr->BT
open PyFlat renaming call->Dd,calls->mB,played->Hz,row->ab2,rows->Z2,told->De
open PyProof.Rows renaming AllBare->Hh,Constant_none->Rv,FormattedValue_plain->v7,IsTup->ab4,Subscript_->Z3,boot_dict->ag7,boot_int->Xu,boot_str->BM,callWith_builtin1->aip,callWith_type1->jI,envOfC->BN,formatField_str->aiq,join_list->air,join_tuple->ais,ksk_rest->aok,lexLt->ait,listUpdate_at->Ea,notIn_str->aiu,seqObj->iT,setObjOf_fresh->aiv,size_push'->Z4,sortedAll_at->aiw,sortedAll_old->aix,sorted_ints->aiy,split_le->aiz,subscriptTail_builtinR->Uy
open PyProof.Rows.F renaming entry_set_update_loop->sx,plain_set_update_loop->j5
open PyProof.Rows.G renaming tupKeyC->ab3,tupKindC->O0
open PyProof.Rows.G.KeepsTups renaming refl->axv
open PyProof.Rows.SortSt renaming mk'->ab5
open PySem renaming Addr->af,Arguments->pz,Around->dD,BindsTo->Uz,CmpOp->Hk,DictEntry->nt,Env->Kb,Fin->aji,FuncData->b_,GenState->Xw,Heap->cE,Keyword->vP,Model->ab9,NameKind->jC,Obj->iG,Paired->cg,Params->Ji,Pos->km,Program->aS,PyData->Ey,Result->Z7,Scope->jq,Sem->Xx,Shared->ao,Stmt->cK,Tok->X7,Value->ag,Within->Mw,World->bL,assignEach->yD,atKey->O4,backTo->iU,backToKw->tS,behindInMarks->jd,bindArgs->yb,bindC->SW,bindL->SX,bootBuiltins->yE,boot_len->jD,builtinsNs->EA,cLine->ot,call_list_seq->aq0,call_meets->yF,call_meetsIn->ou,callerA->UC,cellsFrom->eQ,closureFor->O5,codeAny->vR,codeAny_mono->ow,compEnvC->lL,compPost->aop,evalPart_none->aq1,foldedSetIterable->vS,getattributeRaised->Z8,intBits_le_64->aq2,intText?->aoq,isSubtype_type->aor,keywordEach->lM,letOwnedTupleGo->zp,mainGlobals->bS,mem_of_lookup->cy,newFunctionEnv->aot,notedBy->MO,plainId_quiet->Eb,pushCells->sy,pushCells_keeps->zq,rawInt->Jk,recursionLimit->aou,seqIndex_neg->UD,seqIndex_of->Xy,sizeLine_eq->fV,sliceBounds->qm,slot_list_getitem->ace,starEach->bi,strValues->ahn,subscripted->Kg,swapsWith->sD,sysModules->jJ,tupleKind->yc,tupleKind_room_in1->ko,typeLookup->Z9,valueAt->BX,wpAny_Call_Name_kw->jr,wpAny_Call_method->Hs,wpAny_Compare1->aov,wpAny_Dict_empty->aho,wpAny_Name->Z',wpAny_execs_cons->ahp,wpAny_execs_nil->zr,wpAny_getItem_of->ahq,wpAny_isTrue_Compare1->U3,wpAny_mono->gp,wpAny_newFunctionEnv_cells->O6,wpAny_newList->aq3,wpAny_passesOwn->kR,wpAny_pyIter_enum->acf,wpAny_pyIter_list->Ht,wpAny_pyNext_list_end->U4,wpAny_pyNext_list_item->UE,wpAny_standAt->RC,wpAny_truthy_bool->iP
open PySem.Around renaming under->J',under_plainId->nY
open PySem.Builtin renaming len->axz,sorted->ax0
open PySem.Builtin.Dict renaming addKeywords->ai0,pairItems->ai1,pendingCount->ai2,selfAndRest->ai3,updateFrom->Df
open PySem.Builtin.Frozenset renaming updateFrom->Xv
open PySem.Builtin.List renaming listTooLong->oS
open PySem.Builtin.Range renaming rangeSize->ag8
open PySem.Builtin.Str renaming glued->J_,occurrences->qk,partsBetween->Dg,strKind->HA,strSliceIndices->cW,subAt->Ka
open PySem.Calls renaming Constant_str->Rw,Name_function_global->Hj,callWith_builtin->iJ,evalArgs_plain->kO,spliced_cons->jX,spliced_nil->mX
open PySem.CmpOp renaming In->aol,NotIn->ab6
open PySem.Code renaming frames->ag9,isFrame->MI
open PySem.Data renaming seq->X6
open PySem.DictEntry renaming refKey->ax1
open PySem.EqMixed renaming eq_bool_str->aha,eq_int_str->ahb,eq_str_bool->ahc,eq_str_int->ahd,ne_bool_str->ahe,ne_int_str->ahf,ne_str_bool->ahg,ne_str_int->ahh
open PySem.EqNone renaming eq_bool_none->ai4,eq_int_none->ai5,eq_none_bool->ai6,eq_none_int->ai7,eq_none_none->ai8,eq_none_str->ai9,eq_str_none->aja,ne_bool_none->ajb,ne_int_none->ajc,ne_none_bool->ajd,ne_none_int->aje,ne_none_none->ajf,ne_none_str->ajg,ne_str_none->ajh
open PySem.F renaming args_dict_get_2->HB,args_dict_get_3->HC,args_str_split_2->Dh,called_set->gm,entry_dict_get->my,entry_str_split->Ex,plainAttrs_dict->sh,plainAttrs_list->HD,plainAttrs_str->Z5,plainAttrs_tuple->Hl,slot_dict_get->iX,slot_dict_getitem->E2,slot_dict_len->ab7,slot_dict_update->Hm,slot_list_append->O1,slot_list_extend->O2,slot_list_getattribute->nh,slot_str_isdigit->Hn,slot_str_split->v8,slot_str_startswith->oK,slot_str_zfill->Jg,slot_tuple_index->qw,type_dict_get->Kc,type_str_isdigit->Ho,type_str_startswith->oM,type_str_zfill->Jh,type_tuple_index->Hq
open PySem.Heap renaming SameBut->BU,get?_push_ne->kj,get?_push_of_some->aC,get?_push_size->bq,get?_update_ne->Rx,get?_update_other->MK,lt_size->bf,size_push->d7,size_update->U1
open PySem.Heap.DictOf renaming new->MJ
open PySem.Heap.IsSliceOf renaming new->ab8
open PySem.Heap.SameBut renaming update->Hr
open PySem.IsL renaming update->ax2
open PySem.NameKind renaming cell->E3,free->ni
open PySem.NumText renaming digitsVal->BV
open PySem.Obj renaming mapSeq->dZ
open PySem.Paired renaming length->HE,snoc->Z6
open PySem.PassesOwn renaming never->bj
open PySem.PyData renaming eqv->zm
open PySem.SeqAt renaming EqAt->BO,in_listAt->U2,shaped->vt
open PySem.SeqAt.EqAt renaming bool_bool->aqm,bool_int->aqn,bool_none->aqo,bool_str->aqp,int_bool->aqq,int_int->aqr,int_none->Jj,int_str->Kd,list_none->aqs,none_bool->aqt,none_int->aqu,none_str->aqv,same->O3,str_bool->aqw,str_int->Ke,str_none->aqx,str_str->aqy
open PySem.Str renaming empty->zo,join->Ry,length->UA,ofString->bo
open PySem.StrLaws renaming found_one->ahi,sliceText->gu,sliceText_nat->ahj,strSliceIndices_plain->ahk
open PySem.Txt renaming isdigit->E4,join->Rz,split->kg,startswith->nj,zfill->ML
open PySem.Unicode renaming isDigit->Di
open PySem.Value renaming bool->nN,bytes->aca,float->acb,int->Dj,isInt->acd,isStrOf->X8,none->ql,ref->bn,str->yr,type->kP
open PySem.Value.type renaming inj->Pn
open PySem.W renaming Frag->ad,WData->kQ,WRecords->RA,WellAll->BW,callWith_K->pA,callWith_K0->MM,cellsFrom_some->tR,codeHdIn->nk,codeHd_of_K->MN,codeIn->pB,emptyDict->fS,findIn->eB,fnOf->gG,handedIn->RB,hasDictIn->qp,instObj->jc,isFn->At,keepIn->gR,kla_fn->pC,kla_obj->jY,length_le_weightAllW->Dk,lookIn->v9,makesIn->tZ,methodCall_KW->Kf,methodObj->Au,mg_none_of->dh,mg_of->gI,nsIn->ef,plainGet->nq,plainGet_of->x_,plainOver->Av,takerIn->Dl
open PySem.W.Codec renaming app->UB,denoteAll->Ez,encAll->vv
open PySem.W.KIN renaming call_text->aon,signs_num->aoo
open PySem.W.KT renaming len_num->aqz
open PySem.W.Looks renaming here->ahl
open PySem.W.ReadsAllW renaming cons->ax3,nil->ax4
open PySem.W.WData renaming int->ajj,weightAll->vQ
open PySem.Walks renaming list->ahm
open PySem.Within renaming cons->ajk
open PyVbpoaf renaming answers->qR,answers_asked->HF,calls->SY,shape->gK,whole->jx
open Std.Legacy renaming Range->MP
open Std.Legacy.Range renaming forIn_eq_forIn_range'->X9,size->X'
open Sum renaming inl->v_,inr->Dm
open ToString renaming toString->BP
open True renaming intro->eZ
open Vbpoaf renaming Answer->AE,Bytes->er,Call->cM,DELAYS->HH,Delay->ajl,LASTDAY->gT,LOADS->AF,Label->cn,Leg->dP,Load->bv,OFFICES->mY,Reading->cP,Ride->bZ,STOPS->Ya,State->aO,Stop->eE,TIMES->lh,Table->eT,Taken->eR,Trip->ax,World->ah,ahead->dF,allDays->gU,arrAt->d8,backRide->df,backs->Z_,begin_->dY,begunAll->iV,bests->pD,between->dO,bookAll->jt,bookOne->zt,booked->pK,bookedOf->XA,byRank->cp,bytesOf->we,cut->bx,daysOf->j6,decimal->dG,depAt->bE,earliest->dQ,earliestIn->gj,empty->gL,goes->c9,gone->dI,hasRoom->qr,«ints»->bH,isDigit->di,isOffice->cC,lateAt->vT,latest->AG,legNumbers->bX,lineOf->E5,linesOf->i8,loadAt->gk,loadBefore->EB,minAt->Ki,minOf->qx,no->md,number->eK,officeAt->dX,officeOf->cX,onTo->wf,once->n6,putLoad->BY,rideOf->nO,rides->eh,round->Kj,rounds->cB,runBy->jN,runs->wg,shown->oU,shownStop->sE,shownTime->iQ,shownTrip->fI,spanOf->iR,standing->gb,start->mC,step->az,stopOf->BZ,stow->eF,tableOf->ny,takenAll->Aw,takenBy->bU,text->bO,timeOf->bP,total->dw,tripAt->cI,tripBy->HI,tripOf->ku,tryRide->cO,two->ach,upTo->gM,usedOn->cU,wayAnswer->S0,whole->oV,withRun->dC,withStop->li,within->aH,words->kU
open VbpoafNeutral renaming callOf->EC,step->iC
section
local macro_rules|`(tactic|show $t)=>`(tactic|refine $t)
local macro_rules|`(tactic|rintro $p*:$f:ident $a*<|$t)=>`(tactic|rintro $p*:$f $a* ($t))|`(tactic|rintro $p*:$f:ident<|$t)=>`(tactic|rintro $p*:$f ($t))|`(tactic|rintro $p*:$f:ident $a*)=>do if a.size==1 then `(tactic|(refine $f $(a.back!) ?_;(try clear $(a.back!));rintro $p*))else let n:=a[0]!.raw.toNat;`(tactic|(refine $f $(a.back!) ?_;(try clear $(a.back!));rintro $(p.extract 0 n)* w';rintro $(p.extract n p.size)*:$(a[1]!) $(a.extract 2 (a.size-1))* w'))
local macro_rules|`(#[$f:ident,$a,*])=>do if f.getId.toString.startsWith "i" then `($f $a*) else Lean.Macro.throwUnsupported
def bW{a':Sort _}{A:a'->Prop}{C:Prop}(h:∃a,A a)(k:∀a,A a->C):C:=by obtain⟨a,pa⟩:=h;show k a pa
def im{a' b':Sort _}{A B:a'->b'->Prop}(a:a')(b:b')(pa:A a b)(pb:B a b):∃a b,A a b/\B a b:=⟨a,b,pa,pb⟩
def ia{a':Sort _}{A B:a'->Prop}(a:a')(pa:A a)(pb:B a):∃a,A a/\B a:=⟨a,pa,pb⟩
def bM{a':Sort _}{A B:a'->Prop}{C:Prop}(h:∃a,A a/\B a)(k:∀a,A a->B a->C):C:=by obtain⟨a,pa,pb⟩:=h;show k a pa pb
def N3{A:Prop}{a' b':Sort _}{B D:a'->b'->Prop}{C:Prop}(h:A/\∃a b,B a b/\D a b)(k:A->∀a b,B a b->D a b->C):C:=by obtain⟨pa,a,b,pb,pc⟩:=h;show k pa a b pb pc
def EQ{A:Prop}{a':Sort _}{B D:a'->Prop}{C:Prop}(h:A/\∃a,B a/\D a)(k:A->∀a,B a->D a->C):C:=by obtain⟨pa,a,pb,pc⟩:=h;show k pa a pb pc
def vW{A B:Prop}{a':Sort _}{D E:a'->Prop}{C:Prop}(h:A/\B/\∃a,D a/\E a)(k:A->B->∀a,D a->E a->C):C:=by obtain⟨pa,pb,a,pc,pd⟩:=h;show k pa pb a pc pd
def N2{a' b' c':Sort _}{A B:a'->b'->c'->Prop}{C:Prop}(h:∃a b c,A a b c/\B a b c)(k:∀a b c,A a b c->B a b c->C):C:=by obtain⟨a,b,c,pa,pb⟩:=h;show k a b c pa pb
def xf{a' b' c' d':Sort _}{A B:a'->b'->c'->d'->Prop}{C:Prop}(h:∃a b c d,A a b c d/\B a b c d)(k:∀a b c d,A a b c d->B a b c d->C):C:=by obtain⟨a,b,c,d,pa,pb⟩:=h;show k a b c d pa pb
def EO{A B D E F:Prop}{C:Prop}(h:A/\B/\D/\E/\F)(k:A->B->D->E->F->C):C:=by obtain⟨pa,pb,pc,pd,pe⟩:=h;show k pa pb pc pd pe
def Qx{a' b' c':Sort _}{A:a'->b'->c'->Prop}{C:Prop}(h:∃a b c,A a b c)(k:∀a b c,A a b c->C):C:=by obtain⟨a,b,c,pa⟩:=h;show k a b c pa
def fo{A B:Prop}{C:Prop}(h:A/\B)(k:A->B->C):C:=by obtain⟨pa,pb⟩:=h;show k pa pb
def lB{A B D:Prop}{C:Prop}(h:A/\B/\D)(k:A->B->D->C):C:=by obtain⟨pa,pb,pc⟩:=h;show k pa pb pc
def iz{A:Prop}{a' b':Sort _}{B D:a'->b'->Prop}(pa:A)(a:a')(b:b')(pb:B a b)(pc:D a b):A/\∃a b,B a b/\D a b:=⟨pa,a,b,pb,pc⟩
def io{A:Prop}{a':Sort _}{B D:a'->Prop}(pa:A)(a:a')(pb:B a)(pc:D a):A/\∃a,B a/\D a:=⟨pa,a,pb,pc⟩
def iA{A B:Prop}{a':Sort _}{D E:a'->Prop}(pa:A)(pb:B)(a:a')(pc:D a)(pd:E a):A/\B/\∃a,D a/\E a:=⟨pa,pb,a,pc,pd⟩
def ir{a' b':Sort _}{A:a'->b'->Prop}(a:a')(b:b')(pa:A a b):∃a b,A a b:=⟨a,b,pa⟩
def ic{A B D:Prop}(pa:A)(pb:B)(pc:D):A/\B/\D:=⟨pa,pb,pc⟩
def iy{a' b' c' d':Sort _}{A:a'->b'->c'->d'->Prop}(a:a')(b:b')(c:c')(d:d')(pa:A a b c d):∃a b c d,A a b c d:=⟨a,b,c,d,pa⟩
def iq{A B D E F:Prop}(pa:A)(pb:B)(pc:D)(pd:E)(pe:F):A/\B/\D/\E/\F:=⟨pa,pb,pc,pd,pe⟩
def rE{a' b':Sort _}{A B:a'->b'->Prop}{C:Prop}(h:∃a b,A a b/\B a b)(k:∀a b,A a b->B a b->C):C:=by obtain⟨a,b,pa,pb⟩:=h;show k a b pa pb
def ib{a' b':Sort _}{A B D:a'->b'->Prop}(a:a')(b:b')(pa:A a b)(pb:B a b)(pc:D a b):∃a b,A a b/\B a b/\D a b:=⟨a,b,pa,pb,pc⟩
def ij{A B D E:Prop}(pa:A)(pb:B)(pc:D)(pd:E):A/\B/\D/\E:=⟨pa,pb,pc,pd⟩
def fD{a' b':Sort _}{A B D:a'->b'->Prop}{C:Prop}(h:∃a b,A a b/\B a b/\D a b)(k:∀a b,A a b->B a b->D a b->C):C:=by obtain⟨a,b,pa,pb,pc⟩:=h;show k a b pa pb pc
def lA{a' b':Sort _}{A B D E:a'->b'->Prop}{C:Prop}(h:∃a b,A a b/\B a b/\D a b/\E a b)(k:∀a b,A a b->B a b->D a b->E a b->C):C:=by obtain⟨a,b,pa,pb,pc,pd⟩:=h;show k a b pa pb pc pd
def ie{a':Sort _}{A B D:a'->Prop}(a:a')(pa:A a)(pb:B a)(pc:D a):∃a,A a/\B a/\D a:=⟨a,pa,pb,pc⟩
def gF{a':Sort _}{A B D:a'->Prop}{C:Prop}(h:∃a,A a/\B a/\D a)(k:∀a,A a->B a->D a->C):C:=by obtain⟨a,pa,pb,pc⟩:=h;show k a pa pb pc
def rD{a' b' c':Sort _}{A B D:a'->b'->c'->Prop}{C:Prop}(h:∃a b c,A a b c/\B a b c/\D a b c)(k:∀a b c,A a b c->B a b c->D a b c->C):C:=by obtain⟨a,b,c,pa,pb,pc⟩:=h;show k a b c pa pb pc
def ii{a' b' c':Sort _}{A B D:a'->b'->c'->Prop}(a:a')(b:b')(c:c')(pa:A a b c)(pb:B a b c)(pc:D a b c):∃a b c,A a b c/\B a b c/\D a b c:=⟨a,b,c,pa,pb,pc⟩
def ip{A B D E F G:Prop}(pa:A)(pb:B)(pc:D)(pd:E)(pe:F)(pf:G):A/\B/\D/\E/\F/\G:=⟨pa,pb,pc,pd,pe,pf⟩
def Iw{A B D E F G:Prop}{C:Prop}(h:A/\B/\D/\E/\F/\G)(k:A->B->D->E->F->G->C):C:=by obtain⟨pa,pb,pc,pd,pe,pf⟩:=h;show k pa pb pc pd pe pf
def ik{a' b':Sort _}{A B D E F:a'->b'->Prop}(a:a')(b:b')(pa:A a b)(pb:B a b)(pc:D a b)(pd:E a b)(pe:F a b):∃a b,A a b/\B a b/\D a b/\E a b/\F a b:=⟨a,b,pa,pb,pc,pd,pe⟩
def ig{a' b' c' d' e':Sort _}{A:a'->b'->c'->d'->e'->Prop}(a:a')(b:b')(c:c')(d:d')(e:e')(pa:A a b c d e):∃a b c d e,A a b c d e:=⟨a,b,c,d,e,pa⟩
def Cz{A B D E:Prop}{C:Prop}(h:A/\B/\D/\E)(k:A->B->D->E->C):C:=by obtain⟨pa,pb,pc,pd⟩:=h;show k pa pb pc pd
def DL{a' b' c' d' e':Sort _}{A B D E F:a'->b'->c'->d'->e'->Prop}{C:Prop}(h:∃a b c d e,A a b c d e/\B a b c d e/\D a b c d e/\E a b c d e/\F a b c d e)(k:∀a b c d e,A a b c d e->B a b c d e->D a b c d e->E a b c d e->F a b c d e->C):C:=by obtain⟨a,b,c,d,e,pa,pb,pc,pd,pe⟩:=h;show k a b c d e pa pb pc pd pe
def UT{a' b':Sort _}{A:a'->b'->Prop}{C:Prop}(h:∃a b,A a b)(k:∀a b,A a b->C):C:=by obtain⟨a,b,pa⟩:=h;show k a b pa
def Ix{a':Sort _}{A B D E F:a'->Prop}{C:Prop}(h:∃a,A a/\B a/\D a/\E a/\F a)(k:∀a,A a->B a->D a->E a->F a->C):C:=by obtain⟨a,pa,pb,pc,pd,pe⟩:=h;show k a pa pb pc pd pe
def EN{a' b' c' d' e' f':Sort _}{A:a'->b'->c'->d'->e'->f'->Prop}{C:Prop}(h:∃a b c d e f,A a b c d e f)(k:∀a b c d e f,A a b c d e f->C):C:=by obtain⟨a,b,c,d,e,f,pa⟩:=h;show k a b c d e f pa
def il{a' b' c' d':Sort _}{A B D E F:a'->b'->c'->d'->Prop}(a:a')(b:b')(c:c')(d:d')(pa:A a b c d)(pb:B a b c d)(pc:D a b c d)(pd:E a b c d)(pe:F a b c d):∃a b c d,A a b c d/\B a b c d/\D a b c d/\E a b c d/\F a b c d:=⟨a,b,c,d,pa,pb,pc,pd,pe⟩
def wb{A B D E F G H:Prop}{C:Prop}(h:A/\B/\D/\E/\F/\G/\H)(k:A->B->D->E->F->G->H->C):C:=by obtain⟨pa,pb,pc,pd,pe,pf,pg⟩:=h;show k pa pb pc pd pe pf pg
def iB{A:Prop}{a':Sort _}{B:a'->Prop}(pa:A)(a:a')(pb:B a):A/\∃a,B a:=⟨pa,a,pb⟩
def vV{a' b' c' d' e' f' g' h':Sort _}{A:a'->b'->c'->d'->e'->f'->g'->h'->Prop}{C:Prop}(h:∃a b c d e f g i,A a b c d e f g i)(k:∀a b c d e f g i,A a b c d e f g i->C):C:=by obtain⟨a,b,c,d,e,f,g,i,pa⟩:=h;show k a b c d e f g i pa
def iw{a' b' c' d' e' f' g' h':Sort _}{A:a'->b'->c'->d'->e'->f'->g'->h'->Prop}(a:a')(b:b')(c:c')(d:d')(e:e')(f:f')(g:g')(i:h')(pa:A a b c d e f g i):∃a b c d e f g i,A a b c d e f g i:=⟨a,b,c,d,e,f,g,i,pa⟩
def Wu{a' b' c' d' e':Sort _}{A B:a'->b'->c'->d'->e'->Prop}{C:Prop}(h:∃a b c d e,A a b c d e/\B a b c d e)(k:∀a b c d e,A a b c d e->B a b c d e->C):C:=by obtain⟨a,b,c,d,e,pa,pb⟩:=h;show k a b c d e pa pb
def iu{A B D E F G H:Prop}(pa:A)(pb:B)(pc:D)(pd:E)(pe:F)(pf:G)(pg:H):A/\B/\D/\E/\F/\G/\H:=⟨pa,pb,pc,pd,pe,pf,pg⟩
def l'0{β:Type _}{A:List β}{B:Prop}{V:List β}{N:Nat}(k:(A).length=N)(h:V=A/\B):V.length=N:=by obtain⟨rfl,_⟩:=h;show k
def l'1{a':Sort _}{β:Type _}{A:a'->List β}{B:a'->Prop}{V:List β}{N:Nat}(k:∀a,(A a).length=N)(h:∃a,V=A a/\B a):V.length=N:=by obtain⟨_,rfl,_⟩:=h;show k _
def l'2{a' b':Sort _}{β:Type _}{A:a'->b'->List β}{B:a'->b'->Prop}{V:List β}{N:Nat}(k:∀a b,(A a b).length=N)(h:∃a b,V=A a b/\B a b):V.length=N:=by obtain⟨_,_,rfl,_⟩:=h;show k _ _
def l'3{a' b' c':Sort _}{β:Type _}{A:a'->b'->c'->List β}{B:a'->b'->c'->Prop}{V:List β}{N:Nat}(k:∀a b c,(A a b c).length=N)(h:∃a b c,V=A a b c/\B a b c):V.length=N:=by obtain⟨_,_,_,rfl,_⟩:=h;show k _ _ _
def l'4{a' b' c' d':Sort _}{β:Type _}{A:a'->b'->c'->d'->List β}{B:a'->b'->c'->d'->Prop}{V:List β}{N:Nat}(k:∀a b c d,(A a b c d).length=N)(h:∃a b c d,V=A a b c d/\B a b c d):V.length=N:=by obtain⟨_,_,_,_,rfl,_⟩:=h;show k _ _ _ _
def l'5{a' b' c' d' e':Sort _}{β:Type _}{A:a'->b'->c'->d'->e'->List β}{B:a'->b'->c'->d'->e'->Prop}{V:List β}{N:Nat}(k:∀a b c d e,(A a b c d e).length=N)(h:∃a b c d e,V=A a b c d e/\B a b c d e):V.length=N:=by obtain⟨_,_,_,_,_,rfl,_⟩:=h;show k _ _ _ _ _
def i'{a b c d e:Prop}(h:e):a\/b\/c\/d\/e:=.inr (.inr (.inr (.inr h)))
namespace L2
open PySem PySem.Spec PyProof.Rows
abbrev ez:=Sum Int Str
def A9:ez->ag->Bool
 |.inl k,v=>acd k v
 |.inr x,v=>X8 x v
def avn(w:bL):ez->Int
 |.inl k=>hashInt k
 |.inr x=>hashStr w x
def jl:∀{k:ez}{v:ag},A9 k v=true->(∃i t,k=v_ i/\v=Dj i t)\/(∃x t,k=Dm x/\v=yr x t)
 |.inl i,v,h=>by
  rintro t e:bW<|Value.isInt_shape (k:=i) (v:=v) h;show .inl #[im,i,t,rfl,e]
 |.inr x,v,h=>by
  rintro t e:bW<|Value.isStrOf_shape (x:=x) (v:=v) h;show .inr #[im,x,t,rfl,e]
def TM(i:Int)(t:X7):A9 (.inl i) (.int i t)=true:=by simp[A9,acd]
def TN(x:Str)(t:X7):A9 (.inr x) (.str x t)=true:=by simp[A9,X8]
def ae4(a b:Int):decide ((v_ a:ez)=v_ b)=(a==b):=by
 by_cases e:a=b;.subst e;simp
 .have h:¬(v_ a:ez)=v_ b:=λq=>e (Sum.inl.inj q);rw[decide_eq_false h];show (beq_eq_false_iff_ne.mpr e).symm
def ae7(a b:Str):decide ((Dm a:ez)=Dm b)=decide (a=b):=by
 by_cases e:a=b;.subst e;simp
 .have h:¬(Dm a:ez)=Dm b:=λq=>e (Sum.inr.inj q);rw[decide_eq_false h,decide_eq_false e]
def ae5(a:Int)(b:Str):decide ((v_ a:ez)=Dm b)=false:=decide_eq_false (λq=>nomatch q)
def ae6(a:Str)(b:Int):decide ((Dm a:ez)=v_ b)=false:=decide_eq_false (λq=>nomatch q)
def d6(prog:aS)(w:bL):PySem.KeyKind prog w ez where
 is:=A9
 hash:=avn w
 inj:=λv a b ha hb=>by
  rcases jl ha with⟨i,t,rfl,rfl⟩|⟨x,t,rfl,rfl⟩
  .rcases jl hb with⟨j,u,rfl,e⟩|⟨y,u,rfl,e⟩;.injection e with e1 _;rw[e1]
   .show nomatch e
  .rcases jl hb with⟨j,u,rfl,e⟩|⟨y,u,rfl,e⟩;.show nomatch e
   .injection e with e1 _;rw[e1]
 byValue:=λk v h=>by
  rcases jl h with⟨i,t,rfl,rfl⟩|⟨x,t,rfl,rfl⟩<;>rfl
 pyHash:=λhv h=>by
  rcases jl hv with⟨i,t,rfl,rfl⟩|⟨x,t,rfl,rfl⟩;.show wpAny_pyHash_int h
  .show wpAny_pyHash_str h
 eqBool:=λhu hv h=>by
  rcases jl hu with⟨i,t,rfl,rfl⟩|⟨x,t,rfl,rfl⟩
  .rcases jl hv with⟨j,u,rfl,rfl⟩|⟨y,u,rfl,rfl⟩;.rw[ae4] at h;show wpAny_eqBool_int h
   .rw[ae5] at h;show Kd i t y u _ _ _ _ h
  .rcases jl hv with⟨j,u,rfl,rfl⟩|⟨y,u,rfl,rfl⟩;.rw[ae6] at h;show Ke x t j u _ _ _ _ h
   .rw[ae7] at h;show wpAny_eqBool_str h
 «strs»:=λk x t v h=>by
  rcases jl h with⟨i,u,rfl,e⟩|⟨y,u,rfl,e⟩;.show nomatch e
  .injection e with e1 _;subst e1;cases v<;>rfl
def DI(prog:aS)(w:bL)(i:Int)(t:X7):(d6 prog w).is (.inl i) (.int i t)=true:=TM i t
def NV(prog:aS)(w:bL)(x:Str)(t:X7):(d6 prog w).is (.inr x) (.str x t)=true:=TN x t
end L2
namespace L2
open PySem PySem.Spec PyProof.Rows
inductive V where
 |non|bl (b:Bool)|int (i:Int)|str (x:Str)|KS (b:Array UInt8)|flt (b:UInt64)|ref (a:af)|ty (n:String)
 deriving DecidableEq
def RelV:V->ag->Prop
 |.non,u=>u=ql
 |.bl b,u=>u=nN b
 |.int i,u=>∃t,u=Dj i t
 |.str x,u=>∃t,u=yr x t
 |.KS b,u=>∃t,u=aca b t
 |.flt b,u=>∃t,u=acb b t
 |.ref a,u=>u=bn a
 |.ty n,u=>u=kP n
abbrev eV:List V->List ag->Prop:=cg RelV
theorem eV.length{xs:List V}{us:List ag}(r:eV xs us):xs.length=us.length:=HE r
theorem eV.get:∀{xs:List V}{us:List ag}{i:Nat}{x:V},eV xs us->xs[i]? = some x->∃u,us[i]? = some u/\RelV x u
 |_,_,_,_,.nil,e=>by simp at e
 |_,_,0,_,.cons r _,e=>by simp at e;subst e;show #[ia,_,rfl,r]
 |_,_,i+1,x,.cons _ t,e=>by
  rintro u h1 h2:bM<|eV.get (i:=i) (x:=x) t (by simpa using e);show #[ia,u,by simpa using h1,h2]
theorem eV.set{x:V}{u:ag}(r:RelV x u):∀{xs:List V}{us:List ag}(i:Nat),eV xs us->eV (xs.set i x) (us.set i u)
 |_,_,_,.nil=>.nil
 |_,_,0,.cons _ t=>.cons r t
 |_,_,i+1,.cons q t=>.cons q (eV.set r i t)
theorem eV.append:∀{xs ys:List V}{us ws:List ag},eV xs us->eV ys ws->eV (xs++ys) (us++ws)
 |_,_,_,_,.nil,s=>s
 |_,_,_,_,.cons r t,s=>.cons r (eV.append t s)
theorem eV.take:∀{xs:List V}{us:List ag}(n:Nat),eV xs us->eV (xs.take n) (us.take n)
 |_,_,0,_=>.nil
 |_,_,_+1,.nil=>.nil
 |_,_,n+1,.cons r t=>.cons r (eV.take n t)
theorem eV.drop:∀{xs:List V}{us:List ag}(n:Nat),eV xs us->eV (xs.drop n) (us.drop n)
 |_,_,0,r=>r
 |_,_,_+1,.nil=>.nil
 |_,_,n+1,.cons _ t=>eV.drop n t
def ud:Option V->Option ag->Prop
 |some v,some u=>RelV v u
 |none,none=>True
 |_,_=>False
def KV{κ:Type}:List (κ×V)->List (κ×ag)->Prop:=cg λ(p:κ×V)(q:κ×ag)=>p.1=q.1/\RelV p.2 q.2
def kV:ez->V
 |.inl i=>.int i
 |.inr x=>.str x
inductive HO where
 |lst (xs:List V)
 |tup (xs:List V)
 |dK (aQ:List (ez×V))|dT (aQ:List (List ez×V))
 |set (S:Int->Bool) (n:Nat)
 |ins (C dx:af) (fs:List (Str×V))
 |own (x:af)
 |xd (fs:List (Str×V))
 |met (f x:af)
 |rng (lo hi:Int)
 |oO (o:iG) (u:HO)
 |Az (ps:Array ag)
 |ext (φ:cE->Prop)
abbrev Hp:=af->Option HO
def upd(H:Hp)(a:af)(o:HO):Hp:=λb=>if b=a then some o else H b
def aT{H:Hp}{a:af}{o:HO}:upd H a o a=some o:=by unfold upd;rw[if_pos rfl]
def aR{H:Hp}{a b:af}{o:HO}(h:b≠a):upd H a o b=H b:=by unfold upd;rw[if_neg h]
def DJ{H:Hp}{a b:af}{o u:HO}(h:H a=some o)(h':H b=some u)(d:o≠u):a≠b:=by intro e;subst e;rw[h] at h';show d (bp h')
def aI{H:Hp}{a b:af}{o:HO}(h:H a=some o)(h':H b=none):a≠b:=by intro e;subst e;rw[h] at h';cases h'
section
variable(P:aS)(w:bL)
def iY(H:Hp)(h:cE)(a:af):HO->Prop
 |.lst xs=>xs.length<=sizeLine/\∃(its:List ag)(n:Nat),eV xs its/\h.get? a=some { cls:=.type "list",data:=.seq its.toArray n }
 |.tup xs=>xs.length<=sizeLine/\∃its:List ag,eV xs its/\ab4 h a its.toArray
 |.dK aQ=>aQ.length<=sizeLine/\(a==jJ)=false/\∃vs,KV aQ vs/\h.DictOf (d6 P w) a vs
 |.dT aQ=>aQ.length<=sizeLine/\(a==jJ)=false/\∃xs:List (List ez×af×ag),
  cg (λ(p:List ez×V)(q:List ez×af×ag)=>p.1=q.1/\H q.2.1=some (.tup (p.1.map kV))/\RelV p.2 q.2.2) aQ xs/\
  ∃o es ep,h.get? a=some o/\o.ExactDict/\o.data=.dict es ep/\es.toList=xs.map (entryOfKey (yc (d6 P w)))/\(xs.map (·.1)).Nodup
 |.set S n=>h.SetOf (intKind P w) a S n
 |.ins C dx fs=>H dx=some (.own a)/\fs.length<=1000/\dx≠a/\h.get? a=some (jc C dx)/\
  ∃mA,h.Ns1 dx mA/\(∀f,ud (fs.lookup f) (mA f))/\Mw mA (fs.map (·.1))
 |.own _=>∃o,h.get? a=some o
 |.xd fs=>∃mA,h.Ns1 a mA/\∀f,ud (fs.lookup f) (mA f)
 |.rng lo hi=>∃t u v,h.get? a=some { cls:=.type "range",data:=.fields #[.int lo t,.int hi u,.int 1 v] }
 |.oO o u=>h.get? a=some o/\iY H h a u
 |.Az ps=>h.get? a=some { cls:=.none,data:=.fields ps }
 |.met f x=>h.get? a=some (Au (.ref f) (.ref x))
 |.ext φ=>φ h/\(∃o,h.get? a=some o)/\∀h1 h2:cE,φ h1->(∀o,h1.get? a=some o->h2.get? a=some o)->φ h2
def vA(H:Hp)(h:cE):Prop:=∀a o,H a=some o->iY P w H h a o
end
section
variable{P:aS}{w:bL}{H H':Hp}{h h':cE}{a:af}{o:HO}
theorem iY.lt(x:iY P w H h a o):a<h.objs.size:=by
 cases o with
 |lst xs=>rintro _ _ _ _ e:N3 x;show bf e
 |tup xs=>rintro _ _ _ p:EQ x;show p.lt
 |dK aQ=>rintro _ _ _ _ o _ _ e _:vW 4 N2 x;show bf e
 |dT aQ=>rintro _ _ _ _ o _ _ e _:vW 4 N2 x;show bf e
 |set S n=>rintro o _ _ _ e _:xf x;show bf e
 |ins C dx fs=>rintro _ _ _ e _:EO x;show bf e
 |own y=>rintro _ e:bW x;show bf e
 |xd fs=>rintro _ ⟨_,_,_,e,_⟩ _:bM x;show bf e
 |rng lo hi=>rintro _ _ _ e:Qx x;show bf e
 |oO ob u=>rintro e _:fo x;show bf e
 |Az ps=>show bf (show h.get? a=some _ from x)
 |met f y=>show bf (show h.get? a=some _ from x)
 |ext φ=>rintro _ ⟨_,e⟩ _:lB x;show bf e
theorem Paired.afc{α β:Type}{F G:α->β->Prop}:∀{l₁:List α}{l₂:List β},cg F l₁ l₂->(∀a b,F a b->G a b)->cg G l₁ l₂
 |_,_,.nil,_=>.nil
 |_,_,.cons r t,f=>.cons (f _ _ r) (Paired.afc t f)
def iY.yA(x:iY P w H h a o)(k:∀b u,(b=a\/H b=some (.own a))->h.get? b=some u->h'.get? b=some u)
 (ho:∀b,H b=some (.own a)->H' b=some (.own a)) (ht:∀b xs,H b=some (.tup xs)->H' b=some (.tup xs)):iY P w H' h' a o:=by
 induction o with
 |lst xs=>rintro z its n r e:N3 x;show #[iz,z,its,n,r,k _ _ (.inl rfl) e]
 |tup xs=>rintro z its r ob e c:EQ 3 bM x;show #[io,z,its,r,#[ia,ob,k _ _ (.inl rfl) e,c]]
 |dK aQ=>rintro z y vs r ob es ep e c:vW 4 N2 x;show #[iA,z,y,vs,r,#[ir,ob,es,#[ia,ep,k _ _ (.inl rfl) e,c]]]
 |dT aQ=>rintro z y xs r ob es ep e c:vW 4 N2 x;show #[iA,z,y,xs,Paired.afc r λp q z=>#[ic,z.1,ht _ _ z.2.1,z.2.2],#[ir,ob,es,#[ia,ep,k _ _ (.inl rfl) e,c]]]
 |set S n=>rintro ob es ep t e c:xf x;show #[iy,ob,es,ep,t,⟨k _ _ (.inl rfl) e,c⟩]
 |ins C dx fs=>rintro d z ne e mA ⟨od,es,ep,e2,c⟩ r:EO 4 bM x;show #[iq,ho _ d,z,ne,k _ _ (.inl rfl) e,#[ia,mA,#[ir,od,es,#[ia,ep,k _ _ (.inr d) e2,c]],r]]
 |own y=>rintro ob e:bW x;show⟨ob,k _ _ (.inl rfl) e⟩
 |xd fs=>rintro mA ⟨od,es,ep,e,c⟩ r:bM x;show #[ia,mA,#[ir,od,es,#[ia,ep,k _ _ (.inl rfl) e,c]],r]
 |rng lo hi=>rintro t u v e:Qx x;show #[ir,t,u,⟨v,k _ _ (.inl rfl) e⟩]
 |oO ob u ih=>rintro e q:fo x;show⟨k _ _ (.inl rfl) e,ih q⟩
 |Az ps=>have e:h.get? a=some { cls:=.none,data:=.fields ps }:=x;change h'.get? a=some { cls:=.none,data:=.fields ps };show k a _ (.inl rfl) e
 |met f y=>have e:h.get? a=some (Au (.ref f) (.ref y)):=x;change h'.get? a=some (Au (.ref f) (.ref y));show k a _ (.inl rfl) e
 |ext φ=>rintro p ⟨o,e⟩ st:lB x;show #[ic,st _ _ p λo q=>k _ _ (.inl rfl) q,⟨o,k _ _ (.inl rfl) e⟩,st]
theorem vA.lt(x:vA P w H h)(e:H a=some o):a<h.objs.size:=(x a o e).lt
def vA.fresh(x:vA P w H h)(e:h.objs.size<=a):H a=none:=by
 cases q:H a with
 |none=>rfl
 |some u=>show absurd (bg (x.lt q) e) (fZ _)
def vA.kept(x:vA P w H h)(k:∀b u,h.get? b=some u->h'.get? b=some u):vA P w H h':=λa o e=>(x a o e).yA (λb u _ q=>k b u q) (λ_ q=>q) λ_ _ q=>q
def vA.laid(x:vA P w H h)(k:∀b u,h.get? b=some u->h'.get? b=some u)(hp:h.objs.size<=a)(new:iY P w (upd H a o) h' a o):vA P w (upd H a o) h':=λb u e=>by
 have hn:=x.fresh hp;by_cases hb:b=a;.subst hb;rw[aT] at e;cases e;show new
 .rw[aR hb] at e;show (x b u e).yA (λc v _ q=>k c v q) (λc q=>by rw[aR (aI q hn)];show q) λc xs q=>by rw[aR (aI q hn)];show q
end
def Rd(H:Hp)(a:af)(u:HO):Prop:=H a=some u\/∃o,H a=some (.oO o u)
def Rd.ok{P:aS}{w:bL}{H:Hp}{h:cE}{a:af}{u:HO}(r:Rd H a u)(x:vA P w H h):iY P w H h a u:=by
 rcases r with r|⟨o,r⟩;.show x a u r
 .rintro _ q:fo<|x a _ r;show q
def Mut:Option HO->Prop
 |some (.lst _)=>True
 |some (.dK _)=>True
 |some (.dT _)=>True
 |some (.set _ _)=>True
 |some (.ins _ _ _)=>True
 |some (.ext _)=>True
 |_=>False
section
variable{P:aS}{w:bL}{H:Hp}{h h':cE}{x e:af}{o':HO}
def vA.write(ok:vA P w H h)(mu:Mut (H x))(he:e=x\/H e=some (.own x))(k:∀b u,b≠e->h.get? b=some u->h'.get? b=some u)(heo:∃u,h'.get? e=some u)
 (new:iY P w (upd H x o') h' x o'):vA P w (upd H x o') h':=λb u q=>by
 have amw:∀c y,H c=some (.own y)->c≠x:=λc y r z=>by subst z;rw[r] at mu;show mu
 have awf:∀c xs,H c=some (.tup xs)->c≠x:=λc xs r z=>by subst z;rw[r] at mu;show mu
 by_cases hb:b=x;.subst hb;rw[aT] at q;cases q;show new
 .rw[aR hb] at q;by_cases XJ:b=e
  .have q':H b=some (.own x):=by
    rcases he with z|z;.show absurd (XJ.trans z) hb
    .rw[XJ];show z
   rw[q] at q';cases q';rintro v hv:bW heo;show⟨v,by rw[XJ];show hv⟩
  .show (ok b u q).yA (λc v hc r=>k c v ?_ r) (λc r=>by rw[aR (amw c b r)];show r) λc xs r=>by rw[aR (awf c xs r)];show r
   rcases hc with rfl|hc;.show XJ
   .rintro rfl;rcases he with z|z;.show amw c b hc z
    .rw[hc] at z;cases z;show hb rfl
end
structure Un(fs ex:List af)(H H':Hp)(h h':cE):Prop where
 keep:∀b o,h.get? b=some o->H b=none->b∉fs->b∉ex->h'.get? b=some o
 slot:∀b o,h.get? b=some o->H b=none->b∈fs->b∉ex->∃sl,h'.get? b=some { o with slots:=sl }
 free:∀b o,h.get? b=some o->H b=none->b∉ex->H' b=none
 there:∀b o,h.get? b=some o->b∉ex->∃o',h'.get? b=some o'
 Jb:∀b xs,H b=some (.tup xs)->H' b=some (.tup xs)
 FF:∀b o u,H b=some (.oO o u)->H' b=some (.oO o u)
 Ja:∀b ps,H b=some (.Az ps)->∃more,H' b=some (.Az (ps++more))
section
variable{fs fs' ex ex':List af}{H H1 H2:Hp}{h h1 h2 h':cE}{a x e:af}{o:HO}
def Un.any(u:Un fs ex H H1 h h1){b:af}{ob:iG}(q:h.get? b=some ob)(n:H b=none)(hx:b∉ex):∃sl,h1.get? b=some { ob with slots:=sl }:=by
 by_cases hb:b∈fs;.show u.slot b ob q n hb hx
 .show⟨ob.slots,u.keep b ob q n hb hx⟩
def Un.kept(k:∀b u,h.get? b=some u->h'.get? b=some u):Un fs ex H H h h':=
 ⟨λb ob q _ _ _=>k b ob q,λb ob q _ _ _=>⟨ob.slots,k b ob q⟩,λ_ _ _ n _=>n,λb ob q _=>⟨ob,k b ob q⟩,λ_ _ q=>q,λ_ _ _ q=>q,λ_ ps q=>⟨#[],by rw[q];simp⟩⟩
def Un.refl:Un fs ex H H h h:=Un.kept λ_ _ q=>q
def Un.laid(k:∀b u,h.get? b=some u->h'.get? b=some u)(hp:h.objs.size<=a)(hn:H a=none):Un fs ex H (upd H a o) h h' where
 keep:=λb u q _ _ _=>k b u q
 slot:=λb u q _ _ _=>⟨u.slots,k b u q⟩
 free:=λb u q n _=>by rw[aR (bw (bg (bf q) hp))];show n
 there:=λb u q _=>⟨u,k b u q⟩
 Jb:=λb xs q=>by rw[aR (aI q hn)];show q
 FF:=λb u xs q=>by rw[aR (aI q hn)];show q
 Ja:=λb ps q=>⟨#[],by rw[aR (aI q hn),q];simp⟩
def Un.write(mu:Mut (H x))(he:e=x\/H e=some (.own x))(k:∀b u,b≠e->h.get? b=some u->h'.get? b=some u)(heo:∃u,h'.get? e=some u):Un fs ex H (upd H x o) h h':=by
 have hx:∀b,H b=none->b≠x:=λb n z=>by subst z;rw[n] at mu;show mu
 have hb:∀b,H b=none->b≠e:=λb n z=>by
  subst z;rcases he with r|r;.show hx b n r
  .rw[n] at r;cases r
 have hm:∀b u,H b=some u->¬Mut (some u)->b≠x:=λb u q nm z=>by subst z;rw[q] at mu;show nm mu
 show⟨λb u q n _ _=>k b u (hb b n) q,λb u q n _ _=>⟨u.slots,k b u (hb b n) q⟩,λb u q n _=>by rw[aR (hx b n)];show n,λb u q _=>?_,
  λb xs q=>by rw[aR (hm b _ q λz=>z)];show q,λb u xs q=>by rw[aR (hm b _ q λz=>z)];show q,λb ps q=>⟨#[],by rw[aR (hm b _ q λz=>z),q];simp⟩⟩
 by_cases XJ:b=e;.subst XJ;show heo
 .show⟨u,k b u XJ q⟩
end
def trk(h:cE)(H:Hp):List af:=(ay h.objs.size).filter λa=>(H a).isSome
def Il(h:cE)(H:Hp):cE:=PySem.W.hideAll h (trk h H)
def Tu(h:cE)(H:Hp):(Il h H).objs.size=h.objs.size:=PySem.W.hideAll_size _ _
def VY{h:cE}{H:Hp}{b:af}{o:iG}(e:h.get? b=some o)(n:H b=none):(Il h H).get? b=some o:=
 PySem.W.hideAll_get _ e λhm=>by
  have q:(H b).isSome=true:=(eO.mp hm).2;rw[n] at q;simp at q
def Zj{h:cE}{H:Hp}{b:af}{o:iG}(e:(Il h H).get? b=some o):h.get? b=some o/\H b=none:=by
 have e':h.get? b=some o:=PySem.W.of_hideAll (trk h H) e;show⟨e',?_⟩;cases q:H b with
 |none=>rfl
 |some x=>have hm:b∈trk h H:=eO.mpr ⟨gV.mpr (bf e'),by simp[q]⟩;have z:(Il h H).get? b=none:=PySem.W.hideAll_none (trk h H) hm;rw[z] at e;cases e
end L2
namespace L2
open PySem PySem.Spec PyProof.Rows
structure Mod(K:ad)(mg:Str->Option ag)(base:cE):Prop where
 kin:K.In base
 glob:base.Ns bS mg
 blt:∃mb,base.Ns EA mb/\∀x:Str,x≠"__name__"->mb x=yE x
 nolimit:base.NoLimit
structure Cx where
 prog:aS
 w:bL
 K:ad
 mg:Str->Option ag
 base:cE
 A:dD
 N:List Str
 JT:ao
 H_0:Hp
 env:Kb
 outer:List Kb
 stack:List Kb
 ex:List af
 fn:Str->Bool
 calm:Bool
 pn:List (af×iG)
 xe:ag->ao->Prop
def VG(l:List Kb):List af:=l.filterMap (·.frame)
abbrev Cx.fs(X:Cx):List af:=VG X.outer
def Vis(sc:jq)(x:Str):Prop:=sc.names.lookup x=some .local\/sc.names.lookup x=some .cell\/sc.names.lookup x=some .free
def Loc(sc:jq)(x:Str):Prop:=sc.names.lookup x=some .local\/sc.names.lookup x=some .cell
def aqk(env:Kb)(h:cE)(m:Str->Option ag)(x:Str)(u:ag):Prop:=
 (env.kindOf x=some .local/\m x=some u)\/((env.kindOf x=some .cell\/env.kindOf x=some .free)/\∃c,env.cells.lookup x=some c/\h.IsCell c (some u))
structure Cx.Ok(X:Cx):Prop where
 mod:Mod X.K X.mg X.base
 kind:X.env.scope.kind=.function
 glob:X.env.globals=bS
 blt:X.env.builtins=EA
 above:X.JT.heap.objs.size<=X.env.locals
 inj:∀x y c,X.env.cells.lookup x=some c->X.env.cells.lookup y=some c->x=y
 has:∀x,(X.env.kindOf x=some .cell\/X.env.kindOf x=some .free)->∃c,X.env.cells.lookup x=some c
 cab:∀x c,X.fn x=true->X.env.cells.lookup x=some c->X.JT.heap.objs.size<=c
 hd:X.calm=true->X.A.handled=none
 frames:X.A.frames=some X.stack
 stk:X.stack=X.outer\/(X.stack=X.env::X.outer/\X.env.frame=some X.env.locals)
 exf:∀b∈X.ex,b≠X.env.locals/\∀x c,X.env.cells.lookup x=some c->c≠b
 bs:∀b o,X.base.get? b=some o->X.JT.heap.get? b=some o/\X.H_0 b=none
 XF:X.base.objs.size<=X.JT.heap.objs.size
 Wq:∀b o,X.base.get? b=some o->b∉X.ex
 VC:∀b∈X.ex,b∉X.fs
 Ch:X.JT.heap.FunFrames X.base X.outer
 frf:∀b∈X.fs,X.H_0 b=none
structure Inv(X:Cx)(pins:List (af×iG))(σ:List (Option V))(H:Hp)(s:ao):Prop where
 ok:X.Ok
 os:s.os=X.JT.os
 bare:Hh s.gens
 base:Un X.fs X.ex X.H_0 H X.JT.heap s.heap
 loc:∃m,s.heap.Ns X.env.locals m/\∀(i:Nat)(x:Str)(v:V),X.N[i]? = some x->σ[i]? = some (some v)->Vis X.env.scope x->∃u,RelV v u/\aqk X.env s.heap m x u
 cell:∀x c,X.env.cells.lookup x=some c->∃v,s.heap.IsCell c v
 free:H X.env.locals=none
 sV:∀x c,X.env.cells.lookup x=some c->H c=none
 pin:∀p∈X.pn++pins,s.heap.get? p.1=some p.2/\H p.1=none/\p.1≠X.env.locals/\p.1∉X.fs/\∀v,p.2.data≠.cell v
 eU:vA X.prog X.w H s.heap
 len:σ.length=X.N.length
section
variable{X:Cx}{pins:List (af×iG)}{σ:List (Option V)}{H H':Hp}{s:ao}{h':cE}
def Cx.Ok.awb(ok:X.Ok){b:af}{o:iG}(e:X.base.get? b=some o):b∉X.fs:=λhb=>by
 have:=(ok.Ch.mem hb).1;rw[e] at this;cases this
theorem Inv.bs(I:Inv X pins σ H s):∀b o,X.base.get? b=some o->s.heap.get? b=some o/\H b=none:=λb o e=>⟨I.base.keep b o (I.ok.bs b o e).1 (I.ok.bs b o e).2 (I.ok.awb e) (I.ok.Wq b o e),I.base.free b o (I.ok.bs b o e).1 (I.ok.bs b o e).2 (I.ok.Wq b o e)⟩
def Inv.bk(I:Inv X pins σ H s):∀b o,X.base.get? b=some o->s.heap.get? b=some o:=λb o e=>(I.bs b o e).1
theorem Inv.mod(I:Inv X pins σ H s):Mod X.K X.mg X.base:=I.ok.mod
def Inv.ME(I:Inv X pins σ H s):X.K.In s.heap:=I.ok.mod.kin.keeps I.bk
theorem Inv.lt(I:Inv X pins σ H s):X.env.locals<s.heap.objs.size:=bM I.loc λ_ hn _=>hn.lt
def Inv.sz(I:Inv X pins σ H s):X.JT.heap.objs.size<=s.heap.objs.size:=aE I.ok.above (Dc I.lt)
def Inv.awc(I:Inv X pins σ H s){a:af}(h:s.heap.objs.size<=a):a∉X.fs:=λhb=>by
 rintro _ o ho _:EQ<|I.ok.Ch.mem hb;show absurd (bg (bf ho) (aE I.sz h)) (fZ _)
def Inv.cne(I:Inv X pins σ H s):∀x c,X.env.cells.lookup x=some c->c≠X.env.locals:=λx c e z=>by
 rintro v o ho hd:rE<|I.cell x c e;rintro m ⟨o',es,ep,Lg,Mz,_⟩ _:bM I.loc;rw[z,Lg] at ho;cases ho;rw[Mz] at hd;cases hd
theorem Inv.Ch(I:Inv X pins σ H s):s.heap.FunFrames X.base X.outer:=by
 have all:∀(l:List Kb),(∀b∈VG l,b∈X.fs)->X.JT.heap.FunFrames X.base l->s.heap.FunFrames X.base l:=by
  intro l;induction l with
  |nil=>intro _ _;trivial
  |cons env r ih=>
   intro hs hl;rintro hk ⟨L,o,hf,hn,ho,hd⟩ hr:lB hl;have hL:L∈X.fs:=hs L (by unfold VG;rw[pw,hf];show aJ);rintro sl e:bW<|I.base.slot L o ho (I.ok.frf L hL) hL λz=>I.ok.VC L z hL
   show #[ic,hk,#[ib,L,_,hf,hn,⟨e,hd⟩],ih (λb hb=>hs b (by unfold VG;rw[pw,hf];show au _ hb)) hr]
 show all X.outer (λ_ hb=>hb) I.ok.Ch
theorem Inv.stack(I:Inv X pins σ H s):s.heap.FunFrames X.base X.stack:=by
 rcases I.ok.stk with e|⟨e,hf⟩;.rw[e];show I.Ch
 .rw[e];rintro m hn _:bM I.loc;show .cons (by rw[I.ok.kind];decide) hf hn ?_ I.Ch;show Heap.get?_none_of_le (aE I.ok.XF I.ok.above)
def Inv.Q9(I:Inv X pins σ H s):∀b∈VG X.stack,b∈X.env.locals::X.fs:=λb hb=>by
 rcases I.ok.stk with e|⟨e,hf⟩;.rw[e] at hb;show au _ hb
 .rw[e] at hb;unfold VG at hb;rw[pw,hf] at hb;show hb
def Inv.SL(I:Inv X pins σ H s):∀b∈VG X.stack,H b=none:=λb hb=>by
 rcases aD.mp (I.Q9 b hb) with e|hb;.rw[e];show I.free
 .rintro _ o ho _:EQ<|I.ok.Ch.mem hb;show I.base.free b o ho (I.ok.frf b hb) λz=>I.ok.VC b z hb
def Inv.step{g':Array Xw}{t':Nat}{d':Drawn}{ch:List af}(I:Inv X pins σ H s)
 (XL:∀b∈ch,(b∈X.ex\/X.JT.heap.objs.size<=b)/\b≠X.env.locals/\(∀x c,X.env.cells.lookup x=some c->c≠b)/\∀p∈X.pn++pins,p.1≠b)
 (keep:∀b o,b≠X.env.locals->b∉X.fs->b∉ch->s.heap.get? b=some o->H b=none->h'.get? b=some o)
 (slot:∀b o,b≠X.env.locals->b∈X.fs->b∉ch->s.heap.get? b=some o->H b=none->∃sl,h'.get? b=some { o with slots:=sl }) (free:∀b o,b∉ch->s.heap.get? b=some o->H b=none->H' b=none)
 (there:∀b o,b∉ch->s.heap.get? b=some o->∃o',h'.get? b=some o')
 (Jb:∀b xs,H b=some (.tup xs)->H' b=some (.tup xs)) (FF:∀b o u,H b=some (.oO o u)->H' b=some (.oO o u)) (Ja:∀b ps,H b=some (.Az ps)->∃more,H' b=some (.Az (ps++more)))
 (ns:∀m,s.heap.Ns X.env.locals m->h'.Ns X.env.locals m) (eU:vA X.prog X.w H' h') (hg:Hh g'):
 Inv X pins σ H' { s with heap:=h',gens:=g',drawn:=d',toks:=t' }:=by
 have neL:∀b o,X.JT.heap.get? b=some o->b≠X.env.locals:=λb o e=>bw (bg (bf e) I.ok.above);have neC:∀b o,X.JT.heap.get? b=some o->b∉X.ex->b∉ch:=λb o e hx hb=>by
  rcases (XL b hb).1 with z|z;.show hx z
  .show absurd (bg (bf e) z) (fZ _)
 have cellK:∀x c,X.env.cells.lookup x=some c->∀v,s.heap.IsCell c v->h'.IsCell c v:=λx c e v cG=>bM cG λo ho hd=>by
  have nch:c∉ch:=λz=>(XL c z).2.2.1 x c e rfl;by_cases hc:c∈X.fs;.rintro sl q:bW<|slot c o (I.cne x c e) hc nch ho (I.sV x c e);show #[ia,_,q,hd]
  .show #[ia,o,keep c o (I.cne x c e) hc nch ho (I.sV x c e),hd]
 show⟨I.ok,I.os,hg,⟨λb o e n hb hx=>?_,λb o e n hb hx=>?_,λb o e n hx=>?_,λb o e hx=>?_,λb xs e=>Jb b xs (I.base.Jb b xs e),λb o xs e=>FF b o xs (I.base.FF b o xs e),λb ps e=>?_⟩,?_,λx c e=>?_,?_,λx c e=>?_,λp hp=>?_,eU,I.len⟩;.show keep b o (neL b o e) hb (neC b o e hx) (I.base.keep b o e n hb hx) (I.base.free b o e n hx)
 .rintro sl e1:bW<|I.base.slot b o e n hb hx;rintro sl' e2:bW<|slot b _ (neL b o e) hb (neC b o e hx) e1 (I.base.free b o e n hx);show⟨sl',e2⟩
 .rintro o' e1:bW<|I.base.there b o e hx;show free b o' (neC b o e hx) e1 (I.base.free b o e n hx)
 .rintro o' e1:bW<|I.base.there b o e hx;show there b o' (neC b o e hx) e1
 .rintro m1 e1:bW<|I.base.Ja b ps e;rintro m2 e2:bW<|Ja b _ e1;show⟨m1++m2,by rw[e2,Array.append_assoc]⟩
 .rintro m hn hl:bM I.loc;show #[ia,m,ns m hn,λi x v e1 e2 e3=>?_];rintro u r l:bM<|hl i x v e1 e2 e3;show #[ia,u,r,?_];rcases l with l|⟨k,c,e,z⟩;.show .inl l
  .show .inr #[io,k,c,e,cellK x c e _ z]
 .rintro v z:bW<|I.cell x c e;show⟨v,cellK x c e v z⟩
 .rintro m ⟨o,_,_,ho,_⟩ _:bM I.loc;show free _ o (λz=>(XL _ z).2.1 rfl) ho I.free
 .rintro v o ho hd:rE<|I.cell x c e;show free c o (λz=>(XL c z).2.2.1 x c e rfl) ho (I.sV x c e)
 .rintro e n ne nf d:EO<|I.pin p hp;have nch:p.1∉ch:=λz=>(XL p.1 z).2.2.2 p hp rfl;show #[iq,keep p.1 p.2 ne nf nch e n,free p.1 p.2 nch e n,ne,nf,d]
def Inv.un{t':Nat}(I:Inv X pins σ H s)(u:Un X.fs [] H H' s.heap h')(eU:vA X.prog X.w H' h'):Inv X pins σ H' { s with heap:=h',toks:=t' }:=by
 rintro m ⟨o,es,ep,ho,r⟩ _:bM<|id I.loc;rintro sl hL:bW<|u.any ho I.free (by simp);show I.step (g':=s.gens) (d':=s.drawn) (ch:=[]) (λ_ z=>nomatch z) (λb o _ hb _ e n=>u.keep b o e n hb (by simp)) (λb o _ hb _ e n=>u.slot b o e n hb (by simp)) (λb o _ e n=>u.free b o e n (by simp)) (λb o _ e=>u.there b o e (by simp)) u.Jb u.FF u.Ja (λm' hm=>by
  rintro o' es' ep' Lg r':N2 hm;rw[ho] at Lg;cases Lg;show #[ir,_,es',#[ia,ep',hL,r']]) eU I.bare
def Inv.call{g':Array Xw}{t':Nat}{d':Drawn}{ch:List af}(I:Inv X pins σ H s)(u:Un (VG X.stack) ch H H' s.heap h')(eU:vA X.prog X.w H' h')(hg:Hh g')
 (XL:∀b∈ch,(b∈X.ex\/X.JT.heap.objs.size<=b)/\b≠X.env.locals/\(∀x c,X.env.cells.lookup x=some c->c≠b)/\∀p∈X.pn++pins,p.1≠b):
 Inv X pins σ H' { s with heap:=h',gens:=g',drawn:=d',toks:=t' }:=by
 rintro m ⟨o,es,ep,ho,r⟩ _:bM<|id I.loc;rintro sl hL:bW<|u.any ho I.free λz=>(XL _ z).2.1 rfl;show I.step (ch:=ch) XL (λb o hL hb hc e n=>u.keep b o e n (λz=>(aD.mp (I.Q9 b z)).elim hL hb) hc) (λb o _ _ hc e n=>u.any e n hc) (λb o hc e n=>u.free b o e n hc) (λb o hc e=>u.there b o e hc) u.Jb u.FF u.Ja (λm' hm=>by
  rintro o' es' ep' Lg r':N2 hm;rw[ho] at Lg;cases Lg;show #[ir,_,es',#[ia,ep',hL,r']]) eU hg
def Inv.turned{t':Nat}{it:af}(I:Inv X pins σ H s)(k:∀b o,b≠it->s.heap.get? b=some o->h'.get? b=some o)(hn:H it=none)(hL:it≠X.env.locals)
 (h1:it∈X.ex\/X.JT.heap.objs.size<=it) (h2:∀x c,X.env.cells.lookup x=some c->c≠it) (h3:∀p∈X.pn++pins,p.1≠it):Inv X pins σ H { s with heap:=h',toks:=t' }:=by
 have nit:∀b u,H b=some u->b≠it:=λb u e z=>by rw[z,hn] at e;cases e
 show I.step (g':=s.gens) (d':=s.drawn) (ch:=[it]) (λb hb=>?_) (λb o _ _ hc e _=>k b o (λz=>hc (by simp[z])) e) (λb o _ _ hc e _=>⟨o.slots,k b o (λz=>hc (by simp[z])) e⟩) (λ_ _ _ _ n=>n)
  (λb o hc e=>⟨o,k b o (λz=>hc (by simp[z])) e⟩) (λ_ _ e=>e) (λ_ _ _ e=>e) (λb ps e=>⟨#[],by rw[e];simp⟩) (λm hm=>?_) (λb u e=>?_) I.bare
 .have e:b=it:=by simpa using hb
  subst e;show #[ij,h1,hL,h2,h3]
 .rintro o es ep ho r:N2 hm;show #[ir,o,es,#[ia,ep,k _ o (cA hL) ho,r]]
 .show (I.eU b u e).yA (λc v hc q=>k c v ?_ q) (λ_ q=>q) λ_ _ q=>q;rcases hc with z|z;.rw[z];show nit b u e
  .show nit c _ z
def Inv.tok(I:Inv X pins σ H s)(t:Nat):Inv X pins σ H { s with toks:=t }:=I.un (h':=s.heap) (t':=t) Un.refl I.eU
theorem Inv.kept{t':Nat}(I:Inv X pins σ H s)(k:∀b u,s.heap.get? b=some u->h'.get? b=some u):Inv X pins σ H { s with heap:=h',toks:=t' }:=I.un (Un.kept k) (I.eU.kept k)
theorem Inv.laid{a:af}{o:HO}{t':Nat}(I:Inv X pins σ H s)(k:∀b u,s.heap.get? b=some u->h'.get? b=some u)(hp:s.heap.objs.size<=a)(new:iY X.prog X.w (upd H a o) h' a o):
 Inv X pins σ (upd H a o) { s with heap:=h',toks:=t' }:=I.un (Un.laid k hp (I.eU.fresh hp)) (I.eU.laid k hp new)
theorem Inv.write{x e:af}{o:HO}{t':Nat}(I:Inv X pins σ H s)(mu:Mut (H x))(he:e=x\/H e=some (.own x))(k:∀b u,b≠e->s.heap.get? b=some u->h'.get? b=some u)(heo:∃u,h'.get? e=some u)
 (new:iY X.prog X.w (upd H x o) h' x o):Inv X pins σ (upd H x o) { s with heap:=h',toks:=t' }:=I.un (Un.write mu he k heo) (I.eU.write mu he k heo new)
def Inv.weak{σ':List (Option V)}(I:Inv X pins σ H s)(hl:σ'.length=σ.length)(w:∀(i:Nat)v,σ'[i]? = some (some v)->σ[i]? = some (some v)):Inv X pins σ' H s:=
 ⟨I.ok,I.os,I.bare,I.base,bM I.loc λm hn hl'=>#[ia,m,hn,λi x v e1 e2 e3=>hl' i x v e1 (w i v e2) e3],I.cell,I.free,I.sV,I.pin,I.eU,hl.trans I.len⟩
def Inv.So{abh:List (af×iG)}(I:Inv X pins σ H s)(h:∀p∈abh,s.heap.get? p.1=some p.2/\H p.1=none/\p.1≠X.env.locals/\p.1∉X.fs/\∀v,p.2.data≠.cell v):Inv X abh σ H s:=
 ⟨I.ok,I.os,I.bare,I.base,I.loc,I.cell,I.free,I.sV,λp hp=>(br.mp hp).elim (λz=>I.pin p (fO _ z)) (h p),I.eU,I.len⟩
def Gc{N:List Str}(hN:N.Nodup){i j:Nat}{x:Str}(a:N[i]? = some x)(b:N[j]? = some x):i=j:=by rintro h1 e1:bW<|List.getElem?_eq_some_iff.mp a;rintro h2 e2:bW<|List.getElem?_eq_some_iff.mp b;show (tV hN).mp (e1.trans e2.symm)
def JV{M:ab9}{A:dD}{E:ag->ao->Prop}{i:Nat}{x:Str}{v:V}{u:ag}{Q:Unit->ao->Prop}(I:Inv X pins σ H s)(hN:X.N.Nodup)(hi:X.N[i]? = some x)(hx:Loc X.env.scope x)(r:RelV v u)
 (h:∀s',Inv X pins (σ.set i (some v)) H s'->(∃a,BU a s.heap s'.heap/\(a=X.env.locals\/X.env.cells.lookup x=some a))->Q () s') (hf:X.fn x=true\/X.env.scope.names.lookup x=some .local:=by first|show .inl rfl|show .inr rfl|assumption):wpAny M A (storeName X.env x u) Q E s:=by
 rintro m hn hl:bM<|id I.loc;have as0:(X.env.scope.kind==.class||(X.env.scope.kind==.module&&X.env.locals != X.env.globals))=false:=by rw[I.ok.kind];rfl
 have hiσ:i<σ.length:=by rw[I.len];show (ai.mp hi).1
 have cne:=I.cne;have tracked:∀{a:af}{h':cE},(∃o,s.heap.get? a=some o/\H a=none)->BU a s.heap h'->vA X.prog X.w H h':=λ{a h'}ha hs b ob e=>by
  rintro _ _ Jy:bM ha;show (I.eU b ob e).yA (λc w' hc q=>(hs.2 c ?_).trans q) (λ_ q=>q) λ_ _ q=>q;rintro rfl;rcases hc with rfl|hc;.rw[Jy] at e;cases e
  .rw[Jy] at hc;cases hc
 rcases hx with hk|hk
 .show wpAny_storeName_local hk hn (λh' hn' hs=>?_) as0;rintro oL _ _ hoL _:N2<|id hn;show h _ ⟨I.ok,I.os,I.bare,⟨λb o e n hb hx=>?_,λb o e n hb hx=>?_,I.base.free,λb o e hx=>?_,I.base.Jb,I.base.FF,I.base.Ja⟩,#[ia,_,hn',λj y v' e1 e2 e3=>?_],λy c e=>?_,I.free,I.sV,λp hp=>?_,tracked #[ia,oL,hoL,I.free] hs,by simpa using I.len⟩ #[ia,_,hs,.inl rfl];.show (hs.2 b (bw (bg (bf e) I.ok.above))).trans (I.base.keep b o e n hb hx)
  .rintro sl e1:bW<|I.base.slot b o e n hb hx;show⟨sl,(hs.2 b (bw (bg (bf e) I.ok.above))).trans e1⟩
  .rintro o' e1:bW<|I.base.there b o e hx;show⟨o',(hs.2 b (bw (bg (bf e) I.ok.above))).trans e1⟩
  .by_cases hj:j=i;.subst hj;rw[hi] at e1;cases e1;rw[iM hiσ] at e2;cases e2;show #[ia,u,r,.inl ⟨hk,by simp⟩]
   .rw[lc (cA hj)] at e2;rintro u' r' q:bM<|hl j y v' e1 e2 e3;show #[ia,u',r',?_];rcases q with⟨k,e⟩|⟨k,c,e,z⟩;.show .inl ⟨k,?_⟩;have:y≠x:=λe=>hj (Gc hN e1 (e▸hi));simp[this,e]
    .show .inr #[io,k,c,e,z.sameBut hs (cne y c e)]
  .rintro w' z:bW<|I.cell y c e;show⟨w',z.sameBut hs (cne y c e)⟩
  .rintro e n ne nf d:EO<|I.pin p hp;show #[iq,(hs.2 p.1 ne).trans e,n,ne,nf,d]
 .have hfn:X.fn x=true:=by
   rcases hf with z|z;.show z
   .rw[z] at hk;cases hk
  rintro c hc:bW<|I.ok.has x (.inl hk);rintro w' z:bW<|I.cell x c hc;show wpAny_storeName_cell I.ok.kind hk hc z (λh' hc' hs=>?_);rintro oc hoc aub:bM<|id z;show h { s with heap:=h' } ⟨I.ok,I.os,I.bare,⟨λb o e n hb hx=>?_,λb o e n hb hx=>?_,I.base.free,λb o e hx=>?_,I.base.Jb,I.base.FF,I.base.Ja⟩,#[ia,m,hn.sameBut hs (cA (cne x c hc)),λj y v' e1 e2 e3=>?_],λy c' e=>?_,I.free,I.sV,λp hp=>?_,tracked #[ia,oc,hoc,I.sV x c hc] hs,by simpa using I.len⟩ #[ia,c,hs,.inr hc];.show (hs.2 b (bw (bg (bf e) (I.ok.cab x c hfn hc)))).trans (I.base.keep b o e n hb hx)
  .rintro sl e1:bW<|I.base.slot b o e n hb hx;show⟨sl,(hs.2 b (bw (bg (bf e) (I.ok.cab x c hfn hc)))).trans e1⟩
  .rintro o' e1:bW<|I.base.there b o e hx;show⟨o',(hs.2 b (bw (bg (bf e) (I.ok.cab x c hfn hc)))).trans e1⟩
  .by_cases hj:j=i;.subst hj;rw[hi] at e1;cases e1;rw[iM hiσ] at e2;cases e2;show #[ia,u,r,.inr #[io,.inl hk,c,hc,hc']]
   .rw[lc (cA hj)] at e2;rintro u' r' q:bM<|hl j y v' e1 e2 e3;show #[ia,u',r',?_];rcases q with q|⟨k,c',e,z'⟩;.show .inl q
    .show .inr #[io,k,c',e,z'.sameBut hs ?_];rintro rfl;show hj (Gc hN e1 (I.ok.inj _ _ _ e hc▸hi))
  .by_cases hcc:c'=c;.subst hcc;show⟨_,hc'⟩
   .rintro w2 z2:bW<|I.cell y c' e;show⟨w2,z2.sameBut hs hcc⟩
  .rintro e n ne nf d:EO<|I.pin p hp;show #[iq,(hs.2 p.1 ?_).trans e,n,ne,nf,d];intro q;rw[q,hoc] at e;have q':oc=p.2:=bp e;show d w' (by rw[<-q'];show aub)
def OH{M:ab9}{A:dD}{E:ag->ao->Prop}{i:Nat}{x:Str}{v:V}{u:ag}{Q:Unit->ao->Prop}(I:Inv X pins σ H s)(hN:X.N.Nodup)(hi:X.N[i]? = some x)(hx:Loc X.env.scope x)(r:RelV v u)
 (h:∀s',Inv X pins (σ.set i (some v)) H s'->Q () s') (hf:X.fn x=true\/X.env.scope.names.lookup x=some .local:=by first|show .inl rfl|show .inr rfl|assumption):wpAny M A (storeName X.env x u) Q E s:=
 JV I hN hi hx r (λs' I' _=>h s' I') hf
def Inv.aju{s':ao}{ch:List af}(I:Inv X pins σ H s)(ho:s'.os=s.os)(u:Un (VG X.stack) ch H H' s.heap s'.heap)(eU:vA X.prog X.w H' s'.heap)(hg:Hh s'.gens)
 (XL:∀b∈ch,(b∈X.ex\/X.JT.heap.objs.size<=b)/\b≠X.env.locals/\(∀x c,X.env.cells.lookup x=some c->c≠b)/\∀p∈X.pn++pins,p.1≠b):Inv X pins σ H' s':=by
 obtain⟨h',g',d',t',o'⟩:=s';have e:o'=s.os:=ho;subst e;show I.call (g':=g') (t':=t') (d':=d') u eU hg XL
end
abbrev XK:=ag->Option af->Hp->Prop
abbrev St:=List (Option V)
abbrev VK:=V->Hp->Prop
abbrev TE:=St->Hp->VK->Prop
abbrev TT:=St->Hp->(Bool->Hp->Prop)->Prop
abbrev TA:=St->Hp->(List V->Hp->Prop)->Prop
structure qO where
 nx:St->Hp->Prop
 rt:VK
 bk:St->Hp->Prop:=λ_ _=>False
 ct:St->Hp->Prop:=λ_ _=>False
abbrev TS:=qO->St->Hp->Prop
def EP(X:Cx)(pins:List (af×iG))(σ:St)(Q:VK)(u:ag)(s':ao):Prop:=∃v H',Inv X pins σ H' s'/\RelV v u/\Q v H'
def TP(X:Cx)(pins:List (af×iG))(σ:St)(Q:Bool->Hp->Prop)(b:Bool)(s':ao):Prop:=∃H',Inv X pins σ H' s'/\Q b H'
def AP(X:Cx)(pins:List (af×iG))(σ:St)(Q:List V->Hp->Prop)(us:List ag)(s':ao):Prop:=∃vs H',Inv X pins σ H' s'/\eV vs us/\Q vs H'
def SP(X:Cx)(pins:List (af×iG))(D:qO)(f:Flow)(s':ao):Prop:=
 match f with
 |.next=>∃σ' H',Inv X pins σ' H' s'/\D.nx σ' H'
 |.brk=>∃σ' H',Inv X pins σ' H' s'/\D.bk σ' H'
 |.cont=>∃σ' H',Inv X pins σ' H' s'/\D.ct σ' H'
 |.ret u=>∃v σ' H',Inv X pins σ' H' s'/\RelV v u/\D.rt v H'
def PE(X:Cx)(e:Expr)(t:TE):Prop:=
 ∀(pins:List (af×iG))(s:ao)(σ:St)(H:Hp)(Q:VK),Inv X pins σ H s->t σ H Q->wpAny (model X.prog X.w) X.A (eval e X.env) (EP X pins σ Q) X.xe s
def PT(X:Cx)(e:Expr)(t:TT):Prop:=
 ∀(pins:List (af×iG))(s:ao)(σ:St)(H:Hp)(Q:Bool->Hp->Prop),Inv X pins σ H s->t σ H Q->wpAny (model X.prog X.w) X.A (isTrue e X.env (eval e X.env)) (TP X pins σ Q) X.xe s
def PW(X:Cx)(e:Expr)(t:TT):Prop:=
 ∀(whole:Xx ag)(pins:List (af×iG))(s:ao)(σ:St)(H:Hp)(Q:Bool->Hp->Prop),Inv X pins σ H s->t σ H Q->wpAny (model X.prog X.w) X.A (isTrue e X.env whole) (TP X pins σ Q) X.xe s
def PW.pt{X:Cx}{e:Expr}{t:TT}(h:PW X e t):PT X e t:=h _
def PA(X:Cx)(es:List Expr)(t:TA):Prop:=
 ∀(pos:km)(pins:List (af×iG))(s:ao)(σ:St)(H:Hp)(Q:List V->Hp->Prop),Inv X pins σ H s->t σ H Q->wpAny (model X.prog X.w) X.A (spliced (iU pos (bi es X.env))) (AP X pins σ Q) X.xe s
def PS(X:Cx)(st:cK)(t:TS):Prop:=
 ∀(pins:List (af×iG))(s:ao)(σ:St)(H:Hp)(D:qO),Inv X pins σ H s->t D σ H->wpAny (model X.prog X.w) X.A (exec st X.env) (SP X pins D) X.xe s
def Pz(X:Cx)(st:List cK)(t:TS):Prop:=
 ∀(pins:List (af×iG))(s:ao)(σ:St)(H:Hp)(D:qO),Inv X pins σ H s->t D σ H->wpAny (model X.prog X.w) X.A (execs st X.env) (SP X pins D) X.xe s
def gQ{α:Type}{t:Xx α}{Q Q':α->ao->Prop}{M:ab9}{A:dD}{E:ag->ao->Prop}{s:ao}(h:wpAny M A t Q E s)(hQ:∀a s,Q a s->Q' a s):wpAny M A t Q' E s:=gp h hQ λ_ _ x=>x
end L2
namespace L2
open PySem PySem.Spec PyProof.Rows
section
variable{X:Cx}
def rZ(i:Nat):TE:=λσ H Q=>∃v,σ[i]? = some (some v)/\Q v H
def tC(v:V):TE:=λ_ H Q=>Q v H
def aft{i:Nat}{x:Str}{pos:km}(hN:X.N[i]? = some x)(hv:Vis X.env.scope x)(hd:(x==("__debug__":Str))=false:=by decide)(Tt:(x==("__classdict__":Str))=false:=by decide):PE X (.Name x pos) (rZ i):=by
 intro pins s σ H Q I h;rintro v e h:bM h;rintro m hn hl:bM I.loc;rintro u r l:bM<|hl i x v hN e hv
 have fin:EP X pins σ Q u s:=#[ib,v,H,I,r,h];rcases l with⟨hk,hm⟩|⟨hk,c,hc,aat⟩;.show Z' (wpAny_loadName_local I.ok.kind hk hn hm fin) hd
 .rcases hk with hk|hk;.show Z' (wpAny_loadName_cell I.ok.kind hk hc aat fin) hd
  .show Z' (wpAny_loadName_free I.ok.kind hk hc aat fin Tt) hd
def aw{i j pos}:PE X (.Constant (.int i) j pos) (tC (.int i)):=λ_ _ _ H _ I h=>wpAny_Constant_int #[ib,.int i,H,I.tok _,⟨_,rfl⟩,h]
def JM{b j pos}:PE X (.Constant (.bool b) j pos) (tC (.bl b)):=λ_ _ _ H _ I h=>Constant_bool #[ib,.bl b,H,I,rfl,h]
def ju{j pos}:PE X (.Constant .none j pos) (tC .non):=λ_ _ _ H _ I h=>Rv #[ib,.non,H,I,rfl,h]
def hU{x j pos}:PE X (.Constant (.str x) j pos) (tC (.str x)):=λ_ _ _ H _ I h=>Rw #[ib,.str x,H,I.tok _,⟨_,rfl⟩,h]
def Gl(X:Cx)(x:Str):Prop:=X.env.kindOf x=some .globalImplicit
def EL{E:ag->ao->Prop}{pins:List (af×iG)}{s:ao}{σ:St}{H:Hp}{x:Str}{u:ag}{pos:km}{Q:ag->ao->Prop}(I:Inv X pins σ H s)(hg:Gl X x)(hm:X.mg x=some u)(h:Q u s)
 (hd:(x==("__debug__":Str))=false:=by decide):wpAny (model X.prog X.w) X.A (eval (.Name x pos) X.env) Q E s:=
 Hj I.ok.kind hg (Calls.loadGlobal_global (by rw[I.ok.glob];show I.mod.glob.keeps I.bk) hm h) hd
def Cu{E:ag->ao->Prop}{pins:List (af×iG)}{s:ao}{σ:St}{H:Hp}{x:Str}{u:ag}{pos:km}{Q:ag->ao->Prop}(I:Inv X pins σ H s)(hg:Gl X x)(hm:X.mg x=none)(hv:yE x=some u)(h:Q u s)
 (hn:x≠"__name__":=by decide) (hd:(x==("__debug__":Str))=false:=by decide):wpAny (model X.prog X.w) X.A (eval (.Name x pos) X.env) Q E s:=by
 rintro mb h1 h2:bM I.mod.blt;show Hj I.ok.kind hg (Calls.loadGlobal_builtin (by rw[I.ok.glob];show I.mod.glob.keeps I.bk) hm (by rw[I.ok.blt];show h1.keeps I.bk) ((h2 x hn).trans hv) h) hd
def Be{x:Str}{v:V}{u:ag}{pos:km}(hg:Gl X x)(hm:X.mg x=some u)(r:RelV v u)(hd:(x==("__debug__":Str))=false:=by decide):PE X (.Name x pos) (tC v):=
 λ_ _ _ H _ I h=>EL I hg hm #[ib,v,H,I,r,h] hd
variable{a b:Expr}{ta tb:TE}{pos:km}
def PC(X:Cx)(op:Hk)(a b:Expr)(t:TE):Prop:=
 ∀(pins:List (af×iG))(s:ao)(σ:St)(H:Hp)(Q:VK),Inv X pins σ H s->t σ H Q->
  wpAny (model X.prog X.w) X.A (eval a X.env) (λv s₁=>wpAny (model X.prog X.w) X.A (eval b X.env) (λu s₂=>wpAny (model X.prog X.w) X.A (compareOp op v u) (EP X pins σ Q) X.xe s₂) X.xe s₁) X.xe s
def NZ(b:Expr){op:Hk}(h:op≠.In)(h2:op≠.NotIn):jd op b=false:=by
 have e1:(op==aol)=false:=by cases op<;>first|rfl|show absurd rfl h
 have e2:(op==ab6)=false:=by cases op<;>first|rfl|show absurd rfl h2
 cases b<;>simp[jd,e1,e2]
def agw(ta:TE):TE:=λσ H Q=>ta σ H λx H1=>Q (.bl (decide (x=.non))) H1
def Xh(ta:TE):TE:=λσ H Q=>ta σ H λx H1=>Q (.bl (!decide (x=.non))) H1
def RelV.N0{x:V}{v:ag}(r:RelV x v):(v==ql)=decide (x=.non):=by
 cases x with
 |non=>cases r;rfl
 |bl _=>cases r;rfl
 |int _=>rintro t rfl:bW r;rfl
 |str _=>rintro t rfl:bW r;rfl
 |KS _=>rintro t rfl:bW r;rfl
 |flt _=>rintro t rfl:bW r;rfl
 |ref _=>cases r;rfl
 |ty _=>cases r;rfl
def jg{j pos'}(ha:PE X a ta):PC X .Is a (.Constant .none j pos') (agw ta):=by intro pins s σ H Q I h;show gQ (ha pins s σ H _ I h) λv s1 cG=>fD cG λx H1 I1 r1 q1=>?_;show Rv (is_none_gen #[ib,.bl _,H1,I1,by rw[r1.N0];rfl,q1])
def uN{j pos'}(ha:PE X a ta):PC X .IsNot a (.Constant .none j pos') (Xh ta):=by intro pins s σ H Q I h;show gQ (ha pins s σ H _ I h) λv s1 cG=>fD cG λx H1 I1 r1 q1=>?_;show Rv (isnot_none_gen #[ib,.bl _,H1,I1,by rw[r1.N0];rfl,q1])
def tB(t:TE):TT:=λσ H Q=>t σ H λx H1=>∃c,x=.bl c/\Q c H1
def afs{op:Hk}{t:TE}(h:PC X op a b t)(h1:jd op b=false:=by first|show NZ _ (by decide) (by decide)|rfl):PE X (.Compare a [op] [b] pos) t:=λpins s σ H Q I hw=>aov (h pins s σ H Q I hw) h1
def fq{op:Hk}{t:TE}(h:PC X op a b t)(h1:jd op b=false:=by first|show NZ _ (by decide) (by decide)|rfl):PT X (.Compare a [op] [b] pos) (tB t):=by intro pins s σ H Q I hw;show U3 (gQ (h pins s σ H _ I hw) λv s1 h1=>gQ h1 λu s2 h2=>gQ h2 λc s3 cG=>fD cG λx H1 I1 r1 q1=>?_) h1;rintro d rfl q:bM q1;cases r1;show iP #[ia,H1,I1,q]
def fF{e:Expr}{t:TE}(h:PE X e t)(he:∀whole,isTrue e X.env whole=(do let v <-whole;standAt e.pos;holding [v] (truthy v)):=by intro _;rfl):PT X e (tB t):=by intro pins s σ H Q I hw;show isTrue_plain (gQ (h pins s σ H _ I hw) λv s1 cG=>fD cG λx H1 I1 r1 q1=>?_) (he _);rintro d rfl q:bM q1;cases r1;show iP #[ia,H1,I1,q]
variable{tA tB':TT}{rest:List Expr}
def agt(t u:TT):TT:=λσ H Q=>t σ H λc H1=>if c=true then u σ H1 Q else Q false H1
def tOr(t u:TT):TT:=λσ H Q=>t σ H λc H1=>if c=true then Q true H1 else u σ H1 Q
def agx(t:TT):TT:=λσ H Q=>t σ H λc H1=>Q (!c) H1
def lp(ha:PT X a tA):PW X (.BoolOp .And [a] pos) tA:=by
 intro wh pins s σ H Q I h;show isTrue_and (gQ (ha pins s σ H Q I h) λc s1 e=>?_);cases c with
 |true=>show isTrue_and_nil e
 |false=>show e
def jh(ha:PT X a tA):PW X (.BoolOp .Or [a] pos) tA:=by
 intro wh pins s σ H Q I h;show isTrue_or (gQ (ha pins s σ H Q I h) λc s1 e=>?_);cases c with
 |false=>show isTrue_or_nil e
 |true=>show e
def kI(ha:PT X a tA)(hb:PW X (.BoolOp .And (b::rest) pos) tB'):PW X (.BoolOp .And (a::b::rest) pos) (agt tA tB'):=by
 intro wh pins s σ H Q I h;show isTrue_and (gQ (ha pins s σ H _ I h) λc s1 cG=>bM cG λH1 I1 q1=>?_);cases c with
 |true=>show hb wh pins s1 σ H1 Q I1 q1
 |false=>show #[ia,H1,I1,q1]
def kf(ha:PT X a tA)(hb:PW X (.BoolOp .Or (b::rest) pos) tB'):PW X (.BoolOp .Or (a::b::rest) pos) (tOr tA tB'):=by
 intro wh pins s σ H Q I h;show isTrue_or (gQ (ha pins s σ H _ I h) λc s1 cG=>bM cG λH1 I1 q1=>?_);cases c with
 |true=>show #[ia,H1,I1,q1]
 |false=>show hb wh pins s1 σ H1 Q I1 q1
def lX(ha:PT X a tA):PT X (.UnaryOp .Not a pos) (agx tA):=by intro pins s σ H Q I h;show isTrue_not (ha pins s σ H (λc H1=>Q (!c) H1) I h)
def abp(ta tb:TE):TE:=λσ H Q=>ta σ H λx H1=>∃c,x=.bl c/\if c=true then tb σ H1 Q else Q (.bl false) H1
def QM{op}{t:TE}(h:PE X a t):PE X (.BoolOp op [a] pos) t:=λpins s σ H Q I hw=>BoolOp_one (h pins s σ H Q I hw)
def QL(ha:PE X a ta)(hb:PE X (.BoolOp .And (b::rest) pos) tb):PE X (.BoolOp .And (a::b::rest) pos) (abp ta tb):=by
 intro pins s σ H Q I h;show BoolOp_and (gQ (ha pins s σ H _ I h) λv s1 cG=>fD cG λx H1 I1 r1 q1=>?_);rintro c rfl q1:bM q1;cases r1;show iP ?_;cases c with
 |true=>show hb pins s1 σ H1 Q I1 q1
 |false=>show #[ib,.bl false,H1,I1,rfl,q1]
def tIf(t:TT)(ta tb:TE):TE:=λσ H Q=>t σ H λc H1=>if c=true then ta σ H1 Q else tb σ H1 Q
def Ol{c:Expr}(hc:PT X c tA)(ha:PE X a ta)(hb:PE X b tb):PE X (.IfExp c a b pos) (tIf tA ta tb):=by
 intro pins s σ H Q I h;show wpAny_IfExp (gQ (hc pins s σ H _ I h) λd s1 cG=>bM cG λH1 I1 q1=>?_);cases d with
 |true=>show ha pins s1 σ H1 Q I1 q1
 |false=>show hb pins s1 σ H1 Q I1 q1
end
end L2
namespace L2
open PySem PySem.Spec PyProof.Rows
def cf(K:ad)(H:Hp)(a:af)(xs:List V):Prop:=
 Rd H a (.lst xs)\/
  ∃(o:iG)(its:Array ag)(n:Nat),K.lookup a=some o/\o.cls=.type "list"/\o.dict=none/\o.data=.seq its n/\its.size<=sizeLine/\eV xs its.toList
def ox(K:ad)(H:Hp)(a:af)(xs:List V):Prop:=
 Rd H a (.tup xs)\/
  ∃(o:iG)(its:Array ag)(n:Nat),K.lookup a=some o/\o.cls=.type "tuple"/\o.data=.seq its n/\its.size<=sizeLine/\eV xs its.toList
def arh:ag->Option V
 |.none=>some .non
 |.bool b=>some (.bl b)
 |.int i _=>some (.int i)
 |.str x _=>some (.str x)
 |.bytes b _=>some (.KS b)
 |.float b _=>some (.flt b)
 |.ref a=>some (.ref a)
 |.type n=>some (.ty n)
 |_=>none
def RelV.abs{x:V}{u:ag}(r:RelV x u):arh u=some x:=by
 cases x with
 |non=>cases r;rfl
 |bl _=>cases r;rfl
 |int _=>rintro t rfl:bW r;rfl
 |str _=>rintro t rfl:bW r;rfl
 |KS _=>rintro t rfl:bW r;rfl
 |flt _=>rintro t rfl:bW r;rfl
 |ref _=>cases r;rfl
 |ty _=>cases r;rfl
theorem RelV.inj{x y:V}{u:ag}(r:RelV x u)(q:RelV y u):x=y:=bp (r.abs.symm.trans q.abs)
theorem eV.inj:∀{xs ys:List V}{us:List ag},eV xs us->eV ys us->xs=ys
 |_,_,_,.nil,.nil=>rfl
 |_,_,_,.cons r t,.cons r' t'=>by rw[r.inj r',eV.inj t t']
section
variable{X:Cx}{pins:List (af×iG)}{σ:St}{H:Hp}{s:ao}{a:af}{xs ys:List V}
def cf.of{K:ad}(h:H a=some (.lst xs)):cf K H a xs:=.inl (.inl h)
def ox.of{K:ad}(h:H a=some (.tup xs)):ox K H a xs:=.inl (.inl h)
def Inv.list(I:Inv X pins σ H s)(h:cf X.K H a xs):∃its:List ag,eV xs its/\PlainL s.heap a its.toArray/\xs.length<=sizeLine:=by
 rcases h with h|⟨o,its,n,hk,hc,hd,hs,hz,r⟩;.rintro z its n r e:N3<|h.ok I.eU;show #[ie,its,r,#[ib,_,n,e,rfl,⟨rfl,rfl⟩],z]
 .show #[ie,its.toList,r,#[ib,o,n,I.ME a o hk,hc,⟨hd,by simpa using hs⟩],?_];have e:=r.length;simp only[fX] at e;omega
def Inv.tuple(I:Inv X pins σ H s)(h:ox X.K H a xs):∃its:List ag,eV xs its/\ab4 s.heap a its.toArray/\xs.length<=sizeLine:=by
 rcases h with h|⟨o,its,n,hk,hc,hs,hz,r⟩;.rintro z its r p:EQ<|h.ok I.eU;show #[ie,its,r,p,z]
 .show #[ie,its.toList,r,#[ie,o,I.ME a o hk,hc,⟨n,by simpa using hs⟩],?_];have e:=r.length;simp only[fX] at e;omega
def Inv.NR(I:Inv X pins σ H s)(h:cf X.K H a xs)(h':cf X.K H a ys):xs=ys:=by
 rintro its r ⟨o,n,e,_,_,d⟩ _:gF<|I.list h;rintro its' r' ⟨o',n',e',_,_,d'⟩ _:gF<|I.list h';rw[e] at e';cases e';rw[d] at d';injection d' with d1 _;have:its=its':=by simpa using congrArg BL d1
 subst this;show r.inj r'
def Inv.Uj(I:Inv X pins σ H s)(h:ox X.K H a xs)(h':ox X.K H a ys):xs=ys:=by
 rintro its r ⟨o,e,_,n,d⟩ _:gF<|I.tuple h;rintro its' r' ⟨o',e',_,n',d'⟩ _:gF<|I.tuple h';rw[e] at e';cases e';rw[d] at d';injection d' with d1 _;have:its=its':=by simpa using congrArg BL d1
 subst this;show r.inj r'
end
abbrev Cx.Jc(X:Cx)(E:ag->ao->Prop):Cx:={ X with xe:=E }
abbrev Cx.nox(X:Cx):Cx:=X.Jc λ_ _=>False
theorem Cx.Ok.Jc{X:Cx}(ok:X.Ok)(E:ag->ao->Prop):(X.Jc E).Ok:=
 ⟨ok.mod,ok.kind,ok.glob,ok.blt,ok.above,ok.inj,ok.has,ok.cab,ok.hd,ok.frames,ok.stk,ok.exf,ok.bs,ok.XF,ok.Wq,ok.VC,ok.Ch,ok.frf⟩
def Cx.Ok.x6{X:Cx}{E:ag->ao->Prop}(ok:(X.Jc E).Ok):X.Ok:=
 ⟨ok.mod,ok.kind,ok.glob,ok.blt,ok.above,ok.inj,ok.has,ok.cab,ok.hd,ok.frames,ok.stk,ok.exf,ok.bs,ok.XF,ok.Wq,ok.VC,ok.Ch,ok.frf⟩
section
variable{X:Cx}{pins:List (af×iG)}{σ:St}{H:Hp}{s:ao}{E:ag->ao->Prop}
theorem Inv.Jc(I:Inv X pins σ H s)(E:ag->ao->Prop):Inv (X.Jc E) pins σ H s:=⟨I.ok.Jc E,I.os,I.bare,I.base,I.loc,I.cell,I.free,I.sV,I.pin,I.eU,I.len⟩
theorem Inv.x6(I:Inv (X.Jc E) pins σ H s):Inv X pins σ H s:=⟨I.ok.x6,I.os,I.bare,I.base,I.loc,I.cell,I.free,I.sV,I.pin,I.eU,I.len⟩
theorem SP.x6{D:qO}{f:Flow}{s':ao}(h:SP (X.Jc E) pins D f s'):SP X pins D f s':=by
 cases f with
 |next=>rintro σ' H' I q:rE h;show #[im,σ',H',I.x6,q]
 |brk=>rintro σ' H' I q:rE h;show #[im,σ',H',I.x6,q]
 |cont=>rintro σ' H' I q:rE h;show #[im,σ',H',I.x6,q]
 |ret u=>rintro v σ' H' I r q:rD h;show #[ii,v,σ',H',I.x6,r,q]
theorem Pz.nox{st:List cK}{t:TS}(h:Pz X.nox st t):Pz X st t:=λpins s σ H D I hw=>gp (h pins s σ H D (I.Jc _) hw) (λ_ _ q=>q.x6) λ_ _ z=>ee z
end
section
variable{X:Cx}{st:cK}{rest:List cK}{t u:TS}{e:Expr}{te:TE}{pos:km}
def SQ:TS:=λD σ H=>D.nx σ H
def ZQ(t u:TS):TS:=λD σ H=>t { D with nx:=u D } σ H
def fU:Pz X [] SQ:=λ_ _ σ H _ I h=>zr #[im,σ,H,I,h]
def ae(h1:PS X st t)(h2:Pz X rest u):Pz X (st::rest) (ZQ t u):=by
 intro pins s σ H D I h;show ahp (gQ (h1 pins s σ H { D with nx:=u D } I h) λf s1 q=>?_);cases f with
 |next=>rintro σ' H' I' q:rE q;show h2 pins s1 σ' H' D I' q
 |ret v=>show q
 |brk=>show q
 |cont=>show q
def bA(h1:PS X st t):Pz X [st] t:=by
 intro pins s σ H D I h;show ahp (gQ (h1 pins s σ H D I h) λf s1 q=>?_);cases f with
 |next=>show zr q
 |ret v=>show q
 |brk=>show q
 |cont=>show q
def Rb:TS:=λD σ H=>D.bk σ H
def WF:PS X (.Break pos) Rb:=λ_ _ σ H _ I h=>wpAny_Break #[im,σ,H,I,h]
def Inv.quiet{pins:List (af×iG)}{σ:St}{H:Hp}{s:ao}(I:Inv X pins σ H s):interactive X.env=false:=by simp[interactive,I.ok.kind]
def SO(te:TE):TS:=λD σ H=>te σ H λ_ H1=>D.nx σ H1
def dN(he:PE X e te)(hs:sD e none pos.line X.env=pure false:=by rfl):PS X (.Expr e pos) (SO te):=by intro pins s σ H D I h;show wpAny_Expr_any (gQ (he pins s σ H _ I h) λv s1 cG=>fD cG λx H1 I1 r1 q1=>#[im,σ,H1,I1,q1]) I.quiet hs
def Rh(te:TE):TS:=λD σ H=>te σ H D.rt
def WG(he:PE X e te):PS X (.Return (some e) pos) (Rh te):=by intro pins s σ H D I h;show wpAny_Return_some (gQ (he pins s σ H _ I h) λv s1 cG=>fD cG λx H1 I1 r1 q1=>#[ii,x,σ,H1,I1,r1,q1])
def Xg(c:TT)(t u:TS):TS:=λD σ H=>c σ H λb H1=>if b=true then t D σ H1 else u D σ H1
def kG{c:Expr}{a b:List cK}{tc:TT}(hc:PT X c tc)(ha:Pz X a t)(hb:Pz X b u):PS X (.If c a b pos) (Xg tc t u):=by
 intro pins s σ H D I h;show wpAny_If (gQ (hc pins s σ H _ I h) λd s1 cG=>bM cG λH1 I1 q1=>?_);cases d with
 |true=>show ha pins s1 σ H1 D I1 q1
 |false=>show hb pins s1 σ H1 D I1 q1
end
abbrev TG:=V->St->Hp->(St->Hp->Prop)->Prop
abbrev TGs:=List V->St->Hp->(St->Hp->Prop)->Prop
def PG(X:Cx)(target:Expr)(t:TG):Prop:=
 ∀(pins:List (af×iG))(s:ao)(σ:St)(H:Hp)(v:V)(u:ag)(Q:St->Hp->Prop),Inv X pins σ H s->RelV v u->t v σ H Q->
  wpAny (model X.prog X.w) X.A (assign target X.env u) (λ_ s'=>∃σ' H',Inv X pins σ' H' s'/\Q σ' H') X.xe s
def PGs(X:Cx)(ts:List Expr)(t:TGs):Prop:=
 ∀(pins:List (af×iG))(s:ao)(σ:St)(H:Hp)(vs:List V)(us:List ag)(Q:St->Hp->Prop),Inv X pins σ H s->eV vs us->t vs σ H Q->
  wpAny (model X.prog X.w) X.A (assignInOrder ((yD ts X.env).map (·.2)) us) (λ_ s'=>∃σ' H',Inv X pins σ' H' s'/\Q σ' H') X.xe s
abbrev Yj:=V->V->V->Hp->(Hp->Prop)->Prop
def aco(X:Cx)(t:Yj):Prop:=
 ∀(pins:List (af×iG))(s:ao)(σ:St)(H:Hp)(o i v:V)(ov iv u:ag)(Q:Hp->Prop),Inv X pins σ H s->RelV o ov->RelV i iv->RelV v u->t o i v H Q->
  wpAny (model X.prog X.w) X.A (setItem ov iv u) (λ_ s'=>∃H',Inv X pins σ H' s'/\Q H') X.xe s
section
variable{X:Cx}{pos:km}
def qD(i:Nat):TG:=λv σ H Q=>Q (σ.set i (some v)) H
def Zq{i:Nat}{x:Str}(hN:X.N.Nodup)(hi:X.N[i]? = some x)(hx:Loc X.env.scope x)(hf:X.fn x=true\/X.env.scope.names.lookup x=some .local:=by first|show .inl rfl|show .inr rfl|assumption):PG X (.Name x pos) (qD i):=by intro pins s σ H v u Q I r h;show wpAny_assign_Name (OH I hN hi hx r (λs' I'=>#[im,_,H,I',h]) hf)
def Yx:TGs:=λvs σ H Q=>vs=[]/\Q σ H
def FH(t:TG)(u:TGs):TGs:=λvs σ H Q=>∃v r,vs=v::r/\t v σ H λσ' H'=>u r σ' H' Q
def qI:PGs X [] Yx:=by intro pins s σ H vs us Q I r h;rintro e h:fo h;subst e;cases r;show assignInOrder_nil #[im,σ,H,I,h]
def iE{e:Expr}{es:List Expr}{t:TG}{u:TGs}(h1:PG X e t)(h2:PGs X es u)
 (hs:(yD (e::es) X.env).map (·.2)=assign e X.env::(yD es X.env).map (·.2):=by rfl):PGs X (e::es) (FH t u):=by
 intro pins s σ H vs us Q I r h;rintro v vr e1 h:rE h;subst e1;cases r with
 |cons r rr=>rw[hs];show assignInOrder_cons (gQ (h1 pins s σ H _ _ _ I r h) λ_ s1 cG=>rE cG λσ1 H1 I1 q1=>?_);show h2 pins s1 σ1 H1 _ _ Q I1 rr q1
def Yy(K:ad)(n:Nat)(t:TGs):TG:=λv σ H Q=>∃a xs,v=.ref a/\ox K H a xs/\xs.length=n/\t xs σ H Q
def xi{es:List Expr}{k:Nat}{t:TGs}{n:Nat}(hc:X.calm=true)(h:PGs X es t)
 (hn:(yD es X.env).length=n:=by rfl) (kE:(yD es X.env).findIdx? (·.1)=none:=by rfl):PG X (.Tuple es k pos) (Yy X.K n t):=by
 intro pins s σ H v u Q I r hw;rintro a xs e1 hq hl hw:lA hw;subst e1;cases r;rintro its rv ht hz:gF<|I.tuple hq
 show assign_Tuple_tuple (I.ok.hd hc) ht (by simp[hn,<-hl,rv.length]) kE λh' hx=>?_;have I1:Inv X pins σ H { s with heap:=h' }:=I.kept (t':=s.toks) λb o e=>hx b o (bw (bf e)) e;show h pins _ σ H xs _ Q I1 (by simpa using rv) hw
def adf(to ti:TE)(t:Yj):TG:=λv σ H Q=>to σ H λo H1=>ti σ H1 λi H2=>t o i v H2 λH3=>Q σ H3
def LW{o i:Expr}{to ti:TE}{t:Yj}(ho:PE X o to)(hi:PE X i ti)(hs:aco X t)
 (ha:∀v,assign (.Subscript o i pos) X.env v=(do
  let ov <-holding [v] (eval o X.env);let iv <-holding [v,ov] (eval i X.env)
  standAt pos
  holding [v,ov,iv] (setItem ov iv v)
  release [v,ov,iv] []):=by intro _;rfl):PG X (.Subscript o i pos) (adf to ti t):=by
 intro pins s σ H v u Q I r h;rw[ha];show wpAny_bind (wpAny_holding (gQ (ho pins s σ H _ I h) λov s1 cG=>fD cG λx H1 I1 r1 q1=>?_));show wpAny_bind (wpAny_holding (gQ (hi pins s1 σ H1 _ I1 q1) λiv s2 cG=>fD cG λy H2 I2 r2 q2=>?_));show wpAny_bind (RC (wpAny_bind (wpAny_holding (gQ (hs pins s2 σ H2 x y v ov iv u _ I2 r1 r2 r q2) λ_ s3 cG=>bM cG λH3 I3 q3=>?_))));show wpAny_release #[im,σ,H3,I3,q3]
def OI(te:TE)(g:TG):TS:=λD σ H=>te σ H λx H1=>g x σ H1 D.nx
def LY{tg e:Expr}{te:TE}{g:TG}(he:PE X e te)(hg:PG X tg g)(hs:swapsWithSole [tg] e pos.line X.env=pure false:=by rfl)(hw:swappedStores [tg] e X.env=pure none:=by rfl)
 (h1:(yD [tg] X.env).map (·.2)=[assign tg X.env]:=by rfl):PS X (.Assign [tg] e pos) (OI te g):=by
 intro pins s σ H D I h;show wpAny_Assign_stores (gQ (he pins s σ H _ I h) λv s1 cG=>fD cG λx H1 I1 r1 q1=>?_) hs hw;rw[h1];show gQ (hg pins s1 σ H1 x v _ I1 r1 q1) λ_ s2 q=>q
def afv{i:Nat}{x:Str}{e:Expr}{te:TE}{pos':km}(hN:X.N.Nodup)(hi:X.N[i]? = some x)(hx:Loc X.env.scope x)(he:PE X e te)(hs:sD e (some (.Name x pos')) pos.line X.env=pure false:=by rfl)(hf:X.fn x=true\/X.env.scope.names.lookup x=some .local:=by first|show .inl rfl|show .inr rfl|assumption):
 PS X (.Assign [.Name x pos'] e pos) (OI te (qD i)):=by
 intro pins s σ H D I h;show wpAny_Assign_Name (gQ (he pins s σ H _ I h) λv s1 cG=>fD cG λy H1 I1 r1 q1=>?_) hs;show OH I1 hN hi hx r1 (λs2 I2=>#[im,_,H1,I2,q1]) hf
end
section
variable{X:Cx}{pos:km}
def agz(c:TT)(tb:TS):TS:=λD σ H=>∃W:Nat->St->Hp->Prop,(∃m,W m σ H)/\∀m σ H,W m σ H->
 c σ H λb H1=>if b=true then ∃N:St->Hp->Prop,(∀σ' H',N σ' H'->∃m',m'<m/\W m' σ' H')/\tb { D with nx:=N,ct:=N,bk:=D.nx } σ H1 else D.nx σ H1
def WH{c:Expr}{body:List cK}{tc:TT}{tb:TS}(hp:PassesOwn (model X.prog X.w) X.A X.env X.xe)(hc:PT X c tc)(hb:Pz X body tb):PS X (.While c body [] pos) (agz tc tb):=by
 intro pins s σ H D I h;rintro W ⟨m0,w0⟩ turn:bM h;show wpAny_While (codeAny_whileLoop (λn s'=>∃σ' H',Inv X pins σ' H' s'/\W n σ' H') ?_ m0 #[im,σ,H,I,w0]);rintro n s1 cG;rintro σ1 H1 I1 w1:rE cG;show kR hp (gQ (hc pins s1 σ1 H1 _ I1 (turn n σ1 H1 w1)) λb s2 cG=>bM cG λH2 I2 q2=>?_);cases b with
 |true=>
  rintro N hN q2:bM q2;rw[if_pos rfl];show kR hp (gQ (hb pins s2 σ1 H2 _ I2 q2) λf s3 q3=>?_);cases f with
  |next=>rintro σ3 H3 I3 n3:rE q3;rintro m' hm w3:bM<|hN σ3 H3 n3;show #[ia,m',hm,#[im,σ3,H3,I3,w3]]
  |cont=>rintro σ3 H3 I3 n3:rE q3;rintro m' hm w3:bM<|hN σ3 H3 n3;show #[ia,m',hm,#[im,σ3,H3,I3,w3]]
  |brk=>show q3
  |ret v=>show q3
 |false=>rw[if_neg bz];show zr #[im,σ1,H2,I2,q2]
end
structure It where
 go:Nat->Hp->Prop
 ZX:Nat->Hp->V->Hp->Prop
 stop:Nat->Hp->Prop
def E7(X:Cx)(pins:List (af×iG))(H:Hp)(b:af):Prop:=
 H b=none/\b≠X.env.locals/\b∉X.fs/\(b∈X.ex\/X.JT.heap.objs.size<=b)/\(∀x c,X.env.cells.lookup x=some c->c≠b)/\∀p∈X.pn++pins,p.1≠b
def Inv.Tn{X:Cx}{pins:List (af×iG)}{σ:St}{H H':Hp}{s:ao}{b:af}(I:Inv X pins σ H s)(hb:s.heap.objs.size<=b)(hn:H' b=none):E7 X pins H' b:=by
 show #[ip,hn,ng (bg I.lt hb),I.awc hb,.inr (aE I.sz hb),λx c e z=>?_,λp hp z=>?_];.rintro v q:bW<|I.cell x c e;show absurd (bg q.lt (by rw[z];show hb)) (fZ _)
 .show absurd (bg (bf (I.pin p hp).1) (by rw[z];show hb)) (fZ _)
structure Pe(P:aS)(w:bL)(K:ad)(tg:Expr)(J:It)(fp:List af)(it:af)(tn:Nat->cE->Prop):Prop where
 mem:it∈fp
 obj:∀i h,tn i h->∀b∈fp,∃o,h.get? b=some o/\∀v,o.data≠.cell v
 keep:∀i h h',tn i h->(∀b∈fp,∀o,h.get? b=some o->h'.get? b=some o)->tn i h'
 item:∀(X:Cx),X.prog=P->X.w=w->X.K=K->X.calm=true->∀(i:Nat)(pins:List (af×iG))(s:ao)(σ:St)(H:Hp)(E:ag->ao->Prop),Inv X pins σ H s->(∀b∈fp,E7 X pins H b)->tn i s.heap->J.go i H->
  wpAny (model P w) X.A (pyNext (.ref it)) (λr s1=>∃u,r=some u/\
   wpAny (model P w) X.A (zp tg (.ref it) u) (λ_ s2=>∃x H',Inv X pins σ H' s2/\RelV x u/\J.ZX i H x H'/\tn (i+1) s2.heap/\∀b∈fp,H' b=none) E s1) E s
 done:∀(X:Cx),X.prog=P->X.w=w->X.K=K->X.calm=true->∀(i:Nat)(pins:List (af×iG))(s:ao)(σ:St)(H:Hp)(E:ag->ao->Prop),Inv X pins σ H s->(∀b∈fp,E7 X pins H b)->tn i s.heap->J.stop i H->
  wpAny (model P w) X.A (pyNext (.ref it)) (λr s1=>r=none/\Inv X pins σ H s1) E s
 self:∀(A:dD)(i:Nat)(s:ao)(Q:ag->ao->Prop)(E:ag->ao->Prop),tn i s.heap->Q (.ref it) s->wpAny (model P w) A (pyIter (.ref it)) Q E s
abbrev TI:=St->Hp->(It->Hp->Prop)->Prop
def PIE(X:Cx)(pins:List (af×iG))(σ:St)(tg:Expr)(R:It->Hp->Prop)(itv:ag)(s2:ao):Prop:=
 ∃(it:af)(fp:List af)(tn:Nat->cE->Prop)(J:It)(H':Hp),itv=.ref it/\Inv X pins σ H' s2/\Pe X.prog X.w X.K tg J fp it tn/\tn 0 s2.heap/\(∀b∈fp,E7 X pins H' b)/\R J H'
def PI(X:Cx)(tg iter:Expr)(wi:TI):Prop:=
 ∀(pins:List (af×iG))(s:ao)(σ:St)(H:Hp)(R:It->Hp->Prop),Inv X pins σ H s->wi σ H R->
  wpAny (model X.prog X.w) X.A (eval iter X.env) (λv s1=>wpAny (model X.prog X.w) X.A (pyIter v) (PIE X pins σ tg R) X.xe s1) X.xe s
def RW{M:ab9}{A:dD}{E:ag->ao->Prop}{s:ao}{tg:Expr}{it:af}{u:ag}{o:iG}{n:String}{vs:Array ag}{Q:Unit->ao->Prop}(ho:s.heap.get? it=some o)(hc:o.cls=.type n)(hd:o.data=.fields vs)
 (hn:["enumerate","zip","dict_itemiterator","dict_reverseitemiterator","odict_iterator","itertools.zip_longest","itertools.pairwise"].contains n=false) (hQ:Q () s):wpAny M A (zp tg (.ref it) u) Q E s:=by
 unfold zp;cases tg<;>first
  |show wpAny_pure hQ
  |(cases u<;>first
   |show wpAny_pure hQ
   |(show wpAny_bind (wpAny_load ho ?_)
     rw[hc,hd];change wpAny M A (if (["enumerate","zip","dict_itemiterator","dict_reverseitemiterator","odict_iterator","itertools.zip_longest","itertools.pairwise"].contains n&&vs[0]?==some (Jk _))=true then _ else _) Q E s;rw[if_neg (by intro h;rw[hn,kZ] at h;cases h)];show wpAny_pure hQ))
def XC(K:ad)(a:af):It:=
 ⟨λi H=>∃xs x,cf K H a xs/\xs[i]? = some x,λi H x H'=>H'=H/\∀xs,cf K H a xs->xs[i]? = some x,λi H=>∃xs,cf K H a xs/\xs.length<=i⟩
def Itt(K:ad)(a:af):It:=
 ⟨λi H=>∃xs x,ox K H a xs/\xs[i]? = some x,λi H x H'=>H'=H/\∀xs,ox K H a xs->xs[i]? = some x,λi H=>∃xs,ox K H a xs/\xs.length<=i⟩
def Yi(lo:Int)(n:Nat):It:=⟨λi _=>i<n,λi H x H'=>H'=H/\x=.int (lo+i),λi _=>n<=i⟩
def Ul{P:aS}{w:bL}{K:ad}{tg:Expr}(a it:af):Pe P w K tg (XC K a) [it] it (λi h=>h.IsListIter it a i) where
 mem:=by simp
 obj:=λi h st b hb=>by
  have e:b=it:=by simpa using hb
  subst e;rintro o e c d:gF st;show #[ia,o,e,λv z=>by rw[d] at z;cases z]
 keep:=λi h h' st k=>st.at λo e=>k it (by simp) o e
 item:=by
  intro X hP hw hK hc i pins s σ H E I hf st hg;subst hP hw hK;rintro xs x hq hx:rE hg;rintro its rv p hz:gF<|I.list hq
  rintro u hu ru:bM<|rv.get hx;rintro f0 f1 f2 f3 f4 f5:Iw<|hf it (by simp);show UE st p.isList (x:=u) (by simpa using hu) λh' OG sb=>?_;have I1:Inv X pins σ H { s with heap:=h' }:=I.turned (t':=s.toks) (λb o hb e=>(sb.2 b hb).trans e) f0 f1 f3 f4 f5;rintro o e c d:gF<|id OG;show #[ia,u,rfl,RW (s:={ s with heap:=h' }) e c d (by decide) #[ik,x,H,I1,ru,⟨rfl,λys hy=>by rw[I.NR hy hq];show hx⟩,OG,λb hb=>(hf b hb).1]]
 done:=by
  intro X hP hw hK hc i pins s σ H E I hf st hg;subst hP hw hK;rintro xs hq hx:bM hg;rintro its rv p hz:gF<|I.list hq
  rintro f0 f1 f2 f3 f4 f5:Iw<|hf it (by simp);have hl:=rv.length;show U4 (I.ok.hd hc) st p.isList (by simp;omega) λh' eb=>⟨rfl,I.turned (t':=s.toks) (λb o hb e=>eb b o hb e) f0 f1 f3 f4 f5⟩
 self:=λ_ _ _ _ _ st h=>wpAny_pyIter_listiter st h
def Rm{P:aS}{w:bL}{K:ad}{tg:Expr}(a it:af):Pe P w K tg (Itt K a) [it] it (λi h=>h.IsTupleIter it a i) where
 mem:=by simp
 obj:=λi h st b hb=>by
  have e:b=it:=by simpa using hb
  subst e;rintro o e c d:gF st;show #[ia,o,e,λv z=>by rw[d] at z;cases z]
 keep:=λi h h' st k=>st.at λo e=>k it (by simp) o e
 item:=by
  intro X hP hw hK hc i pins s σ H E I hf st hg;subst hP hw hK;rintro xs x hq hx:rE hg;rintro its rv p hz:gF<|I.tuple hq
  rintro u hu ru:bM<|rv.get hx;rintro f0 f1 f2 f3 f4 f5:Iw<|hf it (by simp);show wpAny_pyNext_tuple_item st (show s.heap.IsTuple a its.toArray from p) (x:=u) (by simpa using hu) λh' OG sb=>?_;have I1:Inv X pins σ H { s with heap:=h' }:=I.turned (t':=s.toks) (λb o hb e=>(sb.2 b hb).trans e) f0 f1 f3 f4 f5;rintro o e c d:gF<|id OG;show #[ia,u,rfl,RW (s:={ s with heap:=h' }) e c d (by decide) #[ik,x,H,I1,ru,⟨rfl,λys hy=>by rw[I.Uj hy hq];show hx⟩,OG,λb hb=>(hf b hb).1]]
 done:=by
  intro X hP hw hK hc i pins s σ H E I hf st hg;subst hP hw hK;rintro xs hq hx:bM hg;rintro its rv p hz:gF<|I.tuple hq
  rintro f0 f1 f2 f3 f4 f5:Iw<|hf it (by simp);have hl:=rv.length;show wpAny_pyNext_tuple_end (I.ok.hd hc) st (show s.heap.IsTuple a its.toArray from p) (by simp;omega) λh' eb=>⟨rfl,I.turned (t':=s.toks) (λb o hb e=>eb b o hb e) f0 f1 f3 f4 f5⟩
 self:=λ_ _ _ _ _ st h=>wpAny_pyIter_tupleiter st h
def Rl{P:aS}{w:bL}{K:ad}{tg:Expr}(it:af)(lo:Int)(n:Nat):Pe P w K tg (Yi lo n) [it] it (λi h=>IsRangeIter h it (lo+(i:Nat)*1) ((n:Int) - (i:Nat)) 1) where
 mem:=by simp
 obj:=λi h st b hb=>by
  have e:b=it:=by simpa using hb
  subst e;show #[ia,_,st,λv z=>by
   have z':Data.fields _=Data.cell v:=z;cases z']
 keep:=λi h h' st k=>k it (by simp) _ st
 item:=by
  intro X hP hw hK hc i pins s σ H E I hf st hg;subst hP hw hK;rintro f0 f1 f2 f3 f4 f5:Iw<|hf it (by simp)
  have W:=Walks.range (prog:=X.prog) (w:=X.w) (I.ok.hd hc) it lo 1 n;show W.item i s _ _ hg st λv h' tk hv OG kk=>?_;rintro t rfl:bW hv;have I1:Inv X pins σ H { s with heap:=h',toks:=tk }:=I.turned (λb o hb e=>kk b o (by simpa using hb) e) f0 f1 f3 f4 f5;show #[ia,_,rfl,RW (s:={ s with heap:=h',toks:=tk }) (n:="range_iterator") OG rfl rfl (by decide) #[ik,.int (lo+i),H,I1,⟨t,?_⟩,⟨rfl,rfl⟩,OG,λb hb=>(hf b hb).1]];rw[Int.mul_one]
 done:=by
  intro X hP hw hK hc i pins s σ H E I hf st hg;subst hP hw hK;rintro f0 f1 f2 f3 f4 f5:Iw<|hf it (by simp)
  show wpAny_pyNext_range_end (I.ok.hd hc) st (by have:n<=i:=hg;omega) λh' eb=>⟨rfl,I.turned (t':=s.toks) (λb o hb e=>eb b o hb e) f0 f1 f3 f4 f5⟩
 self:=λ_ _ _ _ _ st h=>wpAny_pyIter_rangeiter st h
end L2
namespace L2
open PySem PySem.Spec PyProof.Rows
section
variable{X:Cx}{tg:Expr}
def NM(K:ad)(tl:TE):TI:=λσ H R=>tl σ H λx H1=>∃a,x=.ref a/\(∃xs,cf K H1 a xs)/\R (XC K a) H1
def aey(K:ad)(tl:TE):TI:=λσ H R=>tl σ H λx H1=>∃a,x=.ref a/\(∃xs,ox K H1 a xs)/\R (Itt K a) H1
def dM{l:Expr}{tl:TE}(hl:PE X l tl):PI X tg l (NM X.K tl):=by
 intro pins s σ H R I h;show gQ (hl pins s σ H _ I h) λv s1 cG=>fD cG λx H1 I1 r1 q1=>?_;rintro a e ⟨xs,hq⟩ q:gF q1;subst e;cases r1;rintro its rv p hz:gF<|I1.list hq
 show Ht p.isList ?_;show #[ig,s1.heap.objs.size,[s1.heap.objs.size],_,_,H1,#[ip,rfl,I1.kept (t':=s1.toks) λb o e=>aC _ e,Ul a _,#[ie,_,bq _ rfl,rfl,rfl],λb hb=>?_,q]];have e:b=s1.heap.objs.size:=by simpa using hb
 subst e;show I1.Tn (aA _) (I1.eU.fresh (aA _))
def afu{l:Expr}{tl:TE}(hl:PE X l tl):PI X tg l (aey X.K tl):=by
 intro pins s σ H R I h;show gQ (hl pins s σ H _ I h) λv s1 cG=>fD cG λx H1 I1 r1 q1=>?_;rintro a e ⟨xs,hq⟩ q:gF q1;subst e;cases r1;rintro its rv p hz:gF<|I1.tuple hq
 show wpAny_pyIter_tuple (show s1.heap.IsTuple a its.toArray from p) ?_;show #[ig,s1.heap.objs.size,[s1.heap.objs.size],_,_,H1,#[ip,rfl,I1.kept (t':=s1.toks) λb o e=>aC _ e,Rm a _,#[ie,_,bq _ rfl,rfl,rfl],λb hb=>?_,q]];have e:b=s1.heap.objs.size:=by simpa using hb
 subst e;show I1.Tn (aA _) (I1.eU.fresh (aA _))
def Ow{pins:List (af×iG)}{σ:St}{H:Hp}{s:ao}{R:It->Hp->Prop}{E:ag->ao->Prop}{lo hi:Int}{t u v:X7}{tk:Nat}(I:Inv X pins σ H s)(h1:-(2 ^ 62)<=lo)(h2:lo<2 ^ 62)(h3:-(2 ^ 62)<=hi)(h4:hi<2 ^ 62)
 (q:R (Yi lo (hi - lo).toNat) H):wpAny (model X.prog X.w) X.A (pyIter (.ref s.heap.objs.size)) (PIE X pins σ tg R) E { s with heap:=s.heap.push { cls:=.type "range",data:=.fields #[.int lo t,.int hi u,.int 1 v] },toks:=tk }:=by
 show wpAny_pyIter_range (IsRange.new ..) (small_one h1 h2 h3 h4) ?_;have I1:Inv X pins σ H { s with heap:=s.heap.push { cls:=.type "range",data:=.fields #[.int lo t,.int hi u,.int 1 v] },toks:=tk }:=I.kept λb o e=>aC _ e;show #[ig,(s.heap.push { cls:=.type "range",data:=.fields #[.int lo t,.int hi u,.int 1 v] }).objs.size,[(s.heap.push { cls:=.type "range",data:=.fields #[.int lo t,.int hi u,.int 1 v] }).objs.size],_,_,H,#[ip,rfl,
  I1.kept (t':=tk) λb o e=>aC _ e,Rl _ lo (hi - lo).toNat,?_,λb hb=>?_,q]]
 .have e1:lo+((0:Nat):Int)*1=lo:=by simp
  have e2:(((hi - lo).toNat:Nat):Int) - ((0:Nat):Int)=ag8 lo hi 1:=by rw[rangeSize_one];split<;>omega
  change IsRangeIter _ _ (lo+((0:Nat):Int)*1) ((((hi - lo).toNat:Nat):Int) - ((0:Nat):Int)) 1;rw[e1,e2];show bq _ rfl
 .have e:b=(s.heap.push { cls:=.type "range",data:=.fields #[.int lo t,.int hi u,.int 1 v] }).objs.size:=by simpa using hb
  subst e;show I1.Tn (aA _) (I1.eU.fresh (aA _))
def V'(ta:TA):TI:=λσ H R=>ta σ H λvs H1=>∃j:Int,vs=[.int j]/\-(2 ^ 62)<=j/\j<2 ^ 62/\R (Yi 0 j.toNat) H1
def R7(ta:TA):TI:=λσ H R=>ta σ H λvs H1=>∃i j:Int,vs=[.int i,.int j]/\(-(2 ^ 62)<=i/\i<2 ^ 62/\-(2 ^ 62)<=j/\j<2 ^ 62)/\R (Yi i (j - i).toNat) H1
def yi{a:Expr}{ta:TA}{p pos:km}(hg:Gl X "range")(hm:X.mg "range"=none)(ha:PA X [a] ta)(hs:bi [a] X.env=[(false,eval a X.env)]:=by rfl):PI X tg (.Call (.Name "range" p) [a] [] pos) (V' ta):=by
 intro pins s σ H R I h;show Call_ (Cu I hg hm boot_range (jI (gQ (ha pos pins s σ H _ I h) λus s1 cG=>fD cG λvs H1 I1 r1 q1=>?_) hs rfl));rintro j e q1 q2 q:gF 3 fo q1;subst e;cases r1 with
 |cons r rr=>cases rr;rintro t rfl:bW r;show call_range_1 (Ow I1 (by omega) (by omega) q1 q2 (by simpa using q))
def JN{a b:Expr}{ta:TA}{p pos:km}(hg:Gl X "range")(hm:X.mg "range"=none)(ha:PA X [a,b] ta)(hs:bi [a,b] X.env=[(false,eval a X.env),(false,eval b X.env)]:=by rfl)(V6:bi [b] X.env=[(false,eval b X.env)]:=by rfl):
 PI X tg (.Call (.Name "range" p) [a,b] [] pos) (R7 ta):=by
 intro pins s σ H R I h;show Call_ (Cu I hg hm boot_range (jI (gQ (ha pos pins s σ H _ I h) λus s1 cG=>fD cG λvs H1 I1 r1 q1=>?_) (by rw[hs,V6]) (by rw[V6];rfl)));rintro i j e ⟨q1,q2,q3,q4⟩ q:fD q1;subst e;cases r1 with
 |cons r rr=>
  cases rr with
  |cons r' rr=>cases rr;rintro t rfl:bW r;rintro t' rfl:bW r';show call_range_2 (Ow I1 q1 q2 q3 q4 q)
def I_(wi:TI)(g:TG)(tb:TS):TS:=λD σ H=>wi σ H λJ H1=>∃W:Nat->Nat->St->Hp->Prop,(∃m,W 0 m σ H1)/\∀i m σ H,W i m σ H->
 (J.stop i H/\D.nx σ H)\/(J.go i H/\∃N:St->Hp->Prop,(∀σ' H',N σ' H'->∃m',m'<m/\W (i+1) m' σ' H')/\∀x H',J.ZX i H x H'->g x σ H' λσ2 H2=>tb { D with nx:=N,ct:=N,bk:=D.nx } σ2 H2)
def Gx(fp:List af)(h:cE):List (af×iG):=fp.filterMap λb=>(h.get? b).map λo=>(b,o)
def z0{fp:List af}{h:cE}{b:af}{o:iG}(hb:b∈fp)(e:h.get? b=some o):(b,o)∈Gx fp h:=SU.mpr #[ia,b,hb,by rw[e];rfl]
def T3{fp:List af}{h:cE}{p:af×iG}(hp:p∈Gx fp h):p.1∈fp/\h.get? p.1=some p.2:=by
 rintro b hb e:bM<|List.mem_filterMap.mp hp;cases q:h.get? b with
 |none=>rw[q] at e;cases e
 |some o=>rw[q] at e;have e':(b,o)=p:=bp e;subst e';show⟨hb,q⟩
def Inv.pinned{pins:List (af×iG)}{σ:St}{H:Hp}{s:ao}{fp:List af}(I:Inv X pins σ H s)(hf:∀b∈fp,E7 X pins H b)(ho:∀b∈fp,∃o,s.heap.get? b=some o/\∀v,o.data≠.cell v):Inv X (pins++Gx fp s.heap) σ H s:=
 I.So λp hp=>(br.mp hp).elim (λz=>I.pin p (cj _ z)) λz=>by
  rintro hb e:fo<|T3 z;rintro f0 f1 f2 _:Cz<|hf p.1 hb;rintro o e' d:bM<|ho p.1 hb;rw[e] at e';cases e';show #[iq,e,f0,f1,f2,d]
def Inv.BI{pins pl:List (af×iG)}{σ:St}{H:Hp}{s:ao}(I:Inv X (pins++pl) σ H s):Inv X pins σ H s:=I.So λp hp=>I.pin p (cj _ (fO _ hp))
def fR{iter:Expr}{body:List cK}{wi:TI}{g:TG}{tb:TS}{pos:km}(hp:PassesOwn (model X.prog X.w) X.A X.env X.xe)(hc:X.calm=true)(hi:PI X tg iter wi)(hg:PG X tg g)(hb:Pz X body tb)
 (hs:∀x,vS iter X.env x=pure x:=by intro _;rfl):PS X (.For tg iter body [] pos) (I_ wi g tb):=by
 intro pins s σ H D I h;show wpAny_For (gQ (hi pins s σ H _ I h) λv s1 h1=>gQ h1 λitv s2 h2=>?_) hs;rintro it fp tn J H2 e I2 T st2 f2 W ⟨m0,w0⟩ turn:DL 9 EQ h2;subst e;have stat:∀{H':Hp},(∀b∈fp,H' b=none)->∀b∈fp,E7 X pins H' b:=λhn b hb=>⟨hn b hb,(f2 b hb).2⟩;show codeAny_forLoop_any (λn s'=>∃i σ' H',Inv X pins σ' H' s'/\tn i s'.heap/\(∀b∈fp,H' b=none)/\W i n σ' H') ?_ m0 #[ii,0,σ,H2,I2,st2,⟨λb hb=>(f2 b hb).1,w0⟩];rintro n s3 cG;rintro i σ3 H3 I3 st3 fr3 w3:rD 5 fo cG;rcases turn i n σ3 H3 w3 with⟨stop,qn⟩|⟨go,N,hN,step⟩
 .show kR hp (gQ (T.done X rfl rfl rfl hc i pins s3 σ3 H3 X.xe I3 (stat fr3) st3 stop) λr s4 cG=>fo cG λhr I4=>?_);subst hr;show zr #[im,σ3,H3,I4,qn]
 .show kR hp (gQ (T.item X rfl rfl rfl hc i pins s3 σ3 H3 X.xe I3 (stat fr3) st3 go) λr s4 cG=>bM cG λu hr h4=>?_);subst hr;show kR hp (gQ h4 λ_ s5 cG=>lA cG λx H5 I5 r5 y5 w'=>fo w' λst5 fr5=>?_);have I5':=I5.pinned (stat fr5) (T.obj _ _ st5);show kR hp (gQ (hg _ s5 σ3 H5 x u _ I5' r5 (step x H5 y5)) λ_ s6 cG=>rE cG λσ6 H6 I6 q6=>?_);show kR hp (gQ (hb _ s6 σ6 H6 _ I6 q6) λf s7 q7=>?_);have again:∀{σ7:St}{H7:Hp},Inv X (pins++Gx fp s5.heap) σ7 H7 s7->N σ7 H7->∃m,m<n/\∃i σ' H',Inv X pins σ' H' s7/\tn i s7.heap/\(∀b∈fp,H' b=none)/\W i m σ' H':=λ{σ7 H7}I7 n7=>by
   rintro m' hm w7:bM<|hN σ7 H7 n7;show #[ia,m',hm,#[ii,i+1,σ7,H7,I7.BI,T.keep _ _ _ st5 λb hb o e=>(I7.pin (b,o) (cj _ (cj _ (z0 hb e)))).1,⟨λb hb=>?_,w7⟩]];rintro o e d:bM<|T.obj _ _ st5 b hb;show (I7.pin (b,o) (cj _ (cj _ (z0 hb e)))).2.1
  cases f with
  |next=>rintro σ7 H7 I7 n7:rE q7;show again I7 n7
  |cont=>rintro σ7 H7 I7 n7:rE q7;show again I7 n7
  |brk=>rintro σ7 H7 I7 q7:rE q7;show #[im,σ7,H7,I7.BI,q7]
  |ret v=>rintro x7 σ7 H7 I7 r7 q7:rD q7;show #[ii,x7,σ7,H7,I7.BI,r7,q7]
end
def VE{K:ad}{a:af}{xs:List V}{g:TG}{tb:TS}{D:qO}{σ:St}{H:Hp}(Pv:Nat->St->Hp->Prop)(h0:Pv 0 σ H)(hl:∀i σ H,i<=xs.length->Pv i σ H->cf K H a xs)
 (hs:∀i x σ H,xs[i]? = some x->Pv i σ H->g x σ H λσ2 H2=>tb { D with nx:=Pv (i+1),ct:=Pv (i+1),bk:=D.nx } σ2 H2) (hd:∀σ H,Pv xs.length σ H->D.nx σ H):
 ∃W:Nat->Nat->St->Hp->Prop,(∃m,W 0 m σ H)/\∀i m σ H,W i m σ H->
  ((XC K a).stop i H/\D.nx σ H)\/((XC K a).go i H/\∃N:St->Hp->Prop,(∀σ' H',N σ' H'->∃m',m'<m/\W (i+1) m' σ' H')/\∀x H',(XC K a).ZX i H x H'->g x σ H' λσ2 H2=>tb { D with nx:=N,ct:=N,bk:=D.nx } σ2 H2):=by
 show #[ia,λi m σ H=>m=xs.length - i/\i<=xs.length/\Pv i σ H,#[ie,xs.length,by simp,bV _,h0],?_];rintro i m σ H cG;rintro rfl hi p:lB cG;have q:=hl i σ H hi p;by_cases lr:i<xs.length;.show .inr #[io,#[im,xs,xs[i],q,by simp[lr]],Pv (i+1),λσ' H' p'=>#[ie,xs.length - (i+1),by omega,rfl,⟨lr,p'⟩],λx H' y=>?_];rintro e y:fo y;subst e;show hs i x σ _ (y xs q) p
 .have e:i=xs.length:=by omega
  subst e;show .inl ⟨#[ia,xs,q,aA _],hd σ H p⟩
def Jv{lo:Int}{n:Nat}{g:TG}{tb:TS}{D:qO}{σ:St}{H:Hp}(Pv:Nat->St->Hp->Prop)(h0:Pv 0 σ H)
 (hs:∀i σ H,i<n->Pv i σ H->g (.int (lo+i)) σ H λσ2 H2=>tb { D with nx:=Pv (i+1),ct:=Pv (i+1),bk:=D.nx } σ2 H2) (hd:∀σ H,Pv n σ H->D.nx σ H):
 ∃W:Nat->Nat->St->Hp->Prop,(∃m,W 0 m σ H)/\∀i m σ H,W i m σ H->
  ((Yi lo n).stop i H/\D.nx σ H)\/((Yi lo n).go i H/\∃N:St->Hp->Prop,(∀σ' H',N σ' H'->∃m',m'<m/\W (i+1) m' σ' H')/\∀x H',(Yi lo n).ZX i H x H'->g x σ H' λσ2 H2=>tb { D with nx:=N,ct:=N,bk:=D.nx } σ2 H2):=by
 show #[ia,λi m σ H=>m=n - i/\i<=n/\Pv i σ H,#[ie,n,by simp,bV _,h0],?_];rintro i m σ H cG;rintro rfl hi p:lB cG;by_cases lr:i<n;.show .inr #[io,lr,Pv (i+1),λσ' H' p'=>#[ie,n - (i+1),by omega,rfl,⟨lr,p'⟩],λx H' y=>?_];rintro e y:fo y;subst e y;show hs i σ _ lr p
 .have e:i=n:=by omega
  subst e;show .inl ⟨aA _,hd σ H p⟩
end L2
namespace L2
open PySem PySem.Spec PyProof.Rows
abbrev R2:=V->V->Hp->VK->Prop
def yI(X:Cx)(f:ag->ag->Xx ag)(r:R2):Prop:=
 ∀(pins:List (af×iG))(s:ao)(σ:St)(H:Hp)(x y:V)(v u:ag)(Q:VK),Inv X pins σ H s->RelV x v->RelV y u->r x y H Q->
  wpAny (model X.prog X.w) X.A (f v u) (EP X pins σ Q) X.xe s
def UnR(X:Cx)(f:ag->Xx ag)(r:V->Hp->VK->Prop):Prop:=
 ∀(pins:List (af×iG))(s:ao)(σ:St)(H:Hp)(x:V)(v:ag)(Q:VK),Inv X pins σ H s->RelV x v->r x H Q->
  wpAny (model X.prog X.w) X.A (f v) (EP X pins σ Q) X.xe s
def me(X:Cx)(f:ag)(r:List V->Hp->VK->Prop):Prop:=
 ∀(pins:List (af×iG))(s:ao)(σ:St)(H:Hp)(xs:List V)(us:List ag)(Q:VK),Inv X pins σ H s->eV xs us->r xs H Q->
  wpAny (model X.prog X.w) X.A (call f us) (EP X pins σ Q) X.xe s
def Ub(r:R2)(ta tb:TE):TE:=λσ H Q=>ta σ H λx H1=>tb σ H1 λy H2=>r x y H2 Q
def tUn(r:V->Hp->VK->Prop)(ta:TE):TE:=λσ H Q=>ta σ H λx H1=>r x H1 Q
def rI(C:Int->Int->Prop)(g:Int->Int->V):R2:=λx y H Q=>∃i j,x=.int i/\y=.int j/\C i j/\Q (g i j) H
def WK(g:Int->Int->V):R2:=λx y H Q=>∃i j,x=.int i/\y=.int j/\Q (g i j) H
def rU(g:Int->V):V->Hp->VK->Prop:=λx H Q=>∃i,x=.int i/\Q (g i) H
section
variable{X:Cx}{a b c:Expr}{ta tb tc:TE}{pos:km}
def acr(ha:PE X a ta)(hb:PE X b tb){pins:List (af×iG)}{s:ao}{σ:St}{H:Hp}{R:V->V->Hp->Prop}(I:Inv X pins σ H s)
 (h:ta σ H λx H1=>tb σ H1 λy H2=>R x y H2) {Q:ag->ao->Prop} {f:ag->ag->Xx ag}
 (hf:∀v u s2 x y H2,Inv X pins σ H2 s2->RelV x v->RelV y u->R x y H2->wpAny (model X.prog X.w) X.A (f v u) Q X.xe s2):
 wpAny (model X.prog X.w) X.A (eval a X.env) (λv s₁=>wpAny (model X.prog X.w) X.A (eval b X.env) (λu s₂=>wpAny (model X.prog X.w) X.A (f v u) Q X.xe s₂) X.xe s₁) X.xe s:=by
 show gQ (ha pins s σ H _ I h) λv s1 cG=>fD cG λx H1 I1 r1 q1=>?_;show gQ (hb pins s1 σ H1 _ I1 q1) λu s2 cG=>fD cG λy H2 I2 r2 q2=>?_;show hf v u s2 x y H2 I2 r1 r2 q2
def fB{op:Operator}{r:R2}(ho:yI X (binaryOp op) r)(ha:PE X a ta)(hb:PE X b tb):PE X (.BinOp a op b pos) (Ub r ta tb):=by intro pins s σ H Q I h;show wpAny_BinOp (acr ha hb I h λv u s2 x y H2 I2 rx ry q=>ho pins s2 σ H2 x y v u Q I2 rx ry q)
def Sn{op:UnaryOp}{r:V->Hp->VK->Prop}(ho:UnR X (unaryOp op) r)(ha:PE X a ta):PE X (.UnaryOp op a pos) (tUn r ta):=by intro pins s σ H Q I h;show UnaryOp_ (gQ (ha pins s σ H _ I h) λv s1 cG=>fD cG λx H1 I1 r1 q1=>ho pins s1 σ H1 x v Q I1 r1 q1)
def opI{f:ag->ag->Xx ag}{C:Int->Int->Prop}{g:Int->Int->Int}
 (rule:∀(i j:Int)(t u:X7)(s:ao)(Q:ag->ao->Prop)(E:ag->ao->Prop),C i j->Q (.int (g i j) s.toks) { s with toks:=s.toks+1 }->wpAny (model X.prog X.w) X.A (f (.int i t) (.int j u)) Q E s):
 yI X f (rI C λi j=>.int (g i j)):=by
 intro pins s σ H x y v u Q I rx ry h;rintro i j rfl rfl hc q:lA h;rintro t rfl:bW rx;rintro t' rfl:bW ry;show rule i j t t' s _ _ hc #[ib,.int (g i j),H,I.tok _,⟨_,rfl⟩,q]
def am0{f:ag->ag->Xx ag}{g:Int->Int->Int}
 (rule:∀(i j:Int)(t u:X7)(s:ao)(Q:ag->ao->Prop)(E:ag->ao->Prop),Q (.int (g i j) s.toks) { s with toks:=s.toks+1 }->wpAny (model X.prog X.w) X.A (f (.int i t) (.int j u)) Q E s):
 yI X f (WK λi j=>.int (g i j)):=by
 intro pins s σ H x y v u Q I rx ry h;rintro i j rfl rfl q:fD h;rintro t rfl:bW rx;rintro t' rfl:bW ry;show rule i j t t' s _ _ #[ib,.int (g i j),H,I.tok _,⟨_,rfl⟩,q]
def Zk{f:ag->ag->Xx ag}{g:Int->Int->Bool}
 (rule:∀(i j:Int)(t u:X7)(s:ao)(Q:ag->ao->Prop)(E:ag->ao->Prop),Q (.bool (g i j)) s->wpAny (model X.prog X.w) X.A (f (.int i t) (.int j u)) Q E s):
 yI X f (WK λi j=>.bl (g i j)):=by
 intro pins s σ H x y v u Q I rx ry h;rintro i j rfl rfl q:fD h;rintro t rfl:bW rx;rintro t' rfl:bW ry;show rule i j t t' s _ _ #[ib,.bl (g i j),H,I,rfl,q]
def aq5(i j:Int):Prop:=0<j/\j<1073741824
def acj(i j:Int):Prop:=(-(2 ^ 64)<i/\i<2 ^ 64)\/(-(2 ^ 64)<j/\j<2 ^ 64)
def acj.ok{i j:Int}(h:acj i j):IntMulOk i j:=by
 rcases h with⟨h1,h2⟩|⟨h1,h2⟩;.show .of_left (aq2 h1 h2)
 .show .of_right (aq2 h1 h2)
def iI:yI X (binaryOp .Add) (WK λi j=>.int (i+j)):=am0 λ_ _ _ _ _ _ _ q=>add_int q
def LS:yI X (binaryOp .Sub) (WK λi j=>.int (i - j)):=am0 λ_ _ _ _ _ _ _ q=>sub_int q
def QK:yI X (binaryOp .Mult) (rI acj λi j=>.int (i*j)):=opI λ_ _ _ _ _ _ _ hc q=>mul_int q hc.ok
def Sj:yI X (binaryOp .FloorDiv) (rI aq5 λi j=>.int (i / j)):=opI λi j _ _ _ _ _ hc q=>by
 have h1:(0:Int)<j:=hc.1;have h2:j<1073741824:=hc.2;show floordiv_int (by omega) (by rw[Int.fdiv_eq_ediv_of_nonneg i (by omega)];show q) (.inl (PyProof.noPylong_small (by omega)))
def Wv:yI X (binaryOp .Mod) (rI (λ_ j=>0<j) λi j=>.int (i%j)):=opI λi j _ _ _ _ _ hc q=>by
 have h1:(0:Int)<j:=hc;show mod_int' (by omega) (by rw[Int.fmod_eq_emod_of_nonneg i (by omega)];show q)
def unI{f:ag->Xx ag}{g:Int->Int}
 (rule:∀(i:Int)(t:X7)(s:ao)(Q:ag->ao->Prop)(E:ag->ao->Prop),Q (.int (g i) s.toks) { s with toks:=s.toks+1 }->wpAny (model X.prog X.w) X.A (f (.int i t)) Q E s):
 UnR X f (rU λi=>.int (g i)):=by
 intro pins s σ H x v Q I rx h;rintro i rfl q:bM h;rintro t rfl:bW rx;show rule i t s _ _ #[ib,.int (g i),H,I.tok _,⟨_,rfl⟩,q]
def Mr:UnR X (unaryOp .USub) (rU λi=>.int (-i)):=unI λ_ _ _ _ _ q=>neg_int q
end
def aob:V->V->Bool
 |.non,.non=>true|.non,.int _=>true|.int _,.non=>true|.non,.bl _=>true|.bl _,.non=>true|.non,.str _=>true|.str _,.non=>true
 |.int _,.int _=>true|.bl _,.bl _=>true|.str _,.str _=>true|.KS _,.KS _=>true
 |.int _,.str _=>true|.str _,.int _=>true|.bl _,.str _=>true|.str _,.bl _=>true
 |_,_=>false
def rEq:R2:=λx y H Q=>aob x y=true/\Q (.bl (decide (x=y))) H
def rNe:R2:=λx y H Q=>aob x y=true/\Q (.bl (!decide (x=y))) H
def RK{i j:Int}:decide (V.int i=V.int j)=(i==j):=by rw[cV];simp
def Vy{i j:Bool}:decide (V.bl i=V.bl j)=(i==j):=by rw[cV];simp
def RL{i j:Str}:decide (V.str i=V.str j)=(i==j):=by rw[cV];simp
def RJ{i j:Array UInt8}:decide (V.KS i=V.KS j)=(i.toList==j.toList):=by rw[cV];cases i;cases j;simp
section
variable{X:Cx}{a b c:Expr}{ta tb tc:TE}{pos:km}
def fC{pins:List (af×iG)}{σ:St}{H:Hp}{s:ao}{Q:VK}{k k':Bool}(I:Inv X pins σ H s)(q:Q (.bl k) H)(e:k=k'):EP X pins σ Q (.bool k') s:=by subst e;show #[ib,.bl k,H,I,rfl,q]
def lI:yI X (compareOp .Eq) rEq:=by
 intro pins s σ H x y v u Q I rx ry h;rintro hs q:fo h;cases x with
 |non=>
  cases rx;cases y with
  |non=>cases ry;show ai8 (fC I q (by simp))
  |bl j=>cases ry;show ai6 (fC I q (by simp))
  |int j=>rintro t' rfl:bW ry;show ai7 (fC I q (by simp))
  |str j=>rintro t' rfl:bW ry;show ai9 (fC I q (by simp))
  |_=>show absurd (show false=true from hs) bz
 |bl i=>
  cases rx;cases y with
  |non=>cases ry;show ai4 (fC I q (by simp))
  |bl j=>cases ry;show eq_bool (fC I q Vy)
  |str j=>rintro t' rfl:bW ry;show aha (fC I q (by simp))
  |_=>show absurd (show false=true from hs) bz
 |int i=>
  rintro t rfl:bW rx;cases y with
  |non=>cases ry;show ai5 (fC I q (by simp))
  |int j=>rintro t' rfl:bW ry;show eq_int (fC I q RK)
  |str j=>rintro t' rfl:bW ry;show ahb (fC I q (by simp))
  |_=>show absurd (show false=true from hs) bz
 |str i=>
  rintro t rfl:bW rx;cases y with
  |non=>cases ry;show aja (fC I q (by simp))
  |bl j=>cases ry;show ahc (fC I q (by simp))
  |int j=>rintro t' rfl:bW ry;show ahd (fC I q (by simp))
  |str j=>rintro t' rfl:bW ry;show eq_str (fC I q RL)
  |_=>show absurd (show false=true from hs) bz
 |KS i=>
  rintro t rfl:bW rx;cases y with
  |KS j=>rintro t' rfl:bW ry;show PySem.W.eq_bytes (fC I q RJ)
  |_=>show absurd (show false=true from hs) bz
 |_=>cases y<;>show absurd (show false=true from hs) bz
def oa:yI X (compareOp .NotEq) rNe:=by
 intro pins s σ H x y v u Q I rx ry h;rintro hs q:fo h;cases x with
 |non=>
  cases rx;cases y with
  |non=>cases ry;show ajf (fC I q (by simp))
  |bl j=>cases ry;show ajd (fC I q (by simp))
  |int j=>rintro t' rfl:bW ry;show aje (fC I q (by simp))
  |str j=>rintro t' rfl:bW ry;show ajg (fC I q (by simp))
  |_=>show absurd (show false=true from hs) bz
 |bl i=>
  cases rx;cases y with
  |non=>cases ry;show ajb (fC I q (by simp))
  |bl j=>cases ry;show ne_bool (fC I q (congrArg not Vy))
  |str j=>rintro t' rfl:bW ry;show ahe (fC I q (by simp))
  |_=>show absurd (show false=true from hs) bz
 |int i=>
  rintro t rfl:bW rx;cases y with
  |non=>cases ry;show ajc (fC I q (by simp))
  |int j=>rintro t' rfl:bW ry;show ne_int (fC I q (congrArg not RK))
  |str j=>rintro t' rfl:bW ry;show ahf (fC I q (by simp))
  |_=>show absurd (show false=true from hs) bz
 |str i=>
  rintro t rfl:bW rx;cases y with
  |non=>cases ry;show ajh (fC I q (by simp))
  |bl j=>cases ry;show ahg (fC I q (by simp))
  |int j=>rintro t' rfl:bW ry;show ahh (fC I q (by simp))
  |str j=>rintro t' rfl:bW ry;show ne_str (fC I q (congrArg not RL))
  |_=>show absurd (show false=true from hs) bz
 |KS i=>
  rintro t rfl:bW rx;cases y with
  |KS j=>rintro t' rfl:bW ry;show PySem.W.ne_bytes (fC I q (congrArg not RJ))
  |_=>show absurd (show false=true from hs) bz
 |_=>cases y<;>show absurd (show false=true from hs) bz
def qH:yI X (compareOp .Lt) (WK λi j=>.bl (decide (i<j))):=Zk λ_ _ _ _ _ _ _ q=>lt_int q
def jL:yI X (compareOp .LtE) (WK λi j=>.bl (decide (i<=j))):=Zk λ_ _ _ _ _ _ _ q=>le_int q
def yR:yI X (compareOp .Gt) (WK λi j=>.bl (decide (j<i))):=Zk λ_ _ _ _ _ _ _ q=>gt_int q
def am1:yI X (compareOp .GtE) (WK λi j=>.bl (decide (j<=i))):=Zk λ_ _ _ _ _ _ _ q=>ge_int q
def Wr(b:Expr){op:Hk}(h:op≠.In:=by decide)(h2:op≠.NotIn:=by decide):jd op b=false:=by
 have e1:(op==aol)=false:=by cases op<;>first|rfl|show absurd rfl h
 have e2:(op==ab6)=false:=by cases op<;>first|rfl|show absurd rfl h2
 cases b<;>simp[jd,e1,e2]
def Zm{op:Hk}{r:R2}(ho:yI X (compareOp op) r)(ha:PE X a ta)(hb:PE X b tb)(hm:jd op b=false):PE X (.Compare a [op] [b] pos) (Ub r ta tb):=by intro pins s σ H Q I h;show aov (acr ha hb I h λv u s2 x y H2 I2 rx ry q=>ho pins s2 σ H2 x y v u Q I2 rx ry q) hm
def OK(t:TE):TT:=λσ H Q=>t σ H λx H'=>∃k,x=.bl k/\Q k H'
def Zr{op:Hk}{r:R2}(ho:yI X (compareOp op) r)(ha:PE X a ta)(hb:PE X b tb)(hm:jd op b=false):PT X (.Compare a [op] [b] pos) (OK (Ub r ta tb)):=by intro pins s σ H Q I h;show U3 (gQ (ha pins s σ H _ I h) λv s1 cG=>fD cG λx H1 I1 r1 q1=>gQ (hb pins s1 σ H1 _ I1 q1) λu s2 cG=>fD cG λy H2 I2 r2 q2=>gQ (ho pins s2 σ H2 x y v u _ I2 r1 r2 q2) λc s3 cG=>fD cG λz H3 I3 r3 w'=>bM w' λk e q3=>?_) hm;subst e;cases r3;show iP #[ia,H3,I3,q3]
def Ml(r r':R2)(ta tb tc:TE):TE:=λσ H Q=>ta σ H λx H1=>tb σ H1 λy H2=>r x y H2 λz H3=>∃k,z=.bl k/\
 (if k=true then tc σ H3 λw' H4=>r' y w' H4 Q else Q (.bl false) H3)
def xh{op op':Hk}{r r':R2}(ho:yI X (compareOp op) r)(Lg:yI X (compareOp op') r')(ha:PE X a ta)(hb:PE X b tb)(hc:PE X c tc)
 (hm:lastMarks [op,op'] [b,c]=false:=by with_unfolding_all rfl):PE X (.Compare a [op,op'] [b,c] pos) (Ml r r' ta tb tc):=by
 intro pins s σ H Q I h;show Compare_chain (gQ (ha pins s σ H _ I h) λv s1 cG=>fD cG λx H1 I1 r1 q1=>chain_link (gQ (hb pins s1 σ H1 _ I1 q1) λu s2 cG=>fD cG λy H2 I2 r2 q2=>gQ (ho pins s2 σ H2 x y v u _ I2 r1 r2 q2) λd s3 cG=>fD cG λz H3 I3 r3 w'=>bM w' λk e q3=>?_)) hm;subst e;cases r3;show iP ?_;cases k with
 |false=>show ite_ff #[ib,.bl false,H3,I3,rfl,q3]
 |true=>show ite_tt (chain_last (gQ (hc pins s3 σ H3 _ I3 q3) λw' s4 cG=>fD cG λz' H4 I4 r4 q4=>Lg pins s4 σ H4 y z' u w' Q I4 r2 r4 q4))
def tw{op op':Hk}{r r':R2}(ho:yI X (compareOp op) r)(Lg:yI X (compareOp op') r')(ha:PE X a ta)(hb:PE X b tb)(hc:PE X c tc)
 (hm:lastMarks [op,op'] [b,c]=false:=by with_unfolding_all rfl):PT X (.Compare a [op,op'] [b,c] pos) (OK (Ml r r' ta tb tc)):=by
 intro pins s σ H Q I h;show isTrue_chain (gQ (ha pins s σ H _ I h) λv s1 cG=>fD cG λx H1 I1 r1 q1=>test_link (gQ (hb pins s1 σ H1 _ I1 q1) λu s2 cG=>fD cG λy H2 I2 r2 q2=>gQ (ho pins s2 σ H2 x y v u _ I2 r1 r2 q2) λd s3 cG=>fD cG λz H3 I3 r3 w'=>bM w' λk e q3=>?_)) hm;subst e;cases r3;show iP ?_;cases k with
 |false=>rintro k' e' q':bM q3;cases e';show ite_ff #[ia,H3,I3,q']
 |true=>show ite_tt (test_last (gQ (hc pins s3 σ H3 _ I3 q3) λw' s4 cG=>fD cG λz' H4 I4 r4 q4=>gQ (Lg pins s4 σ H4 y z' u w' _ I4 r2 r4 q4) λd' s5 cG=>fD cG λz2 H5 I5 r5 w'=>bM w' λk2 e2 q5=>?_));subst e2;cases r5;show iP #[ia,H5,I5,q5]
def FZ:(sizeLine:Nat)<2 ^ 63:=by rw[fV];decide
def QI:yI X (binaryOp .Add) (λx y H Q=>∃i j,x=.str i/\y=.str j/\i.length+j.length<=sizeLine/\Q (.str (i++j)) H):=by intro pins s σ H x y v u Q I rx ry h;rintro i j rfl rfl hz q:lA h;rintro t rfl:bW rx;rintro t' rfl:bW ry;show add_str (λt' tk=>#[ib,.str (i++j),H,I.tok _,⟨_,rfl⟩,q]) hz
def vals1{x:V}{us:List ag}(r:eV [x] us):∃u,us=[u]/\RelV x u:=by
 cases r with
 |cons r1 r2=>cases r2;show #[ia,_,rfl,r1]
def aik{x y:V}{us:List ag}(r:eV [x,y] us):∃u w',us=[u,w']/\RelV x u/\RelV y w':=by
 cases r with
 |cons r1 r2=>
  cases r2 with
  |cons r3 r4=>cases r4;show #[ib,_,_,rfl,r1,r3]
end
end L2
namespace L2
open PySem PySem.Spec PyProof.Rows
structure Py(h:cE)(x dx C:af)(mA:Str->Option ag):Prop where
 obj:h.get? x=some (jc C dx)
 ns:h.Ns1 dx mA
 ne:dx≠x
def TW{h:cE}{dx:af}{mA:Str->Option ag}(n:h.Ns1 dx mA):∃od,h.get? dx=some od/\∀name,v9 name od=some (mA name):=by
 rintro o es ep ho hd hk _ hm:rD 5 lB n;show #[ia,o,ho,λname=>?_];have e:=hm name;unfold nsFind findBy at e;rw[<-Array.find?_toList] at e;unfold v9;rw[hd];dsimp only;split;.rename_i y q;rw[q] at e;show congrArg some e
 .rename_i q;rw[q] at e;have a:es.toList.any (·.refKey)=false:=by
   rw[Uu];intro y hy;rintro z t Qa:UT<|hk y (Array.mem_toList_iff.mp hy);simp[ax1,Qa]
  have a':¬es.toList.any (·.refKey)=true:=by rw[a];show bz
  rw[if_neg a'];show congrArg some e
def Py.look{h:cE}{x dx C:af}{mA:Str->Option ag}(I:Py h x dx C mA):∃od,PySem.W.InstAt h x (jc C dx) C (some od)/\∀name,v9 name od=some (mA name):=
 bM (TW I.ns) λod ho hl=>
 #[ia,od,⟨I.obj,rfl,rfl,ho⟩,hl]
section
variable{prog:aS}{w:bL}{A:dD}{E:ag->ao->Prop}{s:ao}{K:ad}{x dx C f:af}{mA:Str->Option ag}{name:Str}{v:ag}
def X1{expr:Bool}{Q:ag->ao->Prop}(X:K.In s.heap)(I:Py s.heap x dx C mA)(hg:nq K C name=true)(hh:qp K C=true)
 (ha:eB K (.ref C) name=some none) (hv:mA name=some v) (hv':RB v=true) (h:Q v { s with toks:=s.toks+1 }):
 wpAny (model prog w) A (getAttr (.ref x) name expr) Q E s:=by
 rintro od J hl:bM I.look;show PySem.W.get_value X J (x_ hg).1 (PySem.W.findObj_own hh ha rfl (by rw[hl,hv])) hv' h
def VI{pl:Xx Bool}{Q:ag×List ag->ao->Prop}(X:K.In s.heap)(I:Py s.heap x dx C mA)(hg:nq K C name=true)
 (hf:eB K (.ref C) name=some (some (.ref f))) (ht:At K (.ref f)=true) (hv:mA name=none) (h:Q (.ref f,[.ref x]) s):
 wpAny (model prog w) A (getMethod (.ref x) name pl) Q E s:=by
 rintro od J hl:bM I.look;show PySem.W.method_fn X J (x_ hg).1 (x_ hg).2 hf (beq_iff_eq.mp ht) (by change (v9 name od).map (·.isSome)=some false;rw[hl,hv];rfl) h
def ZI{ns:List Str}{Q:Unit->ao->Prop}(X:K.In s.heap)(I:Py s.heap x dx C mA)
 (hs:eB K (.ref C) "__setattr__"=some (some (.builtin "object.__setattr__"))) (hp:Av K C=true) (ht:Dl K C name=some none) (hh:qp K C=true)
 (hw:Mw mA ns) (hsz:ns.length<=sizeLine)
 (h:∀h',Py h' x dx C (λy=>if y=name then some v else mA y)->BU dx s.heap h'->Q () { s with heap:=h',toks:=s.toks+2 }):
 wpAny (model prog w) A (setAttr (.ref x) name v) Q E s:=by
 rintro od J hl:bM I.look;show PySem.W.set_plain X J hs (PySem.W.osa_open (s:={ s with toks:=s.toks+1 }) (r:=none) X J hp ht λb=>?_);rintro cd hc Mz:bM<|PySem.W.any_some hh;have hx:s.heap.get? x=some ⟨.ref C,some dx,.plain,#[]⟩:=I.obj;show wpAny_bind (wpAny_pure (wpAny_bind (wpAny_bind (wpAny_loadPart hx (wpAny_bind (ahl (s:={ s with toks:=s.toks+1 }) (PySem.W.looks_clsIn X hc) ?_))))));rw[Mz];show wpAny_pure (a:=some dx) (wpAny_bind (wpAny_pure (wpAny_bind ?_)));show wpAny_nsSet1 (s:={ s with toks:=s.toks+1 }) I.ns λh' hn2 V6=>?_;rintro oD esD epD hoD hdD hcD:rD<|hn2.count (ajk name v hw);show wpAny_bind (wpAny_lookBehind hoD (by rw[hdD];show pastItsLine_dict (aE hcD (by rw[aP];omega))) ?_);show wpAny_pure (h _ ⟨(V6.2 _ (cA I.ne)).trans I.obj,hn2,I.ne⟩ V6)
def Wm{R:Z7->ao->Prop}{vs:List ag}{kw:List (Str×ag)}(X:K.In s.heap)(hm:tZ K C=true)
 (hi:eB K (.ref C) "__init__"=some (some (.ref f))) (hf:PySem.W.typeIn K (.ref f)=some (.type "function"))
 (h:vR (model prog w) (A.under (.builtin "type.__call__" ⟨.ref C::vs,kw⟩)) (.call (.ref f) ⟨.ref (s.heap.objs.size+1)::vs,kw⟩) (PySem.W.InitBack (s.heap.objs.size+1) R)
  { s with heap:=(s.heap.push fS).push (jc C s.heap.objs.size) }):
 vR (model prog w) A (.call (.ref C) ⟨vs,kw⟩) R s:=by
 obtain⟨hh,g,d,t,os⟩:=s;show PySem.W.make_core (PySem.W.makes_of X hm) (PySem.W.looks_findIn X hi) (λself=>PySem.W.bind_fn X self hf) (.inl rfl) h
end
def jV(f:Str)(v:V):List (Str×V)->List (Str×V)
 |[]=>[(f,v)]
 |(g,x)::r=>if g=f then (g,v)::r else (g,x)::jV f v r
theorem DH(f g:Str)(v:V):∀fs:List (Str×V),(jV f v fs).lookup g=if g=f then some v else fs.lookup g
 |[]=>by
  change lf g [(f,v)]=_;by_cases h:g=f;.have hb:(g==f)=true:=beq_iff_eq.mpr h;simp only[lf,hb,if_pos h]
  .have hb:(g==f)=false:=beq_eq_false_iff_ne.mpr h;simp only[lf,hb,if_neg h]
 |(k,x)::r=>by
  have ih:=DH f g v r;rw[show jV f v ((k,x)::r)=(if k=f then (k,v)::r else (k,x)::jV f v r) from rfl];by_cases hk:k=f
  .rw[if_pos hk];by_cases h:g=k;.have hb:(g==k)=true:=beq_iff_eq.mpr h;simp only[lf,hb,if_pos (h.trans hk)]
   .have hb:(g==k)=false:=beq_eq_false_iff_ne.mpr h;simp only[lf,hb,if_neg (λe:g=f=>h (e.trans hk.symm))]
  .rw[if_neg hk];by_cases h:g=k;.have hb:(g==k)=true:=beq_iff_eq.mpr h;simp only[lf,hb,if_neg (λe:g=f=>hk (h.symm.trans e))]
   .have hb:(g==k)=false:=beq_eq_false_iff_ne.mpr h;simp only[lf,hb];show ih
theorem Cs(f:Str)(v:V):∀fs:List (Str×V),f∈(jV f v fs).map (·.1)/\∀g,g∈fs.map (·.1)->g∈(jV f v fs).map (·.1)
 |[]=>⟨by simp[jV],λg h=>by simp at h⟩
 |(k,x)::r=>by
  rintro i1 i2:fo<|Cs f v r;rw[show jV f v ((k,x)::r)=(if k=f then (k,v)::r else (k,x)::jV f v r) from rfl];by_cases hk:k=f;.rw[if_pos hk];subst hk;show⟨by simp,λg h=>by simpa using h⟩
  .rw[if_neg hk];show⟨?_,λg h=>?_⟩;.rw[bD];show au _ i1
   .rw[bD] at h ⊢;rcases aD.mp h with e|e;.show aD.mpr (.inl e)
    .show au _ (i2 g e)
theorem DF(f:Str)(v:V):∀fs:List (Str×V),(jV f v fs).length<=fs.length+1
 |[]=>by simp[jV]
 |(k,x)::r=>by
  have ih:=DF f v r;rw[show jV f v ((k,x)::r)=(if k=f then (k,v)::r else (k,x)::jV f v r) from rfl];by_cases hk:k=f;.rw[if_pos hk,aP,aP];omega
  .rw[if_neg hk,aP,aP];omega
def ud.some_of{v:V}{o:Option ag}(r:ud (some v) o):∃u,o=some u/\RelV v u:=by
 cases o with
 |none=>show (show False from r).elim
 |some u=>show #[ia,u,rfl,r]
def ud.none_of{o:Option ag}(r:ud none o):o=none:=by
 cases o with
 |none=>rfl
 |some u=>show (show False from r).elim
def Tq{v:V}{u:ag}(r:RelV v u):RB u=true:=by
 cases v with
 |non=>cases (show u=ql from r);rfl
 |bl b=>cases (show u=nN b from r);rfl
 |int i=>rintro t e:bW<|(show ∃t,u=Dj i t from r);cases e;rfl
 |str x=>rintro t e:bW<|(show ∃t,u=yr x t from r);cases e;rfl
 |KS b=>rintro t e:bW<|(show ∃t,u=aca b t from r);cases e;rfl
 |flt b=>rintro t e:bW<|(show ∃t,u=acb b t from r);cases e;rfl
 |ref a=>cases (show u=bn a from r);rfl
 |ty n=>cases (show u=kP n from r);rfl
section
variable{P:aS}{w:bL}{H H':Hp}{h h':cE}{a C dx:af}{fs fs':List (Str×V)}
def Lk(eU:vA P w H h)(e:H a=some (.ins C dx fs)):∃mA,Py h a dx C mA/\(∀f,ud (fs.lookup f) (mA f))/\Mw mA (fs.map (·.1))/\fs.length<=1000/\H dx=some (.own a):=by rintro d z ne ob mA n r q:EO 4 gF<|(show iY P w H h a (.ins C dx fs) from eU a _ e);show #[ie,mA,⟨ob,n,ne⟩,r,#[ic,q,z,d]]
end
structure Pu(K:ad)(C:af):Prop where
 pg:nq K C zo=true
 hd:qp K C=true
 po:Av K C=true
 sa:eB K (.ref C) "__setattr__"=some (some (.builtin "object.__setattr__"))
def Pu.get{K:ad}{C:af}(c:Pu K C)(f:Str):nq K C f=true:=c.pg
def pO(K:ad)(C:af)(f:Str):Prop:=eB K (.ref C) f=some none
def pO.aof{K:ad}{C:af}{f:Str}(n:pO K C f):Dl K C f=some none:=by unfold Dl;rw[show eB K (.ref C) f=some none from n];rfl
structure X0(K:ad)(C:af)(m:Str)(f:af):Prop where
 at_:eB K (.ref C) m=some (some (.ref f))
 fn:At K (.ref f)=true
 kp:gR K (.ref f)=true
section
variable{X:Cx}{pins:List (af×iG)}{σ:St}{H:Hp}{s:ao}{a C dx:af}{fs:List (Str×V)}{f:Str}{v:V}{A:dD}{E:ag->ao->Prop}
def P7{b:Bool}{Q:ag->ao->Prop}(I:Inv X pins σ H s)(e:H a=some (.ins C dx fs))(c:Pu X.K C)(n:pO X.K C f)(l:fs.lookup f=some v)
 (h:∀u s',Inv X pins σ H s'->RelV v u->Q u s'):wpAny (model X.prog X.w) A (getAttr (.ref a) f b) Q E s:=by
 rintro mA O r _ _ _:Ix<|Lk I.eU e;rintro u hu ru:bM<|ud.some_of (v:=v) (o:=mA f) (by rw[<-l];show r f);show X1 I.ME O (c.get f) c.hd n hu (Tq ru) (h u _ (I.tok _) ru)
def FK{m:Str}{g:af}{pl:Xx Bool}{Q:ag×List ag->ao->Prop}(I:Inv X pins σ H s)(e:H a=some (.ins C dx fs))(c:Pu X.K C)(k:X0 X.K C m g)(l:fs.lookup m=none)
 (h:Q (.ref g,[.ref a]) s):wpAny (model X.prog X.w) A (getMethod (.ref a) m pl) Q E s:=by
 rintro mA O r _ _ _:Ix<|Lk I.eU e;have hn:mA m=none:=ud.none_of (by rw[<-l];show r m);show VI I.ME O (c.get m) k.at_ k.fn hn h
def Q5{y:V}{u:ag}{Q:Unit->ao->Prop}(I:Inv X pins σ H s)(e:H a=some (.ins C dx fs))(c:Pu X.K C)(n:pO X.K C f)(hl:fs.length<1000)(ry:RelV y u)
 (h:∀s',Inv X pins σ (upd H a (.ins C dx (jV f y fs))) s'->Q () s'):wpAny (model X.prog X.w) A (setAttr (.ref a) f u) Q E s:=by
 rintro mA O r wi _ ho:Ix<|Lk I.eU e;have hz:(fs.map (·.1)).length<=sizeLine:=by rw[ab,fV];omega
 show ZI I.ME O c.sa c.po n.aof c.hd wi hz λh' O' sb=>h _ ?_;have hd:∃o,h'.get? dx=some o:=N2 O'.ns λo _ _ e' _=>⟨o,e'⟩;show I.write (x:=a) (e:=dx) (by rw[e];show eZ) (.inr ho) (λb q hb z=>(sb.2 b hb).trans z) hd ?_;show #[iq,by rw[aR O.ne];show ho,?_,O.ne,O'.obj,#[ie,_,O'.ns,λg=>?_,λg hg=>?_]];.have:=DF f y fs;omega
 .change ud ((jV f y fs).lookup g) (if g=f then some u else mA g);rw[DH];by_cases q:g=f;.rw[if_pos q,if_pos q];show ry
  .rw[if_neg q,if_neg q];show r g
 .by_cases q:g=f;.rw[q];show (Cs f y fs).1
  .show (Cs f y fs).2 g (wi g λz=>hg ?_);change (if g=f then some u else mA g)=none;rw[if_neg q];show z
def Inv.made(I:Inv X pins σ H s):Inv X pins σ (upd (upd H s.heap.objs.size (.own (s.heap.objs.size+1))) (s.heap.objs.size+1) (.ins C s.heap.objs.size []))
 { s with heap:=(s.heap.push fS).push (jc C s.heap.objs.size) }:=by
 have e1:(s.heap.push fS).get? s.heap.objs.size=some fS:=bq s.heap rfl;have e2:((s.heap.push fS).push (jc C s.heap.objs.size)).get? (s.heap.objs.size+1)=some (jc C s.heap.objs.size):=by have:=bq (s.heap.push fS) (o:=jc C s.heap.objs.size) rfl;rwa [d7] at this
 have e3:(s.heap.push fS).Ns s.heap.objs.size (λ_=>none):=#[ii,fS,#[],_,e1,rfl,⟨(λe he=>absurd he (by simp)),λ_=>rfl⟩];have I1:=I.laid (a:=s.heap.objs.size) (o:=.own (s.heap.objs.size+1)) (h':=s.heap.push fS) (t':=s.toks) (λb u q=>aC _ q) (aA _) ⟨_,e1⟩;show I1.laid (a:=s.heap.objs.size+1) (o:=.ins C s.heap.objs.size []) (t':=s.toks) (λb u q=>aC _ q) (vZ (d7 _ _)) ?_;have ne:s.heap.objs.size≠s.heap.objs.size+1:=bw (vq _);show #[iq,by rw[aR ne,aT],bV _,ne,e2,#[ie,λ_=>none,(Heap.Ns1.of_empty e3).at λo q=>aC _ q,λ_=>eZ,λy hy=>absurd rfl hy]]
def Ym{prog:aS}{w:bL}{env:Kb}{e:Expr}{f:Str}{pos:km}{s:ao}{Q:ag->ao->Prop}(hb:attributeBase e f env (eval e env)=eval e env)
 (h:wpAny (model prog w) A (eval e env) (λo s₁=>wpAny (model prog w) A (getAttr o f true) Q E s₁) E s):wpAny (model prog w) A (eval (.Attribute e f pos) env) Q E s:=
 Attribute_any_ h (by rw[arm_eval_Attribute,hb])
end
def Et(K:ad)(ta:TE)(f:Str):TE:=λσ H Q=>ta σ H λx H1=>∃a C dx fs v,x=.ref a/\H1 a=some (.ins C dx fs)/\Pu K C/\pO K C f/\fs.lookup f=some v/\Q v H1
def agl(K:ad)(ta tv:TE)(f:Str):TS:=λD σ H=>tv σ H λy H1=>ta σ H1 λx H2=>∃a C dx fs,x=.ref a/\H2 a=some (.ins C dx fs)/\Pu K C/\pO K C f/\fs.length<1000/\
 D.nx σ (upd H2 a (.ins C dx (jV f y fs)))
section
variable{X:Cx}{o e value:Expr}{f:Str}{pos pos' Xk:km}{ta tv:TE}
def LU(he:PE X e ta)(hb:attributeBase e f X.env (eval e X.env)=eval e X.env):PE X (.Attribute e f pos) (Et X.K ta f):=by intro pins s σ H Q I h;show Ym hb (gQ (he pins s σ H _ I h) λu s1 cG=>fD cG λx H1 I1 rx w'=>DL w' λa C dx fs v ex ea c n w'=>fo w' λl q=>?_);subst ex;obtain rfl:u=bn a:=rx;show P7 I1 ea c n l λu' s2 I2 ru=>#[ib,v,H1,I2,ru,q]
def cF(ha:PE X o ta)(hv:PE X value tv)(hs:sD value (some (.Attribute o f pos')) pos.line X.env=pure false):PS X (.Assign [.Attribute o f pos'] value pos) (agl X.K ta tv f):=by intro pins s σ H D I h;show plainObj_wpAny_Assign_Attribute (gQ (hv pins s σ H _ I h) λu s1 cG=>fD cG λy H1 I1 ry q=>gQ (ha pins s1 σ H1 _ I1 q) λov s2 cG=>fD cG λx H2 I2 rx w'=>xf w' λa C dx fs ex w'=>EO w' λea c n l q2=>?_) hs;subst ex;obtain rfl:ov=bn a:=rx;show Q5 I2 ea c n l ry λs3 I3=>#[im,σ,_,I3,q2]
end
end L2
namespace L2
open PySem PySem.Spec PyProof.Rows
structure jA(k:Nat)(A:dD):Prop where
 hd:A.handled=none
 dp:A.depth+3*k+5<aou
 un:A.units+16*k+200<ot
def jA.mono{j k:Nat}{A:dD}(r:jA k A)(h:j<=k):jA j A:=⟨r.hd,by have:=r.dp;omega,by have:=r.un;omega⟩
theorem jA.deeper{k:Nat}{A:dD}(r:jA (k+1) A)(env:Kb):jA k (A.deeper env):=
 ⟨r.hd,by have:=r.dp;change A.depth+1+3*k+5<_;omega,by have:=r.un;change A.units+3+16*k+200<_;omega⟩
theorem jA.in1{k:Nat}{A:dD}(r:jA (k+1) A):jA k A.in1:=
 ⟨r.hd,by have:=r.dp;change A.depth+3*k+5<_;omega,by have:=r.un;change A.units+1+16*k+200<_;omega⟩
def Qq{A:dD}{C:af}{us:List ag}{kw:List (Str×ag)}:(A.under (.builtin "type.__call__" ⟨.ref C::us,kw⟩)).depth=A.depth+1:=by first|rfl|simp[J',Code.weight,Code.isCreation,Code.isGuard,Code.isCaller,ag9,MI,guardIds]
def Qr{A:dD}{C:af}{us:List ag}{kw:List (Str×ag)}:(A.under (.builtin "type.__call__" ⟨.ref C::us,kw⟩)).units=A.units+1:=by first|rfl|simp[J',Code.cUnits,ag9,MI]
def jA.make{k:Nat}{A:dD}(r:jA (k+1) A)(C:af)(us:List ag)(kw:List (Str×ag)):jA k (A.under (.builtin "type.__call__" ⟨.ref C::us,kw⟩)):=
 ⟨r.hd,by have:=r.dp;rw[Qq];omega,by have:=r.un;rw[Qr];omega⟩
theorem jA.depth{k:Nat}{A:dD}(r:jA k A):A.depth<aou:=by have:=r.dp;omega
theorem jA.units{k:Nat}{A:dD}(r:jA k A):A.units+64<ot:=by have:=r.un;omega
def vY:TA:=λ_ H Q=>Q [] H
def mn(ta:TE)(tr:TA):TA:=λσ H Q=>ta σ H λx H1=>tr σ H1 λxs H2=>Q (x::xs) H2
section
variable{X:Cx}{e:Expr}{es:List Expr}{te:TE}{t:TA}{pos:km}
def jf:PA X [] vY:=λ_ _ _ _ H Q I h=>mX #[ib,[],H,I,.nil,h]
def dS(ha:PE X e te)(hr:PA X es t)(hs:bi (e::es) X.env=(false,eval e X.env)::bi es X.env:=by rfl):PA X (e::es) (mn te t):=by intro pos pins s σ H Q I h;rw[hs];change wpAny _ _ (spliced ((false,eval e X.env)::iU pos (bi es X.env))) _ _ s;show jX (gQ (ha pins s σ H _ I h) λu s1 cG=>fD cG λx H1 I1 r1 q1=>?_);show gQ (hr pos pins s1 σ H1 _ I1 q1) λus s2 cG=>fD cG λxs H2 I2 r2 q2=>#[ib,x::xs,H2,I2,.cons r1 r2,q2]
def ZR(t:TA):TE:=λσ H Q=>t σ H λxs H1=>xs.length<=sizeLine/\∀p,H1 p=none->Q (.ref p) (upd H1 p (.tup xs))
def ZP(t:TA):TE:=λσ H Q=>t σ H λxs H1=>xs.length<=sizeLine/\∀p,H1 p=none->Q (.ref p) (upd H1 p (.lst xs))
def Gv{x1}(h:PA X es t):PE X (.Tuple es x1 pos) (ZR t):=by intro pins s σ H Q I hq;show wpAny_Tuple_spliced (gQ (h pos pins s σ H _ I hq) λus s1 cG=>lA cG λxs H1 I1 r z q=>⟨by rw[<-r.length];show z,?_⟩);have hf:H1 s1.heap.objs.size=none:=I1.eU.fresh (aA _);show #[ib,.ref s1.heap.objs.size,upd H1 s1.heap.objs.size (.tup xs),I1.laid (t':=s1.toks) (λb u e=>aC _ e) (aA _) ?_,rfl,q _ hf];show #[io,z,us,r,#[ie,_,bq _ rfl,rfl,⟨_,rfl⟩]]
def bI(h:PA X es t):PE X (.List es pos) (ZP t):=by intro pins s σ H Q I hq;show wpAny_List_spliced (gQ (h pos pins s σ H _ I hq) λus s1 cG=>lA cG λxs H1 I1 r z q=>⟨by rw[<-r.length];show z,?_⟩);have hf:H1 s1.heap.objs.size=none:=I1.eU.fresh (aA _);show #[ib,.ref s1.heap.objs.size,upd H1 s1.heap.objs.size (.lst xs),I1.laid (t':=s1.toks) (λb u e=>aC _ e) (aA _) ?_,rfl,q _ hf];show #[iz,z,us,0,r,bq _ rfl]
end
abbrev Sp:=List V->Hp->VK->XK->Prop
abbrev XB:=List Kb->Hp->ao->XK->ag->ao->Prop
structure KB(P:aS)(w:bL)(K:ad)(mg:Str->Option ag)(base:cE)(A:dD)(outer:List Kb)(s:ao)(H:Hp):Prop where
 frames:A.frames=some outer
 mod:Mod K mg base
 bs:∀b o,base.get? b=some o->s.heap.get? b=some o/\H b=none
 XF:base.objs.size<=s.heap.objs.size
 Ch:s.heap.FunFrames base outer
 frf:∀b∈VG outer,H b=none
 eU:vA P w H s.heap
 bare:Hh s.gens
def CE(outer:List Kb)(P:aS)(w:bL)(H:Hp)(s:ao)(Q:VK)(u:ag)(s':ao):Prop:=
 ∃v H',s'.os=s.os/\Hh s'.gens/\Un (VG outer) [] H H' s.heap s'.heap/\vA P w H' s'.heap/\RelV v u/\Q v H'
def CR(CX:XB)(outer:List Kb)(P:aS)(w:bL)(H:Hp)(s:ao)(Q:VK)(E:XK)(r:Z7)(s':ao):Prop:=
 match r with
 |.ok (.ret u)=>CE outer P w H s Q u s'
 |.ok _=>False
 |.error e=>CX outer H s E e s'
structure cQ(P:aS)(w:bL)(K:ad)(mg:Str->Option ag)(base:cE)(CX:XB)(k:Nat)(f:af)(fd:b_)(ps:List Str)(sp:Sp):Prop where
 len:∀vs H Q E,sp vs H Q E->vs.length=ps.length
 run:∀(A:dD)(outer:List Kb)(s:ao)(H:Hp)(args:Args)(us:List ag)(vs:List V)(Q:VK)(E:XK),jA k A->KB P w K mg base A outer s H->Uz s fd args (ps.zip us)->eV vs us->sp vs H Q E->
  vR (model P w) A (.call (.ref f) args) (CR CX outer P w H s Q E) s
def KB.make{P:aS}{w:bL}{K:ad}{mg:Str->Option ag}{base:cE}{A:dD}{outer:List Kb}{s:ao}{H:Hp}(e:KB P w K mg base A outer s H)(C:af)(us:List ag)(kw:List (Str×ag)):
 KB P w K mg base (A.under (.builtin "type.__call__" ⟨.ref C::us,kw⟩)) outer s H:=⟨by first|show e.frames|(simpa [J',Code.envs,MI,pushEnvs] using e.frames),e.mod,e.bs,e.XF,e.Ch,e.frf,e.eU,e.bare⟩
section
variable{X:Cx}{pins:List (af×iG)}{σ:St}{H:Hp}{s s':ao}
def Inv.ac8(I:Inv X pins σ H s):KB X.prog X.w X.K X.mg X.base X.A X.stack s H:=
 ⟨I.ok.frames,I.ok.mod,I.bs,aE I.ok.XF I.sz,I.stack,I.SL,I.eU,I.bare⟩
def Inv.after{Q:VK}{u:ag}(I:Inv X pins σ H s)(h:CE X.stack X.prog X.w H s Q u s'):EP X pins σ Q u s':=by rintro v H' os bare un eU r q:lA 5 lB h;obtain⟨hh,g,d,t,os'⟩:=s';obtain rfl:os'=s.os:=os;show #[ib,v,H',I.call (h':=hh) (g':=g) (d':=d) (t':=t) (ch:=[]) un eU bare (λb z=>absurd z (by simp)),r,q]
end
def SN(sp:Sp)(sk:List V)(E:XK)(t:TA):TE:=λσ H Q=>t σ H λvs H1=>sp (vs++sk) H1 Q E
def OJ(C:af)(m:Str)(sp:Sp)(sk:List V)(E:XK)(ta:TE)(t:TA):TE:=λσ H Q=>ta σ H λx H1=>∃a dx fs,x=.ref a/\H1 a=some (.ins C dx fs)/\fs.lookup m=none/\
 t σ H1 λvs H2=>sp (x::(vs++sk)) H2 Q E
def G9(C:af)(sp:Sp)(sk:List V)(E:XK)(t:TA):TE:=λσ H Q=>t σ H λvs H1=>∀x dx,H1 x=none->H1 dx=none->dx≠x->
 sp (.ref x::(vs++sk)) (upd (upd H1 dx (.own x)) x (.ins C dx [])) (λv H2=>v=.non/\Q (.ref x) H2) E
def Binds(K:ad)(fd:b_)(ps:List Str)(ds:List ag):Prop:=
 ∀(s:ao)(us:List ag),K.In s.heap->(us++ds).length=ps.length->Uz s fd ⟨us,[]⟩ (ps.zip (us++ds))
def Binds.all{K:ad}{fd:b_}{ps:List Str}(h:∀us:List ag,us.length=ps.length->yb fd ⟨us,[]⟩=pure (ps.zip us)):Binds K fd ps []:=λs us _ hl=>by
 rw[b9] at hl ⊢;show .of_eq (h us hl)
def wc(CX:XB)(X:Cx)(E:XK):Prop:=∀(pins:List (af×iG))(σ:St)(H:Hp)(s:ao)(e:ag)(s':ao),Inv X pins σ H s->CX X.stack H s E e s'->X.xe e s'
section
variable{X:Cx}{CX:XB}{k:Nat}{f C:af}{fd:b_}{ps:List Str}{sp:Sp}{sk:List V}{ds:List ag}{E:XK}{x m:Str}{p pos apos:km}{e o:Expr}{es:List Expr}{ta:TE}{t:TA}
def L7{pins:List (af×iG)}{σ:St}{H:Hp}{s:ao}{Q:VK}{us:List ag}{vs:List V}(F:cQ X.prog X.w X.K X.mg X.base CX k f fd ps sp)(hr:jA k X.A)(hb:Binds X.K fd ps ds)(hd:eV sk ds)(hx:wc CX X E)
 (I:Inv X pins σ H s) (r:eV vs us) (h:sp (vs++sk) H Q E):wpAny (model X.prog X.w) X.A (call (.ref f) us) (EP X pins σ Q) X.xe s:=by
 have r2:eV (vs++sk) (us++ds):=r.append hd;have hl:(us++ds).length=ps.length:=by rw[<-r2.length];show F.len _ _ _ _ h
 show wpAny_call (ow (F.run X.A X.stack s H ⟨us,[]⟩ (us++ds) (vs++sk) Q E hr I.ac8 (hb s us I.ME hl) r2 h) λr s' hq=>?_);cases r with
 |error e=>show hx pins σ H s e s' I hq
 |ok fl=>
  cases fl with
  |ret u=>show I.after hq
  |next=>show ee hq
  |brk=>show ee hq
  |cont=>show ee hq
def Zl(F:cQ X.prog X.w X.K X.mg X.base CX k f fd ps sp)(hr:jA k X.A)(hg:Gl X x)(hm:X.mg x=some (.ref f))(hk:gR X.K (.ref f)=true)(hb:Binds X.K fd ps ds)(hd:eV sk ds)(hx:wc CX X E)
 (ha:PA X (e::es) t) (P9:(x==("__debug__":Str))=false:=by decide) (he:bi (e::es) X.env=(false,eval e X.env)::bi es X.env:=by rfl) (yu:(iU pos (bi es X.env)).any (·.1)=false:=by rfl):
 PE X (.Call (.Name x p) (e::es) [] pos) (SN sp sk E t):=by
 intro pins s σ H Q I h;show jr (EL I hg hm ?_ P9);show pA (h₀:=X.base) I.ok.mod.kin hk (gQ (ha pos pins s σ H _ I h) λus s1 cG=>fD cG λvs H1 I1 r q=>⟨I1.ME,?_⟩) he yu;show L7 F hr hb hd hx I1 r q
def Zp{pl:Xx Bool}(he:PE X o ta)(c:Pu X.K C)(hm:X0 X.K C m f)(F:cQ X.prog X.w X.K X.mg X.base CX k f fd ps sp)(hr:jA k X.A)(hb:Binds X.K fd ps ds)(hd:eV sk ds)(hx:wc CX X E)(ha:PA X (e::es) t)
 (kE:bi (e::es) X.env=(false,eval e X.env)::bi es X.env:=by rfl) (yu:(iU pos (bi es X.env)).any (·.1)=false:=by rfl)
 (ht:eval (.Call (.Attribute o m apos) (e::es) [] pos) X.env=(do
  let ov <-eval o X.env
  standAt apos.atName
  let (f,first) <-holding [ov] (getMethod ov m pl)
  callWith pos f first (iU pos (bi (e::es) X.env)) (tS pos (lM [] X.env))):=by rfl):
 PE X (.Call (.Attribute o m apos) (e::es) [] pos) (OJ C m sp sk E ta t):=by
 intro pins s σ H Q I h;show Kf (pl:=pl) (gQ (he pins s σ H _ I h) λu s1 cG=>fD cG λx H1 I1 rx w'=>rD w' λa dx fs ex ea w'=>fo w' λl q=>?_) ht;subst ex;obtain rfl:u=bn a:=rx;show FK I1 ea c hm l ?_;show pA (first:=[.ref a]) (h₀:=X.base) I.ok.mod.kin hm.kp (gQ (ha pos pins s1 σ H1 _ I1 q) λus s2 cG=>fD cG λvs H2 I2 r q2=>⟨I2.ME,?_⟩) kE yu;show L7 (us:=.ref a::us) (vs:=.ref a::vs) F hr hb hd hx I2 (.cons rfl r) q2
def WA{pl:Xx Bool}(he:PE X o ta)(c:Pu X.K C)(hm:X0 X.K C m f)(F:cQ X.prog X.w X.K X.mg X.base CX k f fd ps sp)(hr:jA k X.A)(hb:Binds X.K fd ps ds)(hd:eV sk ds)(hx:wc CX X E)
 (ht:eval (.Call (.Attribute o m apos) [] [] pos) X.env=(do
  let ov <-eval o X.env
  standAt apos.atName
  let (f,first) <-holding [ov] (getMethod ov m pl)
  callWith pos f first (iU pos (bi [] X.env)) (tS pos (lM [] X.env))):=by rfl):
 PE X (.Call (.Attribute o m apos) [] [] pos) (OJ C m sp sk E ta vY):=by
 intro pins s σ H Q I h;show Kf (pl:=pl) (gQ (he pins s σ H _ I h) λu s1 cG=>fD cG λx H1 I1 rx w'=>rD w' λa dx fs ex ea w'=>fo w' λl q=>?_) ht;subst ex;obtain rfl:u=bn a:=rx;show FK I1 ea c hm l ?_;show MM (first:=[.ref a]) I1.ME hm.kp (L7 (us:=[.ref a]) (vs:=[.ref a]) F hr hb hd hx I1 (.cons rfl .nil) q)
structure Mk(K:ad)(C f:af):Prop where
 makes:tZ K C=true
 init:eB K (.ref C) "__init__"=some (some (.ref f))
 fn:At K (.ref f)=true
 kp:gR K (.ref C)=true
def Oz{pins:List (af×iG)}{σ:St}{H:Hp}{s:ao}{Q:VK}{us:List ag}{vs:List V}(M:Mk X.K C f)(F:cQ X.prog X.w X.K X.mg X.base CX k f fd ps sp)(hr:jA (k+1) X.A)(hb:Binds X.K fd ps ds)(hd:eV sk ds)
 (hx:wc CX X E) (I:Inv X pins σ H s) (r:eV vs us)
 (h:∀x dx,H x=none->H dx=none->dx≠x->sp (.ref x::(vs++sk)) (upd (upd H dx (.own x)) x (.ins C dx [])) (λv H2=>v=.non/\Q (.ref x) H2) E):
 wpAny (model X.prog X.w) X.A (call (.ref C) us) (EP X pins σ Q) X.xe s:=by
 have hq:=h (s.heap.objs.size+1) s.heap.objs.size (I.eU.fresh (yB _)) (I.eU.fresh (aA _)) (bw (vq _));have I2:=Inv.made (C:=C) I;have r2:eV (V.ref (s.heap.objs.size+1)::(vs++sk)) (bn (s.heap.objs.size+1)::(us++ds)):=.cons rfl (r.append hd);have hl:(bn (s.heap.objs.size+1)::us++ds).length=ps.length:=by have e:=r2.length;rw[F.len _ _ _ _ hq] at e;show e.symm
 show wpAny_call (Wm (f:=f) I.ME M.makes M.init (beq_iff_eq.mp M.fn) (ow (F.run _ X.stack _ _ ⟨bn (s.heap.objs.size+1)::us,[]⟩ (bn (s.heap.objs.size+1)::(us++ds)) _ _ E (hr.make C us [])
  (I2.ac8.make C us []) (hb _ (bn (s.heap.objs.size+1)::us) I2.ME hl) r2 hq) λr s' hq'=>?_))
 cases r with
 |error e=>show hx pins σ _ _ e s' I2 hq'
 |ok fl=>
  cases fl with
  |ret u=>rintro v H' I3 rv ev q3:lA<|I2.after hq';subst ev;show⟨rv,#[ib,V.ref (s.heap.objs.size+1),H',I3,rfl,q3]⟩
  |next=>show ee hq'
  |brk=>show ee hq'
  |cont=>show ee hq'
def Zo(M:Mk X.K C f)(F:cQ X.prog X.w X.K X.mg X.base CX k f fd ps sp)(hr:jA (k+1) X.A)(hg:Gl X x)(hm:X.mg x=some (.ref C))(hb:Binds X.K fd ps ds)(hd:eV sk ds)(hx:wc CX X E)
 (ha:PA X (e::es) t) (P9:(x==("__debug__":Str))=false:=by decide) (he:bi (e::es) X.env=(false,eval e X.env)::bi es X.env:=by rfl) (yu:(iU pos (bi es X.env)).any (·.1)=false:=by rfl):
 PE X (.Call (.Name x p) (e::es) [] pos) (G9 C sp sk E t):=by
 intro pins s σ H Q I h;show jr (EL I hg hm ?_ P9);show pA (h₀:=X.base) I.ok.mod.kin M.kp (gQ (ha pos pins s σ H _ I h) λus s1 cG=>fD cG λvs H1 I1 r q=>⟨I1.ME,?_⟩) he yu;show Oz M F hr hb hd hx I1 r q
def Wy(M:Mk X.K C f)(F:cQ X.prog X.w X.K X.mg X.base CX k f fd ps sp)(hr:jA (k+1) X.A)(hg:Gl X x)(hm:X.mg x=some (.ref C))(hb:Binds X.K fd ps ds)(hd:eV sk ds)(hx:wc CX X E)
 (P9:(x==("__debug__":Str))=false:=by decide):PE X (.Call (.Name x p) [] [] pos) (G9 C sp sk E vY):=by
 intro pins s σ H Q I h;show jr (EL I hg hm ?_ P9);show MM I.ME M.kp (Oz (us:=[]) M F hr hb hd hx I .nil h)
end
structure aU(N P:List Str)(sc:jq):Prop where
 kind:sc.kind=.function
 co:sc.isCoroutine=false
 gen:sc.isGenerator=false
 nd:N.Nodup
 pre:N.take P.length=P
 par:∀x∈P,sc.names.lookup x=some .local\/sc.names.lookup x=some .cell
 afj:∀y∈sc.names,y.2≠.free
theorem Js{kindOf:Str->Option jC}{x:Str}:∀{binds:List (Str×ag)}{m:Str->Option ag},(∀v,(x,v)∉binds)->SX kindOf binds m x=m x
 |[],_,_=>rfl
 |(n,v)::r,m,h=>by
  unfold SX;rw[Js λw hw=>h w (au _ hw)];split
  .have:x≠n:=by rintro rfl;show h v aJ
   simp[this]
  .rfl
theorem Jq{kindOf:Str->Option jC}{x:Str}:∀{binds:List (Str×ag)}{m:Str->Option ag},(∀v,(x,v)∉binds)->SW kindOf binds m x=m x
 |[],_,_=>rfl
 |(n,v)::r,m,h=>by
  unfold SW;rw[Jq λw hw=>h w (au _ hw)];split;.rfl
  .have:x≠n:=by rintro rfl;show h v aJ
   simp[this]
theorem Jr{kindOf:Str->Option jC}{x:Str}{v:ag}:∀{P:List Str}{vs:List ag}{i:Nat}{m:Str->Option ag},P.Nodup->P[i]? = some x->vs[i]? = some v->kindOf x=some .local->
 SX kindOf (P.zip vs) m x=some v
 |[],_,_,_,_,h,_,_=>by simp at h
 |_::_,[],_,_,_,_,h,_=>by simp at h
 |p::P,w::vs,0,m,nd,h1,h2,hk=>by
  simp at h1 h2;subst h1;subst h2;change SX kindOf ((p,w)::P.zip vs) m p=_;unfold SX;rw[Js λv hv=>(bJ.mp nd).1 (oR hv).1,if_pos hk];simp
 |p::P,w::vs,i+1,m,nd,h1,h2,hk=>by
  change SX kindOf ((p,w)::P.zip vs) m x=_;unfold SX;show Jr (i:=i) (bJ.mp nd).2 (by simpa using h1) (by simpa using h2) hk
theorem Jp{kindOf:Str->Option jC}{x:Str}{v:ag}:∀{P:List Str}{vs:List ag}{i:Nat}{m:Str->Option ag},P.Nodup->P[i]? = some x->vs[i]? = some v->kindOf x≠some .local->
 SW kindOf (P.zip vs) m x=some v
 |[],_,_,_,_,h,_,_=>by simp at h
 |_::_,[],_,_,_,_,h,_=>by simp at h
 |p::P,w::vs,0,m,nd,h1,h2,hk=>by
  simp at h1 h2;subst h1;subst h2;change SW kindOf ((p,w)::P.zip vs) m p=_;unfold SW;rw[Jq λv hv=>(bJ.mp nd).1 (oR hv).1,if_neg hk];simp
 |p::P,w::vs,i+1,m,nd,h1,h2,hk=>by
  change SW kindOf ((p,w)::P.zip vs) m x=_;unfold SW;show Jp (i:=i) (bJ.mp nd).2 (by simpa using h1) (by simpa using h2) hk
def start(N:List Str)(vs:List V):St:=vs.map some++fY (N.length - vs.length) none
def dj(CX:XB)(P:aS)(w:bL)(K:ad)(mg:Str->Option ag)(base:cE)(N:List Str)(qual:Str)(scope:jq)(f:af)(cd:ag)(A:dD)(outer:List Kb)(s:ao)(H:Hp)(E:XK):Cx where
 prog:=P
 w:=w
 K:=K
 mg:=mg
 base:=base
 A:=A.deeper (BN qual scope s.heap.objs.size f cd)
 N:=N
 JT:=s
 H_0:=H
 env:=BN qual scope s.heap.objs.size f cd
 outer:=outer
 stack:=BN qual scope s.heap.objs.size f cd::outer
 ex:=[]
 calm:=true
 fn:=λ_=>true
 pn:=[]
 xe:=λe s'=>wpAny (model P w) (A.deeper (BN qual scope s.heap.objs.size f cd)) (leaving (BN qual scope s.heap.objs.size f cd) e) (λ_ s''=>CX outer H s E e s'') (λe' s''=>CX outer H s E e' s'') s'
def M8{sc:jq}{n:Nat}{x:Str}(h:sc.names.lookup x=some .cell):∃c,(eQ n sc.names []).lookup x=some c:=by have q:=tR sc.names n [] (.inl h);show lD.mp q
def JC{CX:XB}{P:aS}{w:bL}{K:ad}{mg:Str->Option ag}{base:cE}{N ps:List Str}{qual:Str}{scope:jq}{f:af}{cd:ag}{A:dD}{outer:List Kb}{s s1:ao}{H:Hp}{E:XK}{us:List ag}{vs:List V}
 (S:aU N ps scope) (hd:A.handled=none) (e0:KB P w K mg base A outer s H) (hl:vs.length=ps.length) (r:eV vs us)
 (x:InCallC s s.heap.objs.size (SX (BN qual scope s.heap.objs.size f cd).kindOf (ps.zip us) λ_=>none) (eQ (s.heap.objs.size+1) scope.names []) (SW (BN qual scope s.heap.objs.size f cd).kindOf (ps.zip us) λ_=>none) s1):
 Inv (dj CX P w K mg base N qual scope f cd A outer s H E) [] (start N vs) H s1:=by
 have yu:ps.length<=N.length:=by have:=congrArg Ph S.pre;rw[aM] at this;omega
 rintro h1 tk rfl hk:rE x.done;have noA:∀b:af,b∉(dj CX P w K mg base N qual scope f cd A outer s H E).ex:=λb z=>absurd (show b∈([]:List af) from z) (by simp);show⟨⟨e0.mod,S.kind,rfl,rfl,aA _,λy z c h1 h2=>?_,λy hy=>?_,λy c _ h=>?_,λ_=>hd,Around.frames_deeper e0.frames,.inr ⟨rfl,rfl⟩,λb z=>absurd z (noA b),e0.bs,e0.XF,λb _ _=>noA b,λb z=>absurd z (noA b),e0.Ch,e0.frf⟩,
  rfl,e0.bare,Un.kept hk,#[ia,_,x.toInCall.ns,λi y v h1 h2 h3=>?_],λy c h=>⟨_,x.cell y c h⟩,e0.eU.fresh (aA _),λy c h=>?_,λp hp=>absurd (show p∈([]:List (af×iG)) from hp) (by simp),e0.eU.kept hk,?_⟩
 .show name_of_addr x.apart (cy h1) (cy h2)
 .have hy:scope.names.lookup y=some .cell\/scope.names.lookup y=some .free:=hy;rcases hy with hy|hy;.show M8 hy
  .show absurd rfl (S.afj _ (cy hy))
 .show Dc (x.above y c (cy h))
 .have hi:i<vs.length:=by
   unfold start at h2;by_cases hi:i<vs.length;.show hi
   .rw[Hx (by simpa using hi)] at h2;rw[tU] at h2;split at h2<;>cases h2
  have ha:vs[i]? = some v:=by
   unfold start at h2;rw[List.getElem?_append_left (by simpa using hi),aF] at h2;cases e:vs[i]? with
   |none=>rw[e] at h2;cases h2
   |some a=>rw[e] at h2;cases h2;rfl
  rintro u hu rv:bM<|r.get ha;have hp:ps[i]? = some y:=by rw[<-S.pre,J6 (by omega)];show h1
  have ndP:ps.Nodup:=by rw[<-S.pre];show S.nd.sublist (List.take_sublist _ _)
  show #[ia,u,rv,?_];rcases S.par y (aZ hp) with k|k;.show .inl ⟨k,Jr ndP hp hu k⟩
  .rintro c e:bW<|M8 (n:=s.heap.objs.size+1) k;show .inr #[io,.inl k,c,e,?_];have q:=x.cell y c e;rw[Jp ndP hp hu (by change scope.names.lookup y≠_;rw[k];decide)] at q;show q
 .show e0.eU.fresh (Dc (x.above y c (cy h)))
 .unfold start;change _=N.length;rw[ap,ab,gt];omega
def aaj{CX:XB}{P:aS}{w:bL}{K:ad}{mg:Str->Option ag}{base:cE}{k:Nat}{f:af}{name qual:Str}{params:pz}{body:List cK}{scope:jq}{dV kV doc pm gq ct oc:ag}{an od:Option af}
 {XW:Array (Option ag)} {N ps:List Str} {sp:Sp} (lk:K.lookup f=some ⟨oc,od,.func (gG name qual params body scope dV kV doc pm an gq ct),XW⟩) (Tt:pB K gq qual=true) (S:aU N ps scope)
 (len:∀vs H Q E,sp vs H Q E->vs.length=ps.length)
 (pV:∀(A:dD)(outer:List Kb)(s:ao)(H:Hp)(vs:List V)(Q:VK)(E:XK),jA k (A.deeper (BN qual scope s.heap.objs.size f gq))->sp vs H Q E->
  ∃t,Pz (dj CX P w K mg base N qual scope f gq A outer s H E) body t/\t { nx:=λ_ H'=>Q .non H',rt:=Q } (start N vs) H):
 cQ P w K mg base CX (k+1) f (gG name qual params body scope dV kV doc pm an gq ct) ps sp:=by
 show⟨len,λA outer s H args us vs Q E hr e0 hb r MD=>?_⟩;have hl:=len _ _ _ _ MD;have KX:K.In s.heap:=e0.mod.kin.keeps λb o e=>(e0.bs b o e).1;have lim:s.heap.NoLimit:=e0.mod.nolimit.keeps λb o e=>(e0.bs b o e).1;have V1:∀y∈ps.zip us,scope.names.lookup y.1=some .local\/(scope.names.lookup y.1=some .cell/\((eQ (s.heap.objs.size+1) scope.names []).lookup y.1).isSome=true):=λ⟨n,v⟩hy=>by
  rcases S.par n (oR hy).1 with q|q;.show .inl q
  .show .inr ⟨q,tR _ _ _ (.inl q)⟩
 show codeAny_call_function hr.depth (KX _ _ lk) rfl S.co S.gen rfl (PySem.W.codeRec_of KX Tt) (hb _ _ _ _ ?_);show O6 S.kind V1 λenv he s1 x=>?_;subst he;show⟨lim.keeps x.toInCall.keep,codeAny_func ?_⟩;rintro t ht hq:bM<|pV A outer s H vs Q E (hr.deeper _) MD;have I:Inv (dj CX P w K mg base N qual scope f gq A outer s H E) [] (start N vs) H s1:=JC S hr.hd e0 hl r x;show gp (ht [] s1 (start N vs) H _ I hq) (λfl s' hs=>?_) λe s' hs=>hs;have fin:∀{σ':St}{H':Hp}{v:V}{u:ag},Inv (dj CX P w K mg base N qual scope f gq A outer s H E) [] σ' H' s'->RelV v u->Q v H'->CE outer P w H s Q u s':=
  λ{σ' H' v u}J rv q=>#[ik,v,H',J.os,J.bare,J.base,J.eU,⟨rv,q⟩]
 cases fl with
 |ret u=>rintro v σ' H' J rv q:rD hs;show fin J rv q
 |next=>rintro σ' H' J q:rE hs;show fin (v:=V.non) (u:=ql) J rfl q
 |brk=>rintro _ _ _ q:rE hs;show ee q
 |cont=>rintro _ _ _ q:rE hs;show ee q
end L2
namespace L2
open PySem PySem.Spec PyProof.Rows
section
variable{X:Cx}{x:Str}{p pos:km}{e:Expr}{es:List Expr}{t:TA}{id T:String}{r:List V->Hp->VK->Prop}
def tCB(r:List V->Hp->VK->Prop)(t:TA):TE:=λσ H Q=>t σ H λvs H1=>r vs H1 Q
def i3(hc:me X (.builtin id) r)(hg:Gl X x)(hm:X.mg x=none)(hv:yE x=some (.builtin id))(ha:PA X (e::es) t)(hn:x≠"__name__":=by decide)(P9:(x==("__debug__":Str))=false:=by decide)
 (he:bi (e::es) X.env=(false,eval e X.env)::bi es X.env:=by rfl) (yu:(iU pos (bi es X.env)).any (·.1)=false:=by rfl):PE X (.Call (.Name x p) (e::es) [] pos) (tCB r t):=by
 intro pins s σ H Q I h;show jr (Cu I hg hm hv ?_ hn P9);show aip (gQ (ha pos pins s σ H _ I h) λus s1 cG=>fD cG λvs H1 I1 r1 q1=>hc pins s1 σ H1 vs us Q I1 r1 q1) he yu
def fK(hc:me X (.type T) r)(hg:Gl X x)(hm:X.mg x=none)(hv:yE x=some (.type T))(ha:PA X (e::es) t)(hn:x≠"__name__":=by decide)(P9:(x==("__debug__":Str))=false:=by decide)
 (he:bi (e::es) X.env=(false,eval e X.env)::bi es X.env:=by rfl) (yu:(iU pos (bi es X.env)).any (·.1)=false:=by rfl):PE X (.Call (.Name x p) (e::es) [] pos) (tCB r t):=by
 intro pins s σ H Q I h;show jr (Cu I hg hm hv ?_ hn P9);show jI (gQ (ha pos pins s σ H _ I h) λus s1 cG=>fD cG λvs H1 I1 r1 q1=>hc pins s1 σ H1 vs us Q I1 r1 q1) he yu
end
end L2
namespace HT
open PySem PyProof.Rows
section
open PySem.SeqAt
open PySem.AutoSeq1 (wpAny_loadPart')
open PySem.MeetsSeq PySem.MeetsSeq2 PySem.MeetsSeq3
end
section
variable{prog:aS}{w:bL}{A:dD}{E:ag->ao->Prop}{s:ao}
def pF(n d:Nat):Option Int->Nat
 |none=>d
 |some v=>if v<0 then (v+(n:Int)).toNat else min v.toNat n
def GO(n d:Nat):pF n d none=d:=rfl
def uR(n d k:Nat):pF n d (some (k:Int))=min k n:=by change (if (k:Int)<0 then ((k:Int)+(n:Int)).toNat else min (k:Int).toNat n)=min k n;rw[if_neg (by omega),kr]
def WZ(n d:Nat)(hd:d<=n)(o:Option Int):pF n d o<=n:=by
 cases o with
 |none=>show hd
 |some v=>
  change (if v<0 then (v+(n:Int)).toNat else min v.toNat n)<=n;by_cases hv:v<0;.rw[if_pos hv];omega
  .rw[if_neg hv];show Xt _ _
end
end HT
namespace L2
open PySem PySem.Spec PyProof.Rows
abbrev TO:=St->Hp->(Option Int->Hp->Prop)->Prop
def PO(X:Cx)(e:Option Expr)(t:TO):Prop:=
 ∀(pins:List (af×iG))(s:ao)(σ:St)(H:Hp)(Q:Option Int->Hp->Prop),Inv X pins σ H s->t σ H Q->
  wpAny (model X.prog X.w) X.A (evalPart e X.env) (λu s'=>∃o H',Inv X pins σ H' s'/\IsPart u o/\Q o H') X.xe s
def Mn:TO:=λ_ H Q=>Q none H
def oQ(t:TE):TO:=λσ H Q=>t σ H λx H1=>∃i,x=.int i/\Q (some i) H1
section
variable{X:Cx}{e:Expr}{te:TE}{lo hi:Option Expr}{tl th:TO}{pos p2:km}
def Bf:PO X none Mn:=by intro pins s σ H Q I h;rw[aq1];show wpAny_pure #[ib,none,H,I,.none,h]
def o6(h:PE X e te):PO X (some e) (oQ te):=by intro pins s σ H Q I hw;rw[evalPart_some];show gQ (h pins s σ H _ I hw) λu s1 cG=>fD cG λx H1 I1 r1 q1=>?_;rintro i rfl q:bM q1;rintro t rfl:bW r1;show #[ib,some i,H1,I1,.int i t,q]
def SlR(X:Cx)(r:V->Option Int->Option Int->Hp->VK->Prop):Prop:=
 ∀(pins:List (af×iG))(s:ao)(σ:St)(H:Hp)(x:V)(v vl vu:ag)(lo hi:Option Int)(sl:af)(Q:VK),Inv X pins σ H s->RelV x v->s.heap.IsSliceOf sl vl vu .none->IsPart vl lo->IsPart vu hi->r x lo hi H Q->
  ∃T id,Z9 (.type T) "__getitem__"=pure (some (.builtin id))/\s.TypeIs v T/\wpAny (model X.prog X.w) X.A (getItem v (.ref sl)) (EP X pins σ Q) X.xe s
def tSl(r:V->Option Int->Option Int->Hp->VK->Prop)(te:TE)(tl th:TO):TE:=λσ H Q=>te σ H λx H1=>tl σ H1 λl H2=>th σ H2 λu H3=>r x l u H3 Q
def pX{r:V->Option Int->Option Int->Hp->VK->Prop}(hr:SlR X r)(he:PE X e te)(hl:PO X lo tl)(hu:PO X hi th):PE X (.Subscript e (.Slice lo hi none p2) pos) (tSl r te tl th):=by
 intro pins s σ H Q I h;show Z3 (gQ (he pins s σ H _ I h) λv s1 cG=>fD cG λx H1 I1 r1 q1=>?_);show wpAny_Slice (gQ (hl pins s1 σ H1 _ I1 q1) λvl s2 cG=>fD cG λl H2 I2 pl q2=>gQ (hu pins s2 σ H2 _ I2 q2) λvu s3 cG=>fD cG λu H3 I3 pu q3=>?_);rw[aq1];show wpAny_pure ?_;have I4:Inv X pins σ H3 { s3 with heap:=s3.heap.push { cls:=.type "slice",data:=.fields #[vl,vu,.none] } }:=I3.kept (t':=s3.toks) λb ob q=>aC _ q;rintro T id hT ht hg:fD<|hr pins { s3 with heap:=s3.heap.push { cls:=.type "slice",data:=.fields #[vl,vu,.none] } } σ H3 x v vl vu l u s3.heap.objs.size Q I4 r1 (ab8 ..) pl pu q3
 change wpAny (model X.prog X.w) X.A (subscriptTail e (.Slice lo hi none p2) v (.ref s3.heap.objs.size)) (EP X pins σ Q) X.xe { s3 with heap:=s3.heap.push { cls:=.type "slice",data:=.fields #[vl,vu,.none] } };show tail_any (ops:=[.ref s3.heap.objs.size,v]) ht hT hg (by with_unfolding_all rfl)
def Cf(xs:List V)(lo hi:Option Int):List V:=(xs.drop (HT.pF xs.length 0 lo)).take (HT.pF xs.length xs.length hi - HT.pF xs.length 0 lo)
def Nc(xs:List V)(lo hi:Option Int):(Cf xs lo hi).length<=xs.length:=by unfold Cf;rw[aM,iW];omega
end
end L2
namespace L2
open PySem PySem.Spec PyProof.Rows
def Y1(n:Nat)(i:Int):Option Nat:=if 0<=i then (if i<n then some i.toNat else none) else if -(n:Int)<=i then some (i+n).toNat else none
def XD{α:Type}(xs:List α)(i:Int):Option α:=(Y1 xs.length i).bind λj=>xs[j]?
def R9{n:Nat}{i:Int}{j:Nat}(h:Y1 n i=some j):seqIndex? i n=some j/\j<n/\-(n:Int)<=i/\i<n:=by
 unfold Y1 at h;by_cases h0:0<=i
 .rw[if_pos h0] at h;by_cases h1:i<n;.rw[if_pos h1] at h;have e:i.toNat=j:=bp h;show #[ij,by rw[Xy h0 h1,e],by omega,by omega,h1]
  .rw[if_neg h1] at h;cases h
 .rw[if_neg h0] at h;by_cases h1:-(n:Int)<=i;.rw[if_pos h1] at h;have e:(i+n).toNat=j:=bp h;show #[ij,by rw[UD (by omega) h1,e],by omega,h1,by omega]
  .rw[if_neg h1] at h;cases h
def RD{α:Type}{xs:List α}{i:Int}{v:α}(h:XD xs i=some v):∃j,seqIndex? i xs.length=some j/\xs[j]? = some v/\j<xs.length/\-(xs.length:Int)<=i/\i<xs.length:=by
 unfold XD at h;cases e:Y1 xs.length i with
 |none=>rw[e] at h;cases h
 |some j=>rw[e] at h;rintro h1 h2 h3 h4:Cz<|R9 e;show #[ie,j,h1,h,#[ic,h2,h3,h4]]
def aV{α:Type}{xs:List α}{j:Nat}{v:α}(h:xs[j]? = some v):XD xs (j:Int)=some v:=by
 have hj:j<xs.length:=(ai.mp h).1;have e:Y1 xs.length (j:Int)=some j:=by unfold Y1;rw[if_pos (by omega),if_pos (by omega)];simp
 unfold XD;rw[e];show h
def KC(b:Expr):Prop:=∀o i,Kg b false o i=operate [o,i] (getItem o i)
def IxR(X:Cx)(r:R2):Prop:=
 ∀(value slice:Expr)(pins:List (af×iG))(s:ao)(σ:St)(H:Hp)(x y:V)(v u:ag)(Q:VK),Inv X pins σ H s->RelV x v->RelV y u->r x y H Q->
  Kg slice false v u=operate [v,u] (getItem v u)->wpAny (model X.prog X.w) X.A (subscriptTail value slice v u) (EP X pins σ Q) X.xe s
def U9(X:Cx)(id:String)(r:V->List V->Hp->VK->Prop):Prop:=
 ∀(pins:List (af×iG))(s:ao)(σ:St)(H:Hp)(x:V)(xs:List V)(v:ag)(us:List ag)(Q:VK),Inv X pins σ H s->RelV x v->eV xs us->r x xs H Q->
  wpAny (model X.prog X.w) X.A (call (.builtin id) (v::us)) (EP X pins σ Q) X.xe s
section
variable{X:Cx}{a b:Expr}{ta tb:TE}{pos:km}
def abe{r:R2}(hr:IxR X r)(ha:PE X a ta)(hb:PE X b tb)(hs:KC b):PE X (.Subscript a b pos) (Ub r ta tb):=by intro pins s σ H Q I h;show Z3 (acr ha hb I h λv u s2 x y H2 I2 rx ry q=>hr a b pins s2 σ H2 x y v u Q I2 rx ry q (hs _ _))
def L1(K:ad):R2:=λx y H Q=>∃p xs i v,x=.ref p/\y=.int i/\cf K H p xs/\XD xs i=some v/\Q v H
def afy(K:ad):R2:=λx y H Q=>∃p xs i v,x=.ref p/\y=.int i/\ox K H p xs/\XD xs i=some v/\Q v H
def Y2:IxR X (L1 X.K):=by
 intro value slice pins s σ H x y v u Q I rx ry h hs;rintro p xs i z rfl rfl hq he q:xf 5 Cz h;cases rx;rintro t rfl:bW ry;rintro its r pl hz:gF<|I.list hq
 rintro j h1 h2 h3 h4 h5:Ix<|RD he;rintro w ew Q0:bM<|r.get h2;have hl:=r.length;have hn:=FZ;have fin:EP X pins σ Q w s:=#[ib,z,H,I,Q0,q];by_cases h0:0<=i
 .have hj:i.toNat=j:=by
   rw[Xy h0 h5] at h1;show bp h1
  show item_listR pl.isList h0 (by omega) (by rw[hj];simpa using ew) fin hs
 .have hj:(i+(its.toArray.size:Int)).toNat=j:=by
   rw[UD (by omega) h4] at h1;rw[ba,<-hl];show bp h1
  show Uy (x:=w) pl.isList.typeIs ace.lookup
   (wpAny_getItem_list_neg (Q:=λr s'=>r=w/\EP X pins σ Q r s') pl.isList (by omega) (by rw[ba]<;>omega) (by omega) (by rw[hj];simpa using ew) ⟨rfl,fin⟩) hs
def ae0:IxR X (afy X.K):=by
 intro value slice pins s σ H x y v u Q I rx ry h hs;rintro p xs i z rfl rfl hq he q:xf 5 Cz h;cases rx;rintro t rfl:bW ry;rintro its r pl hz:gF<|I.tuple hq
 rintro j h1 h2 h3 h4 h5:Ix<|RD he;rintro w ew Q0:bM<|r.get h2;have hl:=r.length;have hn:=FZ;have fin:EP X pins σ Q w s:=#[ib,z,H,I,Q0,q];show Uy (x:=w) pl.typeIs slot_tuple_getitem.lookup
  (getItem_tuple (j:=j) (Q:=λr s'=>r=w/\EP X pins σ Q r s') pl (by omega) (by omega) (by rw[ba,<-hl];show h1) (by simpa using ew) ⟨rfl,fin⟩) hs
def Qs(its:List ag)(n j:Nat)(u:ag):dZ (·.setIfInBounds j u) { cls:=.type "list",data:=.seq its.toArray n }={ cls:=.type "list",data:=.seq (its.set j u).toArray n }:=by simp[dZ]
theorem Inv.lst{pins:List (af×iG)}{σ:St}{H:Hp}{s:ao}{p:af}{xs:List V}(I:Inv X pins σ H s)(h:H p=some (.lst xs)):
 ∃(its:List ag)(n:Nat),eV xs its/\s.heap.get? p=some { cls:=.type "list",data:=.seq its.toArray n }/\xs.length<=sizeLine:=by
 rintro z its n r e:N3<|I.eU p _ h;show #[ib,its,n,r,e,z]
def Inv.afb{pins:List (af×iG)}{σ:St}{H:Hp}{s:ao}{p:af}{xs ys:List V}{its its':List ag}{n n':Nat}{f:iG->iG}(I:Inv X pins σ H s)(h:H p=some (.lst xs))
 (ho:s.heap.get? p=some { cls:=.type "list",data:=.seq its.toArray n }) (hf:f { cls:=.type "list",data:=.seq its.toArray n }={ cls:=.type "list",data:=.seq its'.toArray n' }) (r:eV ys its') (hz:ys.length<=sizeLine) (t:Nat):
 Inv X pins σ (upd H p (.lst ys)) { s with heap:=s.heap.update p f,toks:=t }:=by
 have e:(s.heap.update p f).get? p=some { cls:=.type "list",data:=.seq its'.toArray n' }:=by rw[Heap.get?_update_self f ho (by rw[hf]<;>rfl),hf]
 show I.write (x:=p) (e:=p) (by rw[h];trivial) (.inl rfl) (λb u hb q=>(MK _ _ (cA hb)).trans q) ⟨_,e⟩ ?_;show #[iz,hz,its',n',r,e]
def Su:V->V->V->Hp->(Hp->Prop)->Prop:=λo i v H Q=>∃p xs k j,o=.ref p/\i=.int k/\H p=some (.lst xs)/\Y1 xs.length k=some j/\Q (upd H p (.lst (xs.set j v)))
def Rp:aco X Su:=by
 intro pins s σ H o i v ov iv u Q I ro ri rv h;rintro p xs k j rfl rfl hp hj q:xf 5 Cz h;cases ro;rintro t rfl:bW ri;rintro its n r ho hz:fD<|I.lst hp
 rintro h1 h2 h3 h4:Cz<|R9 hj;have hl:=r.length;have hn:=FZ;have I':Inv X pins σ (upd H p (.lst (xs.set j v))) { s with heap:=s.heap.update p (dZ (·.setIfInBounds j u)) }:=
  I.afb hp ho (Qs its n j u) (r.set rv j) (by rw[jp];show hz) s.toks
 by_cases h0:0<=k
 .have hk:k.toNat=j:=by
   rw[Xy h0 h4] at h1;show bp h1
  show PySem.W.ki_setAt ho h0 (by omega) (by rw[ba,<-hl];show h4) (by rw[hk];show #[ia,_,I',q])
 .have hk:(k+(its.toArray.size:Int)).toNat=j:=by
   rw[UD (by omega) h3] at h1;rw[ba,<-hl];show bp h1
  show PySem.W.ki_setBack ho (by omega) (by rw[ba,<-hl];show h3) (by omega) (by rw[hk];show #[ia,_,I',q])
def Mi(lo hi:Option Int)(n:Nat):(qm lo hi none n).1=((HT.pF n 0 lo:Nat):Int)/\(qm lo hi none n).2.1=((HT.pF n n hi:Nat):Int)/\(qm lo hi none n).2.2=1:=by
 show #[ic,?_,?_,rfl]
 .cases lo with
  |none=>simp[qm,HT.pF]
  |some i=>
   simp only[qm,HT.pF,iO,show (1:Int) > 0 by decide,if_true];by_cases h:i<0;.simp only[h,if_true]<;>omega
   .simp only[h,if_false]<;>omega
 .cases hi with
  |none=>simp[qm,HT.pF]
  |some i=>
   simp only[qm,HT.pF,iO,show (1:Int) > 0 by decide,if_true];by_cases h:i<0;.simp only[h,if_true]<;>omega
   .simp only[h,if_false]<;>omega
def I0(its:List ag)(lo hi:Option Int):slicePick its.toArray lo hi none=((its.drop (HT.pF its.length 0 lo)).take (HT.pF its.length its.length hi - HT.pF its.length 0 lo)).toArray:=by rintro h1 h2 h3:lB<|Mi lo hi its.toArray.size;unfold slicePick;rw[h1,h2,h3];simp only[sliceRange_one,pick_run,ba]<;>rfl
def am9(K:ad):V->Option Int->Option Int->Hp->VK->Prop:=λx lo hi H Q=>∃a xs,x=.ref a/\cf K H a xs/\∀p,H p=none->Q (.ref p) (upd H p (.lst (Cf xs lo hi)))
def Mg:SlR X (am9 X.K):=by
 intro pins s σ H x v vl vu lo hi sl Q I rx hs pl pu h;rintro a xs rfl hx q:fD h;cases rx;rintro its r ht hz:gF<|I.list hx
 have hlen:=r.length;show #[ib,"list",_,ace.lookup,ht.isList.typeIs,?_];show wpAny_getItem_list_slice ht.isList hs pl pu .none (by simp) ?_ (by rw[ba]<;>omega);rw[I0,<-hlen];show #[ib,.ref s.heap.objs.size,_,I.laid (t':=s.toks) (o:=.lst (Cf xs lo hi)) (λb ob q=>aC _ q) (aA _) ?_,rfl,q _ (I.eU.fresh (aA _))];show #[iz,aE (Nc xs lo hi) hz,_,0,(r.drop (HT.pF xs.length 0 lo)).take (HT.pF xs.length xs.length hi - HT.pF xs.length 0 lo),bq _ rfl]
def mG:V->Bool
 |.non=>true
 |.bl _=>true
 |.int _=>true
 |.str _=>true
 |_=>false
def RS:V->V->Bool
 |.non,.non=>true
 |.bl a,.bl b=>a==b
 |.bl a,.int b=>(if a then 1 else 0)==b
 |.int a,.bl b=>a==(if b then 1 else 0)
 |.int a,.int b=>a==b
 |.str a,.str b=>a==b
 |_,_=>false
def ac9{A:dD}{s:ao}{y x:V}{u v:ag}(ry:RelV y u)(rx:RelV x v)(fy:mG y=true)(fx:mG x=true):BO A s u v (RS y x):=by
 cases y with
 |non=>
  cases ry;cases x with
  |non=>cases rx;show O3 _
  |bl b=>cases rx;show aqt b
  |int b=>rintro t rfl:bW rx;show aqu b t
  |str b=>rintro t rfl:bW rx;show aqv b t
  |_=>show absurd (show false=true from fx) bz
 |bl a=>
  cases ry;cases x with
  |non=>cases rx;show aqo a
  |bl b=>cases rx;show aqm a b
  |int b=>rintro t rfl:bW rx;show aqn a b t
  |str b=>rintro t rfl:bW rx;show aqp a b t
  |_=>show absurd (show false=true from fx) bz
 |int a=>
  rintro t' rfl:bW ry;cases x with
  |non=>cases rx;show Jj a t'
  |bl b=>cases rx;show aqq a t' b
  |int b=>rintro t rfl:bW rx;show aqr a t' b t
  |str b=>rintro t rfl:bW rx;show Kd a t' b t
  |_=>show absurd (show false=true from fx) bz
 |str a=>
  rintro t' rfl:bW ry;cases x with
  |non=>cases rx;show aqx a t'
  |bl b=>cases rx;show aqw a t' b
  |int b=>rintro t rfl:bW rx;show Ke a t' b t
  |str b=>rintro t rfl:bW rx;show aqy a t' b t
  |_=>show absurd (show false=true from fx) bz
 |_=>show absurd (show false=true from fy) bz
def O7(x:V)(u:ag):Bool:=match u with
 |.none=>RS .non x
 |.bool b=>RS (.bl b) x
 |.int i _=>RS (.int i) x
 |.str z _=>RS (.str z) x
 |_=>false
def K2{x y:V}{u:ag}(r:RelV y u)(f:mG y=true):O7 x u=RS y x:=by
 cases y with
 |non=>cases r;rfl
 |bl b=>cases r;rfl
 |int i=>rintro t rfl:bW r;rfl
 |str z=>rintro t rfl:bW r;rfl
 |_=>show absurd (show false=true from f) bz
theorem AL{x:V}:∀{xs:List V}{us:List ag},eV xs us->xs.all mG=true->us.any (O7 x)=xs.any λy=>RS y x
 |_,_,.nil,_=>rfl
 |y::xs,u::us,.cons r t,f=>by
  rw[lQ,ak] at f;rw[iS,iS,K2 r f.1,AL t f.2]
theorem tj{A:dD}{s:ao}{x:V}{v:ag}(rx:RelV x v)(fx:mG x=true):∀{xs:List V}{us:List ag},eV xs us->xs.all mG=true->∀u∈us,BO A s u v (O7 x u)
 |_,_,.nil,_=>λu hu=>by cases hu
 |y::xs,u::us,.cons r t,f=>λu' hu=>by
  rw[lQ,ak] at f;rcases aD.mp hu with rfl|hu;.rw[K2 r f.1];show ac9 r rx f.1 fx
  .show tj rx fx t f.2 u' hu
def Pc(x:V)(xs:List V):Bool:=xs.any λy=>RS y x
def rIn(K:ad)(neg:Bool):R2:=λx y H Q=>∃p xs,y=.ref p/\(cf K H p xs\/ox K H p xs)/\mG x=true/\xs.all mG=true/\Q (.bl (if neg then !Pc x xs else Pc x xs)) H
def tp:yI X (compareOp .In) (rIn X.K false):=by
 intro pins s σ H x y v u Q I rx ry h;rintro p xs rfl hq fx fs q:lA 5 fo h;cases ry;rcases hq with hq|hq
 .rintro its r pl hz:gF<|I.list hq;show U2 (O7 x) pl.isList (λw hw=>tj rx fx r fs w (by simpa using hw)) #[ib,.bl _,H,I,rfl,?_];rw[show its.toArray.any (O7 x)=its.any (O7 x) by simp,AL r fs];show q
 .rintro its r pl hz:gF<|I.tuple hq;show SeqAt.in_tupleAt (O7 x) pl (λw hw=>tj rx fx r fs w (by simpa using hw)) #[ib,.bl _,H,I,rfl,?_];rw[show its.toArray.any (O7 x)=its.any (O7 x) by simp,AL r fs];show q
def Bc:yI X (compareOp .NotIn) (rIn X.K true):=by
 intro pins s σ H x y v u Q I rx ry h;rintro p xs rfl hq fx fs q:lA 5 fo h;cases ry;rcases hq with hq|hq
 .rintro its r pl hz:gF<|I.list hq;show SeqAt.notIn_listAt (O7 x) pl.isList (λw hw=>tj rx fx r fs w (by simpa using hw)) #[ib,.bl _,H,I,rfl,?_];rw[show its.toArray.any (O7 x)=its.any (O7 x) by simp,AL r fs];show q
 .rintro its r pl hz:gF<|I.tuple hq;show SeqAt.notIn_tupleAt (O7 x) pl (λw hw=>tj rx fx r fs w (by simpa using hw)) #[ib,.bl _,H,I,rfl,?_];rw[show its.toArray.any (O7 x)=its.any (O7 x) by simp,AL r fs];show q
def KU:me X (.builtin "len") (λxs H Q=>∃p ys,xs=[.ref p]/\(cf X.K H p ys\/ox X.K H p ys)/\Q (.int ys.length) H):=by
 intro pins s σ H xs us Q I r h;rintro p ys rfl hq q:fD h;rintro u rfl rx:bM<|vals1 r
 cases rx;have hn:=FZ;rcases hq with hq|hq
 .rintro its r' pl hz:gF<|I.list hq;have hlen:=r'.length;show Calls.call_len_list pl.isList (by simp only[ba]<;>omega) #[ib,.int ys.length,H,I.tok _,⟨s.toks+1,by rw[ba,hlen]⟩,q]
 .rintro its r' pl hz:gF<|I.tuple hq;have hlen:=r'.length;show len_tuple pl (by simp only[ba]<;>omega) #[ib,.int ys.length,H,I.tok _,⟨s.toks+1,by rw[ba,hlen]⟩,q]
def uh:me X (.builtin "len") (λxs H Q=>∃z,xs=[.str z]/\z.length<=sizeLine/\Q (.int z.length) H):=by
 intro pins s σ H xs us Q I r h;rintro z rfl hz q:gF h;rintro u rfl t rfl:bM 2 bW<|vals1 r
 have hn:=FZ;show len_str (by omega) #[ib,.int z.length,H,I.tok _,⟨_,rfl⟩,q]
def AU:me X (.type "list") (λxs H Q=>∃p ys,xs=[.ref p]/\(cf X.K H p ys\/ox X.K H p ys)/\∀l,H l=none->Q (.ref l) (upd H l (.lst ys))):=by
 intro pins s σ H xs us Q I r h;rintro p ys rfl hq q:fD h;rintro u rfl rx:bM<|vals1 r
 cases rx;have fin:∀(its:List ag),eV ys its->ys.length<=sizeLine->∀(h':cE)(c':Nat),(∀b o',s.heap.get? b=some o'->h'.get? b=some o')->
  h'.get? s.heap.objs.size=some { cls:=.type "list",dict:=none,data:=.seq its.toArray c',slots:=#[] }->EP X pins σ Q (.ref s.heap.objs.size) { s with heap:=h' }:=λits r' hz h' c' kp e=>
  #[ib,.ref s.heap.objs.size,_,I.laid (t':=s.toks) kp (aA _) (show iY X.prog X.w _ h' _ (.lst ys) from #[iz,hz,its,c',r',e]),rfl,q _ (I.eU.fresh (aA _))]
 rcases hq with hq|hq;.rintro its r' pl hz:gF<|I.list hq;have hlen:=r'.length;rintro o ho hc n hd:gF 3 bW pl.isList;show aq0 p (.inl rfl) ho hc hd (λh' c' kp e=>fin its r' hz h' c' kp e) (by simp only[ba]<;>omega)
 .rintro its r' pl hz:gF<|I.tuple hq;have hlen:=r'.length;rintro o ho hc n hd:gF 3 bW pl;show aq0 p (.inr rfl) ho hc hd (λh' c' kp e=>fin its r' hz h' c' kp e) (by simp only[ba]<;>omega)
def tyV(K:ad)(T:String)(x:V)(H:Hp):Prop:=match x with
 |.str _=>T="str"
 |.int _=>T="int"
 |.ref p=>(T="list"/\∃xs,cf K H p xs)\/(T="tuple"/\∃o,K.lookup p=some o/\o.cls=.type "tuple"/\o.dict=none)\/
  (T="dict"/\((∃aQ,H p=some (.dK aQ))\/∃aQ,H p=some (.dT aQ)))\/(T="set"/\∃S n,H p=some (.set S n))
 |_=>False
def ag2{pins:List (af×iG)}{σ:St}{H:Hp}{s:ao}{T:String}{x:V}{v:ag}(I:Inv X pins σ H s)(r:RelV x v)(ty:tyV X.K T x H):
 s.TypeIs v T/\∀a,v=.ref a->∃ob,s.heap.get? a=some ob/\ob.dict=none:=by
 cases x with
 |str z=>rintro t rfl:bW r;cases (show T="str" from ty);show⟨typeIs_str s z t,λ_ e=>nomatch e⟩
 |int i=>rintro t rfl:bW r;cases (show T="int" from ty);show⟨typeIs_int s i t,λ_ e=>nomatch e⟩
 |ref p=>
  cases r;rcases ty with⟨rfl,xs,hq⟩|⟨rfl,o,hk,hc,hd⟩|⟨rfl,hk⟩|⟨rfl,S,n,hk⟩
  .rintro its _ pl _:gF<|I.list hq;show⟨pl.isList.typeIs,λa e=>?_⟩;cases e;rintro o n e c hd _:lA pl;show #[ia,o,e,hd]
  .show⟨#[ia,o,I.ME p o hk,hc],λa e=>?_⟩;cases e;show #[ia,o,I.ME _ o hk,hd]
  .have z:∃o,s.heap.get? p=some o/\o.ExactDict:=by
    rcases hk with⟨aQ,hk⟩|⟨aQ,hk⟩;.rintro _ _ _ _ o _ _ e ex _:vW 4 rD<|I.eU p _ hk;show #[ia,o,e,ex]
    .rintro _ _ _ _ o _ _ e ex _:vW 4 rD<|I.eU p _ hk;show #[ia,o,e,ex]
   rintro o e ex:bM z;show⟨#[ia,o,e,ex.1],λa e2=>?_⟩;cases e2;show #[ia,o,e,ex.2.1]
  .rintro o _ _ _ e ex _:xf 5 fo<|I.eU p _ hk;show⟨#[ia,o,e,ex.1],λa e2=>?_⟩;cases e2;show #[ia,o,e,ex.2.1]
 |_=>show ee ty
def tBM(K:ad)(T:String)(r:V->List V->Hp->VK->Prop)(to:TE)(t:TA):TE:=λσ H Q=>to σ H λx H1=>tyV K T x H1/\t σ H1 λxs H2=>r x xs H2 Q
variable{o e:Expr}{es:List Expr}{to:TE}{t:TA}{name:Str}{apos oB:km}{T id:String}{r:V->List V->Hp->VK->Prop}
def Sk(pa:PlainAttrs T)(slot:Slot T name id)(XR:typeOf (.builtin id)=pure (.type "method_descriptor"))(hm:U9 X id r)(ho:PE X o to)(ha:PA X (e::es) t)
 (sY:attributeBase o name X.env (eval o X.env)=eval o X.env:=by rfl)
 (VW:((iU oB (bi (e::es) X.env)).all (λx=>!x.1)&&(tS oB (lM [] X.env)).all (λx=>x.1.isSome)
  &&decide ((e::es).length+([]:List vP).length+(if ([]:List vP).isEmpty then 0 else 1)<30))=true:=by rfl)
 (n9:(apos.endLine==oB.line)=true:=by rfl) (hs:bi (e::es) X.env=(false,eval e X.env)::bi es X.env:=by rfl) (aed:(iU oB (bi es X.env)).any (·.1)=false:=by rfl):
 PE X (.Call (.Attribute o name apos) (e::es) [] oB) (tBM X.K T r to t):=by
 intro pins s σ H Q I h;show wpAny_Call_method_late sY VW n9 rfl (gQ (ho pins s σ H _ I h) λv s1 cG=>lA cG λx H1 I1 r1 ty q1=>?_);rintro h1 h2:fo<|ag2 I1 r1 ty
 show #[ik,T,id,pa,slot,XR,h1,⟨h2,?_⟩];have hA:=ha oB pins s1 σ H1 _ I1 q1;rw[hs] at hA ⊢;show iJ (by change (false||(iU oB (bi es X.env)).any (·.1))=false;rw[aed]<;>rfl) (kO ?_);show gQ hA λus s2 cG=>fD cG λvs H2 I2 r2 q2=>hm pins s2 σ H2 x vs v us Q I2 r1 r2 q2
end
end L2
namespace L2
open PySem PySem.Spec PyProof.Rows
def MtM(X:Cx)(id:String)(r:V->List V->Hp->VK->Prop):Prop:=
 ∀(pins:List (af×iG))(s:ao)(σ:St)(H:Hp)(x:V)(xs:List V)(v:ag)(us:List ag)(Q:VK),Inv X pins σ H s->RelV x v->eV xs us->r x xs H Q->
  wpAny (model X.prog X.w) X.A (call (.builtin id) (v::us)) (EP X pins σ Q) X.xe s
def eV.one:∀{x:V}{us:List ag},eV [x] us->∃u,us=[u]/\RelV x u
 |_,_,.cons r .nil=>#[ia,_,rfl,r]
section
variable{X:Cx}{pins:List (af×iG)}{σ:St}{H:Hp}{s:ao}{l b:af}{xs ys zs:List V}
def Inv.Wl{its its':List ag}{n:Nat}{f:Array ag->Array ag}{t':Nat}(I:Inv X pins σ H s)(hH:H l=some (.lst xs))
 (e:s.heap.get? l=some { cls:=.type "list",data:=.seq its.toArray n }) (hf:f its.toArray=its'.toArray) (hv:eV ys its') (hz:ys.length<=sizeLine):
 Inv X pins σ (upd H l (.lst ys)) { s with heap:=s.heap.update l (dZ f),toks:=t' }:=by
 have q:=ax2 e f;rw[hf] at q;show I.write (x:=l) (e:=l) (by rw[hH];show trivial) (.inl rfl) (λb' u hb hu=>(MK s.heap (dZ f) (cA hb)).trans hu) ⟨_,q⟩ ?_;show #[iz,hz,its',_,hv,q]
def Inv.av2{its:List ag}{t':Nat}(I:Inv X pins σ H s)(hv:eV ys its)(hz:ys.length<=sizeLine):
 Inv X pins σ (upd H s.heap.objs.size (.lst ys)) { s with heap:=s.heap.push { cls:=.type "list",data:=.seq its.toArray },toks:=t' }:=
 I.laid (λ_ _ q=>aC _ q) (aA _) #[iz,hz,its,0,hv,bq _ rfl]
theorem Inv.fresh(I:Inv X pins σ H s):H s.heap.objs.size=none:=I.eU.fresh (aA _)
def Inv.NT(I:Inv X pins σ H s)(hH:H l=some (.lst xs)):xs.length<=sizeLine/\∃(its:List ag)(n:Nat),eV xs its/\xs.length=its.length/\s.heap.get? l=some { cls:=.type "list",data:=.seq its.toArray n }:=by rintro z its n r e:N3<|I.eU l _ hH;show #[iz,z,its,n,r,⟨r.length,e⟩]
def Wt{n:Nat}(h:n<=sizeLine):oS n=false:=by unfold oS;show decide_eq_false (by omega)
end
section
variable{X:Cx}
def EU:V->List V->Hp->VK->Prop:=λx vs H Q=>∃l xs y,x=.ref l/\vs=[y]/\H l=some (.lst xs)/\xs.length<sizeLine/\Q .non (upd H l (.lst (xs++[y])))
def T1:MtM X "list.append" EU:=by
 intro pins s σ H x vs v us Q I rx rv h;rintro l xs y rfl rfl hH hz q:rD 5 lB h;cases rx;rintro u rfl ru:bM rv.one;rintro z its n r hl e:N3 4 fo<|I.NT hH
 show yF O1 #[ia,_,e,rfl] F.entry_list_append (F.args_list_append_2 _ _) (PySem.list_append l its.toArray n u (by rw[ba];omega)) ⟨e,?_⟩;show #[ib,.non,_,I.Wl (its':=its++[u]) hH e (by simp) (r.append (.cons ru .nil)) ?_,rfl,q];rw[ap,ci];omega
def LZ:V->List V->Hp->VK->Prop:=λx vs H Q=>∃l b xs zs,x=.ref l/\vs=[.ref b]/\H l=some (.lst xs)/\H b=some (.lst zs)/\xs.length+zs.length<=sizeLine/\Q .non (upd H l (.lst (xs++zs)))
def T2:MtM X "list.extend" LZ:=by
 intro pins s σ H x vs v us Q I rx rv h;rintro l b xs zs rfl rfl hH hB hz q:xf 5 EO h;cases rx;rintro u rfl ru:bM rv.one;cases ru;rintro z its n r hl e:N3 4 fo<|I.NT hH
 rintro z2 Qj n2 r2 Qb e2:N3 4 fo<|I.NT hB;have hsz:its.toArray.size+Qj.toArray.size<=sizeLine:=by rw[ba,ba];omega
 have alh:¬(!its.toArray.isEmpty&&oS (its.toArray.size+Qj.toArray.size))=true:=by rw[Wt hsz,yo];show bz
 show yF O2 #[ia,_,e,rfl] F.entry_list_extend (F.args_list_extend_2 _ _)
  (AutoSeq1.list_extend_list_list_0 l its.toArray n b Qj.toArray n2 alh (by rw[ba];omega) (by omega)) #[ic,e,e2,?_]
 show #[ib,.non,_,I.Wl (its':=its++Qj) hH e (by simp) (r.append r2) ?_,rfl,q];rw[ap];omega
def afw:R2:=λx y H Q=>∃l b xs zs,x=.ref l/\y=.ref b/\H l=some (.lst xs)/\H b=some (.lst zs)/\xs.length+zs.length<=sizeLine/\∀p,H p=none->Q (.ref p) (upd H p (.lst (xs++zs)))
def CD:yI X (binaryOp .Add) afw:=by
 intro pins s σ H x y v u Q I rx ry h;rintro l b xs zs rfl rfl hH hB hz q:xf 5 EO h;cases rx;cases ry;rintro z its n r hl e:N3 4 fo<|I.NT hH
 rintro z2 Qj n2 r2 Qb e2:N3 4 fo<|I.NT hB;show PySem.P.add_list e e2 ?_ (by rw[ba,ba];omega);have ea:its.toArray++Qj.toArray=(its++Qj).toArray:=by simp
 rw[ea];show #[ib,.ref _,_,I.av2 (t':=s.toks) (r.append r2) (by rw[ap];omega),rfl,q _ I.fresh]
end
section
variable{prog:aS}{w:bL}{A:dD}{E:ag->ao->Prop}{s:ao}
set_option maxRecDepth 100000 in
end
end L2
namespace L2
open PySem PySem.Spec PyProof.Rows
theorem eV.ints:∀{ns:List Int}{us:List ag},eV (ns.map V.int) us->IntsAre us ns
 |[],us,h=>by
  rw[m_] at h;cases h;show IntsAre.nil
 |n::ns,us,h=>by
  rw[bD] at h;cases h with
  |cons r t=>rintro k rfl:bW r;show IntsAre.cons n k (eV.ints t)
theorem BK:∀{us:List ag}{ns:List Int},IntsAre us ns->eV (ns.map V.int) us
 |_,_,.nil=>by rw[m_];show Paired.nil
 |_,_,.cons n t h=>by rw[bD];show Paired.cons (show RelV (V.int n) (Dj n t) from⟨t,rfl⟩) (BK h)
theorem eV.bls:∀{bs:List Bool}{us:List ag},eV (bs.map V.bl) us->us=bs.map nN
 |[],us,h=>by
  rw[m_] at h;cases h;rfl
 |b::bs,us,h=>by
  rw[bD] at h;cases h with
  |cons r t=>cases r;rw[eV.bls t,bD]
def eV.ZE{a:af}{us:List ag}(r:eV [V.ref a] us):us=[bn a]:=by
 cases r with
 |cons r t=>cases t;cases r;rfl
section
variable{prog:aS}{w:bL}{A:dD}{E:ag->ao->Prop}{s:ao}{l:af}{its:List ag}{ns:List Int}{Q:ag->ao->Prop}
def Y'(hh:A.handled=none)(hl:s.heap.IsList l its.toArray)(hi:IntsAre its ns)(nS:0<ns.length)
 (h:∀h' tk M t',(∀b o,s.heap.get? b=some o->h'.get? b=some o)->M∈ns->(∀a,a∈ns->a<=M)->Q (.int M t') { s with heap:=h',toks:=tk }):wpAny (model prog w) A (call (.builtin "max") [.ref l]) Q E s:=by
 rintro xs e:bW hi.allInts.items;have hn:numsOf (intItems xs).toList=ns:=by rw[<-e];show hi.numsOf
 rw[nums_intItems] at hn;subst hn;rw[e] at hl;have hsz:0<xs.size:=by simpa using nS
 show PySem.max_intList hh hl hsz λv h' tk hv hk=>?_;rintro t rfl:bW<|intItems_at hv;rintro h1 h2:fo<|argBest_gt (numAt xs) (xs.size - 1);show h h' tk _ t hk ?_ λa ha=>?_;.rw[numAt_eq];show PySem.getD_mem (by rw[ab,fX];omega)
 .rintro j hj rfl:bM<|mem_getD ha;rw[ab,fX] at hj;rw[<-numAt_eq];show h2 j (by omega)
end
section
variable{X:Cx}
def awj(K:ad):List V->Hp->VK->Prop:=λvs H Q=>∃(a:af)(ns:List Int),vs=[V.ref a]/\cf K H a (ns.map V.int)/\0<ns.length/\∀m,m∈ns->(∀y,y∈ns->y<=m)->Q (.int m) H
def acz(hc:X.calm=true):me X (.builtin "max") (awj X.K):=by
 intro pins s σ H vs us Q I r h;rintro a ns rfl hs nS q:lA h;rintro its rv hl _:gF<|I.list hs
 rw[eV.ZE r];show Y' (I.ok.hd hc) hl.isList rv.ints nS λh' tk m t' hk h1 h2=>#[ib,.int _,H,I.kept hk,⟨_,rfl⟩,q m h1 h2]
def Zu(K:ad):List V->Hp->VK->Prop:=λvs H Q=>∃(a:af)(ns:List Int),vs=[V.ref a]/\cf K H a (ns.map V.int)/\ns.length<64/\
 ∀(ns':List Int)(p:af),ns'.Perm ns->ns'.Pairwise (·<=·)->H p=none->Q (.ref p) (upd H p (.lst (ns'.map V.int)))
def ZM{n:Nat}(h:n<64):n<=sizeLine:=by rw[fV];omega
def S':me X (.builtin "sorted") (Zu X.K):=by
 intro pins s σ H vs us Q I r h;rintro a ns rfl hs h64 q:lA h;rintro its rv hl _:gF<|I.list hs
 rw[eV.ZE r];have hi:=rv.ints;show aiy hl.isList hi (by rw[hi.length];show h64) λout ns' h1 h2 h3=>?_;rintro ep he':bW<|PyProof.Rows.sortedAll_at s.heap its out;have hlen:(ns'.map V.int).length<=sizeLine:=by rw[ab,h2.length_eq];show ZM h64
 show #[ib,.ref _,upd H (s.heap.objs.size+1) (.lst (ns'.map V.int)),I.laid (t':=s.toks) (λ_ _=>aix) (yB _) #[iz,hlen,out.toList,ep,BK h1,he'],rfl,q ns' _ h2 h3 (I.eU.fresh (yB _))]
end
section
variable{X:Cx}
def RT{ys:List V}(f:ys.all mG=true){j:Nat}{z:V}(h:ys[j]? = some z):mG z=true:=bB.mp f z (aZ h)
end
def NO{prog:aS}{w:bL}{A:dD}{E:ag->ao->Prop}{s:ao}{l:af}{items:Array ag}{Q:ag->ao->Prop}(hl:s.heap.IsList l items)
 (h:∀s₂:ao,s₂={ s with heap:=s.heap.push { cls:=.type "list_iterator",data:=.fields #[.ref l,.int 0 0] } }->
  (s₂.heap.IsListIter s.heap.objs.size l 0/\s₂.heap.IsList l items)->l≠s.heap.objs.size->Q (.ref s.heap.objs.size) s₂):wpAny (model prog w) A (pyIter (.ref l)) Q E s:=by
 have lr:l<s.heap.objs.size:=by rintro _ e _:bM hl;show bf e
 show Ht hl (h _ rfl ⟨#[ie,_,bq _ rfl,rfl,rfl],hl.push _⟩ (bw lr))
def D'{prog:aS}{w:bL}{A:dD}{bs:List Bool}{its:List ag}(e:its=bs.map nN):
 TruthOf prog w A (λi v=>its.toArray[i]? = some v) (λi=>bs.getD i false):=λi v s Q E hv hq=>by
 have hv':its[i]? = some v:=by simpa using hv
 rw[e,aF] at hv';rintro b hb rfl:bM<|Option.map_eq_some_iff.mp hv';have hg:bs.getD i false=b:=by rw[qo,hb]<;>rfl
 have hq':Q (bs.getD i false) s:=hq;rw[hg] at hq';show iP hq'
theorem Je:∀bs:List Bool,(ay bs.length).any (λi=>bs.getD i false)=bs.any id
 |[]=>rfl
 |b::bs=>by
  rw[aP,MH,iS,jZ,iS,<-Je bs];all_goals rfl
theorem Jd:∀bs:List Bool,(ay bs.length).all (λi=>bs.getD i false)=bs.all id
 |[]=>rfl
 |b::bs=>by
  rw[aP,MH,lQ,BR,lQ,<-Jd bs];all_goals rfl
section
variable{X:Cx}
def am6(K:ad):List V->Hp->VK->Prop:=λvs H Q=>∃(a:af)(bs:List Bool),vs=[V.ref a]/\cf K H a (bs.map V.bl)/\Q (.bl (bs.any id)) H
def am5(K:ad):List V->Hp->VK->Prop:=λvs H Q=>∃(a:af)(bs:List Bool),vs=[V.ref a]/\cf K H a (bs.map V.bl)/\Q (.bl (bs.all id)) H
def acy(hc:X.calm=true):me X (.builtin "any") (am6 X.K):=by
 intro pins s σ H vs us Q I r h;rintro a bs rfl hs q:fD h;rintro its rv hl _:gF<|I.list hs
 rw[eV.ZE r];have hb:=rv.bls;show call_any_walk (NO hl.isList λs₂ e2 st nS=>?_);subst e2;show #[ig,_,_,_,_,_,#[ik,_,_,rfl,ahm (A:=X.A.in1) (I.ok.hd hc) _ a nS its.toArray,st,D' hb,λh' tk hk=>?_]];show #[ib,.bl _,H,I.kept λb o eo=>hk b o (λIm=>?_) (aC _ eo),?_,q]
 .rcases aD.mp Im with e1|Im;.show absurd (e1▸bf eo) (fZ _)
  .cases Im
 .change nN _=nN _;rw[<-Je,hb,ba,ab]
def acx(hc:X.calm=true):me X (.builtin "all") (am5 X.K):=by
 intro pins s σ H vs us Q I r h;rintro a bs rfl hs q:fD h;rintro its rv hl _:gF<|I.list hs
 rw[eV.ZE r];have hb:=rv.bls;show call_all_walk (NO hl.isList λs₂ e2 st nS=>?_);subst e2;show #[ig,_,_,_,_,_,#[ik,_,_,rfl,ahm (A:=X.A.in1) (I.ok.hd hc) _ a nS its.toArray,st,D' hb,λh' tk hk=>?_]];show #[ib,.bl _,H,I.kept λb o eo=>hk b o (λIm=>?_) (aC _ eo),?_,q]
 .rcases aD.mp Im with e1|Im;.show absurd (e1▸bf eo) (fZ _)
  .cases Im
 .change nN _=nN _;rw[<-Jd,hb,ba,ab]
end
mutual
inductive Dp(K:ad)(H:Hp):V->Ey->Prop
 |non:Dp K H .non .none
 |bl (b:Bool):Dp K H (.bl b) (.bool b)
 |int (i:Int):Dp K H (.int i) (.int i)
 |str (x:Str):Dp K H (.str x) (.str x)
 |lst {a:af} {xs:List V} {ds:List Ey}:cf K H a xs->Jm K H xs ds->Dp K H (.ref a) (.list ds)
 |tup {a:af} {xs:List V} {ds:List Ey}:ox K H a xs->Jm K H xs ds->Dp K H (.ref a) (.tuple ds)
inductive Jm(K:ad)(H:Hp):List V->List Ey->Prop
 |nil:Jm K H [] []
 |cons {v:V} {vs:List V} {d:Ey} {ds:List Ey}:Dp K H v d->Jm K H vs ds->Jm K H (v::vs) (d::ds)
end
section
variable{X:Cx}{pins:List (af×iG)}{σ:St}{H:Hp}{s:ao}
mutual
theorem Dp.reads(I:Inv X pins σ H s):∀(d:Ey)(v:V)(u:ag),Dp X.K H v d->RelV v u->∃as,Reads s.heap u d as
 |.none,_,_,h,r=>by
  cases h;cases r;show⟨_,Reads.none⟩
 |.bool b,_,_,h,r=>by
  cases h;cases r;show⟨_,Reads.bool b⟩
 |.int i,_,_,h,r=>by
  cases h;rintro t rfl:bW r;show⟨_,Reads.int i t⟩
 |.str x,_,_,h,r=>by
  cases h;rintro t rfl:bW r;show⟨_,Reads.str x t⟩
 |.list ds,_,_,h,r=>by
  cases h with
  |lst hs ha=>cases r;rintro its rv ⟨o,n,ho,hc,_,hd⟩ _:gF<|I.list hs;rintro as hr:bW<|Dp.readsAll I ds _ its ha rv;show⟨_,Reads.list ho hc hd hr⟩
 |.tuple ds,_,_,h,r=>by
  cases h with
  |tup hs ha=>cases r;rintro its rv ⟨o,ho,hc,n,hd⟩ _:gF<|I.tuple hs;rintro as hr:bW<|Dp.readsAll I ds _ its ha rv;show⟨_,Reads.tuple ho hc hd hr⟩
 |.dict _,_,_,h,_=>by cases h
theorem Dp.readsAll(I:Inv X pins σ H s):∀(ds:List Ey)(vs:List V)(us:List ag),Jm X.K H vs ds->eV vs us->∃as,ReadsAll s.heap us ds as
 |[],_,_,h,r=>by
  cases h;cases r;show⟨_,ReadsAll.nil⟩
 |d::ds,_,_,h,r=>by
  cases h with
  |cons h1 h2=>
   cases r with
   |cons r1 r2=>rintro as q1:bW<|Dp.reads I d _ _ h1 r1;rintro bs q2:bW<|Dp.readsAll I ds _ _ h2 r2;show⟨_,ReadsAll.cons q1 q2⟩
end
end
section
variable{X:Cx}
def afx(K:ad):R2:=λx y H Q=>∃d e,Dp K H x d/\Dp K H y e/\vt d=true/\vt e=true/\Q (.bl (zm d e)) H
def awk(K:ad):R2:=λx y H Q=>∃d e,Dp K H x d/\Dp K H y e/\vt d=true/\vt e=true/\Q (.bl (!zm d e)) H
def afp(hu:X.A.units+64<ot):yI X (compareOp .Eq) (afx X.K):=by
 intro pins s σ H x y v u Q I rx ry h;rintro d e hd he sd se q:lA 5 fo h;rintro as r1:bW<|Dp.reads I d x v hd rx
 rintro bs r2:bW<|Dp.reads I e y u he ry;show SeqAt.compareEq_shaped r1 r2 sd se hu #[ib,.bl _,H,I,rfl,q]
def afq(hu:X.A.units+64<ot):yI X (compareOp .NotEq) (awk X.K):=by
 intro pins s σ H x y v u Q I rx ry h;rintro d e hd he sd se q:lA 5 fo h;rintro as r1:bW<|Dp.reads I d x v hd rx
 rintro bs r2:bW<|Dp.reads I e y u he ry;show SeqAt.compareNe_shaped r1 r2 sd se hu #[ib,.bl _,H,I,rfl,q]
end
end L2
namespace L2
open PySem PySem.Spec PyProof.Rows
abbrev U7(h:cE)(c:af)(v:Option ag):Prop:=h.IsCell c v
def aw9(scope sc:jq):jq:=
 { scope with names:=scope.names.map λ(n,k)=>if (k==.free&&sc.kind==.function&&sc.names.lookup n==some .cell) then (n,.cell) else (n,k) }
def gP(cells:List (Str×af)):List (Str×jC)->List (Str×af)->List (Str×af)
 |[],acc=>acc
 |(n,k)::r,acc=>if k==.free then gP cells r ((n,(cells.lookup n).getD 0)::acc) else gP cells r acc
theorem AV(env:Kb)(f:Str×jC->List (Str×af)->Xx (ForInStep (List (Str×af))))
 (hf:∀n k c,f (n,k) c=if k==.free then (do let a <-cellOf env n;pure (.yield ((n,a)::c))) else pure (.yield c)):
 ∀(names:List (Str×jC))(acc:List (Str×af)),(∀y∈names,y.2=.free->∃c,env.cells.lookup y.1=some c)->forIn names acc f=pure (gP env.cells names acc)
 |[],acc,_=>by rw[X4];rfl
 |(n,k)::r,acc,h=>by
  rw[List.forIn_cons,hf];have ih:=λacc=>AV env f hf r acc λy hy=>h y (au _ hy);unfold gP;by_cases hk:(k==ni)=true
  .rw[if_pos hk,if_pos hk];rintro c hc:bW<|h (n,k) aJ (by simpa using hk);have e:cellOf env n=pure c:=by unfold cellOf;rw[hc]
   rw[e];have e2:(env.cells.lookup n).getD 0=c:=by rw[hc];rfl
   rw[e2];show ih _
  .rw[if_neg hk,if_neg hk];show ih _
def PU{scope:jq}{env:Kb}(h:∀y∈scope.names,y.2=.free->∃c,env.cells.lookup y.1=some c):O5 scope env=pure (gP env.cells scope.names []):=by simp only[O5];rw[AV env _ (λn k c=>rfl) scope.names [] h];rfl
theorem zk{α:Type}:∀{l:List (Str×α)}{n:Str}{c:α},(n,c)∈l->∃c',l.lookup n=some c'
 |(k,v)::r,n,c,h=>by
  rw[jG];cases hb:n==k with
  |true=>show⟨_,rfl⟩
  |false=>
   rcases aD.mp h with e|h;.cases e;simp at hb
   .show zk h
theorem qA{cells:List (Str×af)}:∀{names:List (Str×jC)}{acc:List (Str×af)}{n:Str}{c:af},(n,c)∈gP cells names acc->(n,c)∈acc\/((n,.free)∈names/\c=(cells.lookup n).getD 0)
 |[],_,_,_,h=>.inl h
 |(m,k)::r,acc,n,c,h=>by
  unfold gP at h;split at h
  .rename_i hk;have hk:k=.free:=by simpa using hk
   rcases qA h with h|⟨h1,h2⟩
   .rcases aD.mp h with e|h;.cases e;show .inr ⟨hk▸aJ,rfl⟩
    .show .inl h
   .show .inr ⟨au _ h1,h2⟩
  .rcases qA h with h|⟨h1,h2⟩;.show .inl h
   .show .inr ⟨au _ h1,h2⟩
theorem wB{cells:List (Str×af)}:∀{names:List (Str×jC)}{acc:List (Str×af)}{p:Str×af},p∈acc->p∈gP cells names acc
 |[],_,_,h=>h
 |(m,k)::r,acc,p,h=>by
  unfold gP;split;.show wB (au _ h)
  .show wB h
theorem wC{cells:List (Str×af)}:∀{names:List (Str×jC)}{acc:List (Str×af)}{n:Str},(n,.free)∈names->(n,(cells.lookup n).getD 0)∈gP cells names acc
 |(m,k)::r,acc,n,h=>by
  unfold gP;rcases aD.mp h with e|h;.cases e;show wB aJ
  .split;.show wC h
   .show wC h
theorem sO:∀{names:List (Str×jC)}{h:cE}{acc:List (Str×af)}{x:Str}{c:af},(x,c)∈eQ h.objs.size names acc->
 (x,c)∈acc\/((x,.cell)∈names/\h.objs.size<=c/\U7 (sy h names) c none)
 |[],_,_,_,_,h=>.inl h
 |(n,k)::r,h,acc,x,c,hm=>by
  unfold eQ at hm;unfold sy;split at hm
  .rename_i hk;rw[if_pos hk];have hk:k=.cell:=by simpa using hk
   rw[<-d7 h { cls:=.type "cell",data:=.cell none }] at hm;rcases sO hm with hm|⟨h1,h2,h3⟩
   .rcases aD.mp hm with e|hm;.cases e;show .inr #[iA,hk▸aJ,aA _,_,zq r _ _ _ (bq _ rfl),rfl]
    .show .inl hm
   .rw[d7] at h2;show .inr #[ic,au _ h1,sw h2,h3]
  .rename_i hk;rw[if_neg hk];rcases sO hm with hm|⟨h1,h2,h3⟩;.show .inl hm
   .show .inr #[ic,au _ h1,h2,h3]
theorem ye:∀{names:List (Str×jC)}{n:Nat}{acc:List (Str×af)}{p:Str×af},p∈acc->p∈eQ n names acc
 |[],_,_,_,h=>h
 |(m,k)::r,n,acc,p,h=>by
  unfold eQ;split;.show ye (au _ h)
  .show ye h
theorem Cc:∀{names:List (Str×jC)}{n:Nat}{acc:List (Str×af)}{x:Str},(x,.cell)∈names->∃c,(x,c)∈eQ n names acc
 |(m,k)::r,n,acc,x,h=>by
  unfold eQ;rcases aD.mp h with e|h;.cases e;show⟨n,ye aJ⟩
  .split;.show Cc h
   .show Cc h
theorem Cd:∀{names:List (Str×jC)}{h:cE}{acc:List (Str×af)}{x y:Str}{c:af},(∀p∈acc,p.2<h.objs.size)->(∀x y c,(x,c)∈acc->(y,c)∈acc->x=y)->
 (x,c)∈eQ h.objs.size names acc->(y,c)∈eQ h.objs.size names acc->x=y
 |[],_,_,_,_,_,_,hi,h1,h2=>hi _ _ _ h1 h2
 |(n,k)::r,h,acc,x,y,c,hl,hi,h1,h2=>by
  unfold eQ at h1 h2;split at h1
  .rename_i hk;rw[if_pos hk] at h2;rw[<-d7 h { cls:=.type "cell",data:=.cell none }] at h1 h2;show Cd (h:=h.push _) (λp hp=>?_) (λx y c a b=>?_) h1 h2
   .rw[d7];rcases aD.mp hp with rfl|hp;.show vq _
    .show nc (hl p hp)
   .rcases aD.mp a with e|a<;>rcases aD.mp b with e'|b;.cases e;cases e';rfl
    .cases e;show absurd (hl _ b) (fZ _)
    .cases e';show absurd (hl _ a) (fZ _)
    .show hi _ _ _ a b
  .rename_i hk;rw[if_neg hk] at h2;show Cd hl hi h1 h2
def NY{M:ab9}{A:dD}{E:ag->ao->Prop}{s:ao}{scope:jq}{globals:af}{closure:List (Str×af)}{qual:Str}{func:Option af}{code:ag}{around:Kb}{builtins:af}{Q:Kb->ao->Prop}
 (h:Q (newEnv scope s.heap.objs.size globals (eQ (s.heap.objs.size+1) scope.names closure) qual func code (some around) builtins)
  { s with heap:=sy (s.heap.push { cls:=.type "dict",data:=.dict #[] }) scope.names }):
 wpAny M A (aot scope globals closure [] qual func code (some around) builtins) Q E s:=by
 simp only[aot,pJ,if_true];show wpAny_bind (wpAny_alloc ?_);show wpAny_bind (wpAny_layCells _ (λn k c=>rfl) scope.names closure _ _ ?_);rw[show ({ s with heap:=s.heap.push { cls:=.type "dict",data:=.dict #[] } }:ao).heap.objs.size=s.heap.objs.size+1 from d7 ..];rw[X4];show wpAny_bind (wpAny_pure (wpAny_pure h))
theorem xc{sc:jq}:∀{names:List (Str×jC)}{x:Str}{k:jC},
 (names.map λ(n,k)=>if (k==ni&&sc.kind==.function&&sc.names.lookup n==some .cell) then (n,E3) else (n,k)).lookup x=some k->
 ∃k',names.lookup x=some k'/\(k=k'\/(k'=.free/\k=.cell))
 |[],_,_,h=>by simp at h
 |(n,k₀)::r,x,k,h=>by
  have ih:=@xc sc r x k;have h':lf x ((if (k₀==ni&&sc.kind==.function&&sc.names.lookup n==some .cell)=true then (n,E3) else (n,k₀))::(r.map _))=some k:=h;cases hx:x==n with
  |true=>
   simp only[jG,hx];by_cases hc:(k₀==ni&&sc.kind==.function&&sc.names.lookup n==some .cell)=true;.rw[if_pos hc] at h';simp only[jG,hx] at h';cases h';simp only[ak,beq_iff_eq] at hc;show #[ia,k₀,rfl,.inr ⟨hc.1.1,rfl⟩]
   .rw[if_neg hc] at h';simp only[jG,hx] at h';cases h';show #[ia,_,rfl,.inl rfl]
  |false=>
   simp only[jG,hx];by_cases hc:(k₀==ni&&sc.kind==.function&&sc.names.lookup n==some .cell)=true;.rw[if_pos hc] at h';simp only[jG,hx] at h';show ih h'
   .rw[if_neg hc] at h';simp only[jG,hx] at h';show ih h'
structure MX(N:List Str)(sc scope:jq)(own:List (Str×Nat)):Prop where
 kind:scope.kind=.function
 uniq:∀y∈scope.names,scope.names.lookup y.1=some y.2
 ix:∀p∈own,N[p.2]? = some p.1
 free:∀y∈scope.names,y.2=.free->sc.names.lookup y.1=some .cell\/sc.names.lookup y.1=some .free
 own:∀y∈scope.names,y.2=.local\/y.2=.cell->y.1∈own.map (·.1)\/y.1∉N
def ji(σ:St):List Nat->St
 |[]=>σ
 |v::vs=>(ji σ vs).set v none
theorem x9(σ:St):∀vs:List Nat,(ji σ vs).length=σ.length
 |[]=>rfl
 |v::vs=>by unfold ji;rw[jp,x9 σ vs]
theorem Db{σ:St}{i:Nat}{x:V}:∀{vs:List Nat},(ji σ vs)[i]? = some (some x)->σ[i]? = some (some x)/\i∉vs
 |[],h=>⟨h,by simp⟩
 |v::vs,h=>by
  unfold ji at h;by_cases hi:v=i
  .subst hi;by_cases hv:v<(ji σ vs).length;.rw[iM hv] at h;cases h
   .rw[fu (by simpa using hv)] at h;cases h
  .rw[lc hi] at h;rintro h1 h2:fo<|Db h;show⟨h1,by simp only[aD,not_or];show⟨λe=>hi e.symm,h2⟩⟩
abbrev Cx.KR(X:Cx)(s:ao)(H:Hp)(scope:jq)(mo:Kb)(fp:List af):Cx:={ X with JT:=s,H_0:=H,env:=mo,outer:=X.stack,ex:=fp,fn:=λx=>scope.names.lookup x==some .cell,pn:=[],xe:=λ_ _=>False }
section
variable{X:Cx}{pins:List (af×iG)}{σ:St}{H:Hp}{s:ao}
def M5{scope:jq}{own:List (Str×Nat)}{fp:List af}(I:Inv X pins σ H s)(ok:MX X.N X.env.scope scope own)(hN:X.N.Nodup)(YH:∀b∈fp,E7 X pins H b/\b<s.heap.objs.size):
 Inv (X.KR s H scope (lL scope (eQ (s.heap.objs.size+1) scope.names (gP X.env.cells scope.names [])) s.heap.objs.size X.env) fp) [] (ji σ (own.map (·.2))) H { s with heap:=sy (s.heap.push { cls:=.type "dict",data:=.dict #[] }) scope.names }:=by
 have Jy:∀y∈scope.names,y.2=.free->∃c,X.env.cells.lookup y.1=some c:=λy hy e=>by
  rcases ok.free y hy e with k|k;.show I.ok.has _ (.inl k)
  .show I.ok.has _ (.inr k)
 generalize NH:lL scope (eQ (s.heap.objs.size+1) scope.names (gP X.env.cells scope.names [])) s.heap.objs.size X.env=mo;have kp:∀b o,s.heap.get? b=some o->(sy (s.heap.push { cls:=.type "dict",data:=.dict #[] }) scope.names).get? b=some o:=λb o e=>zq _ _ _ _ (aC _ e);have hL:mo.locals=s.heap.objs.size:=by rw[<-NH];rfl
 have O9:mo.cells=eQ (s.heap.objs.size+1) scope.names (gP X.env.cells scope.names []):=by rw[<-NH];rfl
 have hsc:mo.scope=aw9 scope X.env.scope:=by rw[<-NH];rfl
 rw[<-d7 s.heap { cls:=.type "dict",data:=.dict #[] }] at O9;have cm:∀{y c},(y,c)∈gP X.env.cells scope.names []->X.env.cells.lookup y=some c/\c<s.heap.objs.size:=λ{y c}hm=>by
  rcases qA hm with hm|⟨h1,rfl⟩;.cases hm
  .rintro c hc:bW<|Jy _ h1 rfl;rw[hc];rintro w z:bW<|I.cell _ _ hc;show⟨rfl,z.lt⟩
 have mem:∀{y c},mo.cells.lookup y=some c->(X.env.cells.lookup y=some c/\c<s.heap.objs.size)\/(s.heap.objs.size+1<=c/\U7 (sy (s.heap.push { cls:=.type "dict",data:=.dict #[] }) scope.names) c none):=λ{y c}e=>by
  rw[O9] at e;rcases sO (cy e) with hm|⟨_,h2,h3⟩;.show .inl (cm hm)
  .rw[d7] at h2;show .inr ⟨h2,h3⟩
 have look:∀{y},scope.names.lookup y=some .free->∃c,mo.cells.lookup y=some c/\X.env.cells.lookup y=some c:=λ{y}hl=>by
  have hy:(y,ni)∈scope.names:=cy hl;rintro c' e':bW<|zk (ye (names:=scope.names) (n:=(s.heap.push { cls:=.type "dict",data:=.dict #[] }).objs.size) (wC (cells:=X.env.cells) (acc:=[]) hy));rw[<-O9] at e';show #[ia,c',e',?_];rw[O9] at e';rcases sO (cy e') with hm|⟨h1,_,_⟩;.show (cm hm).1
  .have:=ok.uniq _ h1;rw[hl] at this;cases this
 have okB:(X.KR s H scope mo fp).Ok:=by
  show⟨I.ok.mod,by change mo.scope.kind=_;rw[hsc];show ok.kind,by change mo.globals=_;rw[<-NH];show I.ok.glob,by change mo.builtins=_;rw[<-NH];show I.ok.blt,by change s.heap.objs.size<=mo.locals;rw[hL];show aA _,
   λy z c e1 e2=>?_,λy hy=>?_,λy c z e=>?_,I.ok.hd,I.ok.frames,.inl rfl,λb hb=>⟨?_,λy c e z=>?_⟩,I.bs,aE I.ok.XF I.sz,λb o e hb=>?_,λb hb z=>?_,I.stack,I.SL⟩
  .have e1:mo.cells.lookup y=some c:=e1;have e2:mo.cells.lookup z=some c:=e2;rw[O9] at e1 e2;show Cd (λp hp=>?_) (λy z c a b=>I.ok.inj y z c (cm a).1 (cm b).1) (cy e1) (cy e2);rw[d7];show nc (cm (y:=p.1) (c:=p.2) hp).2
  .change ∃c,mo.cells.lookup y=some c;have key:∀k,mo.kindOf y=some k->(k=.cell\/k=.free)->∃c,mo.cells.lookup y=some c:=λk hk hk'=>by
    unfold Env.kindOf at hk;rw[hsc] at hk;rintro k' e r:bM<|xc hk;have:k'=.cell\/k'=.free:=by
     rcases r with rfl|⟨rfl,_⟩;.show hk'
     .show .inr rfl
    rcases this with rfl|rfl;.rintro c hm:bW<|Cc (n:=(s.heap.push { cls:=.type "dict",data:=.dict #[] }).objs.size) (acc:=gP X.env.cells scope.names []) (cy e);rintro c' e':bW<|zk hm;show⟨c',by rw[O9];show e'⟩
    .rintro c h1 _:bM<|look e;show⟨c,h1⟩
   rcases hy with hy|hy;.show key _ hy (.inl rfl)
   .show key _ hy (.inr rfl)
  .have z:(scope.names.lookup y==some E3)=true:=z;have z:scope.names.lookup y=some .cell:=by simpa using z
   have e:mo.cells.lookup y=some c:=e;rw[O9] at e;rcases sO (cy e) with hm|⟨_,h2,_⟩
   .rcases qA hm with hm|⟨h1,_⟩;.cases hm
    .have q:=ok.uniq _ h1;rw[z] at q;cases q
   .rw[d7] at h2;show sw h2
  .change b≠mo.locals;rw[hL];show bw (YH b hb).2
  .have e:mo.cells.lookup y=some c:=e;rcases mem e with⟨h1,_⟩|⟨h1,_⟩;.show (YH b hb).1.2.2.2.2.1 y c h1 z
   .have h2:s.heap.objs.size+1<=b:=by rw[<-z];show h1
    show absurd (bg (YH b hb).2 (sw h2)) (fZ _)
  .rcases (YH b hb).1.2.2.2.1 with z|z;.show I.ok.Wq b o e z
   .show absurd (bg (bf e) (aE I.ok.XF z)) (fZ _)
  .rcases aD.mp (I.Q9 b z) with z|z;.show (YH b hb).1.2.1 z
   .show (YH b hb).1.2.2.1 z
 show⟨okB,rfl,I.bare,Un.kept kp,#[ia,λ_=>none,?_,λi y av e1 e2 e3=>?_],λy c e=>?_,?_,λy c e=>?_,λp hp=>?_,I.eU.kept kp,by rw[x9];show I.len⟩;.change Heap.Ns _ mo.locals _;rw[hL];show Heap.Ns.keeps (Heap.Ns.new ..) λb o e=>zq _ _ _ _ e
 .rintro e2 nS:fo<|Db e2;have hfr:scope.names.lookup y=some .free/\(mo.kindOf y=some .cell\/mo.kindOf y=some .free):=by
   have key:∀k,mo.scope.names.lookup y=some k->k=.local\/k=.cell\/k=.free->scope.names.lookup y=some .free/\(mo.kindOf y=some .cell\/mo.kindOf y=some .free):=λk hk hk'=>by
    have hk0:=hk;rw[hsc] at hk;rintro k' e r:bM<|xc hk;have no:¬(k'=.local\/k'=.cell):=λhh=>by
     rcases ok.own _ (cy e) hh with e'|e';.rintro p hp hpy:bM<|List.mem_map.mp e';have e3:=ok.ix p hp;have:p.1=y:=hpy;rw[this] at e3;show nS (aY.mpr #[ia,p,hp,Gc hN e3 e1])
     .show e' (aZ e1)
    rcases r with rfl|⟨rfl,rfl⟩
    .rcases hk' with rfl|rfl|rfl;.show absurd (.inl rfl) no
     .show absurd (.inr rfl) no
     .show⟨e,.inr hk0⟩
    .show⟨e,.inl hk0⟩
   have e3:Vis mo.scope y:=e3;rcases e3 with e3|e3|e3;.show key _ e3 (.inl rfl)
   .show key _ e3 (.inr (.inl rfl))
   .show key _ e3 (.inr (.inr rfl))
  rintro m hn hl:bM I.loc;have au5:Vis X.env.scope y:=(ok.free _ (cy hfr.1) rfl).elim (λk=>.inr (.inl k)) (λk=>.inr (.inr k));rintro w r q:bM<|hl i y av e1 e2 au5;show #[ia,w,r,.inr ⟨hfr.2,?_⟩];rintro c h1 h2:bM<|look hfr.1;rcases q with⟨k,_⟩|⟨_,c',e',z⟩;.have k:X.env.scope.names.lookup y=some .local:=k;rcases ok.free _ (cy hfr.1) rfl with k'|k'<;>rw[show X.env.scope.names.lookup y=_ from k'] at k<;>cases k
  .rw[h2] at e';cases e';show #[ia,c,h1,z.keeps kp]
 .have e:mo.cells.lookup y=some c:=e;rcases mem e with⟨h1,_⟩|⟨_,z⟩;.rintro w z:bW<|I.cell y c h1;show⟨w,z.keeps kp⟩
  .show⟨_,z⟩
 .change H mo.locals=none;rw[hL];show I.eU.fresh (aA _)
 .have e:mo.cells.lookup y=some c:=e;rcases mem e with⟨h1,_⟩|⟨h1,_⟩;.show I.sV y c h1
  .show I.eU.fresh (sw h1)
 .show absurd (show p∈([]:List (af×iG))++[] from hp) (by simp)
def acq{E:ag->ao->Prop}{D:af}{xs:List V}{y:V}{v:ag}{Q:ag->ao->Prop}(I:Inv X pins σ H s)(hD:H D=some (.lst xs))(hz:xs.length<sizeLine)(r:RelV y v)
 (h:∀s',Inv X pins σ (upd H D (.lst (xs++[y]))) s'->Q .none s'):wpAny (model X.prog X.w) X.A (call (.builtin "list.append") [.ref D,v]) Q E s:=by
 rintro hz' its n ri e:N3<|I.eU D _ hD;have hl:=ri.length;show append_at (hsz:=by rw[ba];omega) e λh' sb Lg=>?_;show h { s with heap:=h' } (I.write (t':=s.toks) (by rw[hD];trivial) (.inl rfl) (λb u hb q=>(sb.2 b hb).trans q) ⟨_,Lg⟩ #[iz,by rw[ap];show hz,its++[v],n+1,ri.append (.cons r .nil),?_]);rw[Lg];simp
def PTs(X:Cx)(ifs:List Expr)(t:TT):Prop:=
 ∀(pins:List (af×iG))(s:ao)(σ:St)(H:Hp)(Q:Bool->Hp->Prop),Inv X pins σ H s->t σ H Q->
  wpAny (model X.prog X.w) X.A (forIn ifs true λc r=>if r=true then do let ok <-isTrue c X.env (eval c X.env);pure (ss ok) else pure (ss r)) (TP X pins σ Q) X.xe s
def ag0:TT:=λ_ H Q=>Q true H
def jz:PTs X [] ag0:=λ_ _ _ H _ I h=>wpAny_tests_nil #[ia,H,I,h]
def Bh{c:Expr}{t:TT}(h:PT X c t):PTs X [c] t:=λpins s σ H Q I hw=>wpAny_tests_one (h pins s σ H Q I hw)
end
def Ud{α:Type}{t:Xx α}{Q Q':α->ao->Prop}{M:ab9}{A:dD}{E:ag->ao->Prop}{s:ao}(h:wpAny M A t Q (λ_ _=>False) s)(hQ:∀a s,Q a s->Q' a s):wpAny M A t Q' E s:=gp h hQ λ_ _ z=>ee z
def KW{prog:aS}{w:bL}{A:dD}{R:Z7->ao->Prop}{s:ao}{elt target iter:Expr}{ifs:List Expr}{scope:jq}{pos:km}{it acc:ag}{env:Kb}(I:Nat->ao->Prop)
 (turn:∀n s,I n s->wpAny (model prog w) A (pyNext it) (λr s₁=>match r with
  |none=>R (.ok .next) s₁
  |some v=>wpAny (model prog w) A (zp target it v) (λ_ s₁'=>wpAny (model prog w) A (assign target env v) (λ_ s₂=>
   wpAny (model prog w) A (forIn ifs true λc r=>if r=true then do let ok <-isTrue c env (eval c env);pure (ss ok) else pure (ss r)) (λok s₃=>
    if ok=true then wpAny (model prog w) A (eval elt env) (λx s₄=>wpAny (model prog w) A (call (.builtin "list.append") [acc,x]) (λ_ s₅=>∃m,m<n/\I m s₅) (MO (model prog w) A env λe s'=>R (.error e) s') s₄) (MO (model prog w) A env λe s'=>R (.error e) s') s₃
    else ∃m,m<n/\I m s₃) (MO (model prog w) A env λe s'=>R (.error e) s') s₂) (MO (model prog w) A env λe s'=>R (.error e) s') s₁') (MO (model prog w) A env λe s'=>R (.error e) s') s₁) (MO (model prog w) A env λe s'=>R (.error e) s') s)
 (n:Nat) (h:I n s):
 vR (model prog w) A (.compLoop (.ListComp elt [⟨target,iter,ifs,0⟩] scope pos) 0 it acc env) R s:=by
 show codeAny_loop rfl I (λn s hI=>?_) n h;change wpAny _ A ((compTurn (.ListComp elt [⟨target,iter,ifs,0⟩] scope pos) 0 it acc env).onRaise (λx=>do noteFrame x env;theTreesLotGoes x)) _ _ s;show wpAny_noted ?_;rw[compTurn_list];show wpAny_bind (RC (wpAny_bind (gp (turn n s hI) (λr s₁ h₁=>?_) λ_ _ h'=>h')));cases r with
 |none=>show wpAny_pure h₁
 |some v=>
  show wpAny_bind (gp h₁ (λ_ s₁' h₁'=>?_) λ_ _ h'=>h');show wpAny_bind (gp h₁' (λ_ s₂ h₂=>wpAny_bind (gp h₂ (λok s₃ h₃=>?_) λ_ _ h'=>h')) λ_ _ h'=>h');cases ok with
  |false=>show wpAny_pure ⟨rfl,h₃⟩
  |true=>show wpAny_bind (wpAny_bind (gp h₃ (λx s₄ h₄=>wpAny_bind (gp h₄ (λ_ s₅ h₅=>wpAny_pure (wpAny_pure ⟨rfl,h₅⟩)) λ_ _ h'=>h')) λ_ _ h'=>h'))
section
variable{X:Cx}
def XY(wi:TI)(g:TG)(tt:TT)(te:TE)(vs:List Nat):TE:=λσ H Q=>wi σ H λJ H1=>∀D,H1 D=none->∃W:Nat->Nat->Hp->Prop,(∃m,W 0 m (upd H1 D (.lst [])))/\∀i m H,W i m H->
 (J.stop i H/\Q (.ref D) H)\/(J.go i H/\∃Nx:Hp->Prop,(∀H',Nx H'->∃m',m'<m/\W (i+1) m' H')/\∀x H',J.ZX i H x H'->g x (ji σ vs) H' λσ2 H2=>ji σ2 vs=ji σ vs/\tt σ2 H2 λb H3=>if b=true then te σ2 H3 λy H4=>∃acc,H4 D=some (.lst acc)/\acc.length<sizeLine/\Nx (upd H4 D (.lst (acc++[y]))) else Nx H3)
def Sb{pins:List (af×iG)}{s:ao}{σ:St}{H:Hp}{Q:VK}{elt tg iter:Expr}{ifs:List Expr}{scope:jq}{own:List (Str×Nat)}{pos pos':km}{wi:TI}{g:TG}{tt:TT}{te:TE}{use:Option (ag->Xx Unit)}{Qf:ag->ao->Prop}
 (hc:X.calm=true) (hN:X.N.Nodup) (I:Inv X pins σ H s) (hi:PI X tg iter wi) (ok:MX X.N X.env.scope scope own)
 (hg:∀(s:ao)(H:Hp)(C:af)(cl:List (Str×af))(fp:List af),PG (X.KR s H scope (lL scope cl C X.env) fp) tg g) (ht:∀(s:ao)(H:Hp)(C:af)(cl:List (Str×af))(fp:List af),PTs (X.KR s H scope (lL scope cl C X.env) fp) ifs tt)
 (he:∀(s:ao)(H:Hp)(C:af)(cl:List (Str×af))(fp:List af),PE (X.KR s H scope (lL scope cl C X.env) fp) elt te) (hs:∀x,vS iter X.env x=pure x)
 (h:XY wi g tt te (own.map (·.2)) σ H Q)
 (hRR:∀D C s' m H',Inv X pins σ H' s'->Q (.ref D) H'->s'.heap.Ns C m->E7 X pins H' C->aop (model X.prog X.w) X.A X.xe use Qf (.ref D) C (.ok .next) s'):
 wpAny (model X.prog X.w) X.A (comprehension (.ListComp elt [⟨tg,iter,ifs,0⟩] scope pos) scope X.env pos' (newList []) false (eval iter X.env) use) Qf X.xe s:=by
 have Jy:∀y∈scope.names,y.2=.free->∃c,X.env.cells.lookup y.1=some c:=λy hy e=>by
  rcases ok.free y hy e with k|k;.show I.ok.has _ (.inl k)
  .show I.ok.has _ (.inr k)
 show wpAny_comprehension_free (use:=use) rfl hs (PU Jy) ok.kind (λy hy e=>by rw[ok.uniq y hy,e])
  (gQ (hi pins s σ H _ I h) λxv s1 hx=>gQ hx λitv s2 h2=>?_)
 rintro it fp tn J H2 e I2 T st2 f2 q:DL 9 fo h2;subst e;show wpAny_newObj_type (NY ?_) (by change 0<=sizeLine;decide);generalize hD:s2.heap.objs.size=D;have hDn:H2 D=none:=I2.eU.fresh (vZ hD);rintro W ⟨m0,w0⟩ turn:bM<|q D hDn;generalize hs3:({ s2 with heap:=s2.heap.push { cls:=.type "list",data:=.seq ([]:List ag).toArray } }:ao)=s3;have I3:Inv X pins σ (upd H2 D (.lst [])) s3:=by rw[<-hs3];show I2.laid (t':=s2.toks) (λb o e=>aC _ e) (vZ hD) #[iz,bV _,[],0,.nil,?_];rw[<-hD];show bq _ rfl
 have h3:s3.heap=s2.heap.push { cls:=.type "list",data:=.seq ([]:List ag).toArray }:=by rw[<-hs3]
 have sz:∀b∈fp,b<s2.heap.objs.size:=λb hb=>by
  rintro o e _:bM<|T.obj _ _ st2 b hb;show bf e
 have f3:∀b∈fp,E7 X pins (upd H2 D (.lst [])) b/\b<s3.heap.objs.size:=λb hb=>by
  have lr:=sz b hb;show⟨⟨?_,(f2 b hb).2⟩,by rw[h3,d7];show nc lr⟩;rw[aR (by rw[<-hD];show bw lr)];show (f2 b hb).1
 have st3:tn 0 s3.heap:=T.keep _ _ _ st2 λb _ o e=>by rw[h3];show aC _ e
 have I4:=M5 I3 ok hN f3;have pg:=hg s3 (upd H2 D (.lst [])) s3.heap.objs.size (eQ (s3.heap.objs.size+1) scope.names (gP X.env.cells scope.names [])) fp;have pt:=ht s3 (upd H2 D (.lst [])) s3.heap.objs.size (eQ (s3.heap.objs.size+1) scope.names (gP X.env.cells scope.names [])) fp;have pe:=he s3 (upd H2 D (.lst [])) s3.heap.objs.size (eQ (s3.heap.objs.size+1) scope.names (gP X.env.cells scope.names [])) fp;change vR _ _ (.compStart (.ListComp elt [⟨tg,iter,ifs,0⟩] scope pos) 0 (.ref it) (.ref D) (lL scope (eQ (s3.heap.objs.size+1) scope.names (gP X.env.cells scope.names [])) s3.heap.objs.size X.env)) (aop (model X.prog X.w) X.A X.xe use Qf (.ref D) s3.heap.objs.size) { s3 with heap:=sy (s3.heap.push { cls:=.type "dict",data:=.dict #[] }) scope.names };have nfp:∀b∈fp,(upd H2 D (.lst [])) b=none:=λb hb=>(f3 b hb).1.1;generalize hce:lL scope (eQ (s3.heap.objs.size+1) scope.names (gP X.env.cells scope.names [])) s3.heap.objs.size X.env=ce at I4 pg pt pe ⊢;have cL:ce.locals=s3.heap.objs.size:=by subst hce;rfl
 generalize hH3:upd H2 D (.lst [])=H3 at I3 I4 pg pt pe w0 nfp f3;generalize hs4:({ s3 with heap:=sy (s3.heap.push { cls:=.type "dict",data:=.dict #[] }) scope.names }:ao)=s4 at I4 ⊢;have st4:tn 0 s4.heap:=T.keep _ _ _ st3 λb _ o e=>by rw[<-hs4];show zq _ _ _ _ (aC _ e)
 have stat:∀{σ':St}{H':Hp}{s':ao},Inv (X.KR s3 H3 scope ce fp) [] σ' H' s'->(∀b∈fp,H' b=none)->∀b∈fp,E7 (X.KR s3 H3 scope ce fp) [] H' b:=λ{σ' H' s'}I' hn b hb=>#[ip,hn b hb,(I'.ok.exf b hb).1,I'.ok.VC b hb,.inl hb,λx c e=>(I'.ok.exf b hb).2 x c e,λp hp=>absurd (show p∈([]:List (af×iG))++[] from hp) (by simp)];have loop:vR (model X.prog X.w) X.A (.compLoop (.ListComp elt [⟨tg,iter,ifs,0⟩] scope pos) 0 (.ref it) (.ref D) ce) (aop (model X.prog X.w) X.A X.xe use Qf (.ref D) s3.heap.objs.size) s4:=by
  show KW (λn s'=>∃i H',Inv (X.KR s3 H3 scope ce fp) [] (ji σ (own.map (·.2))) H' s'/\tn i s'.heap/\(∀b∈fp,H' b=none)/\W i n H') ?_ m0 #[ib,0,H3,I4,st4,⟨nfp,w0⟩];rintro n s5 cG;rintro i H5 I5 st5 n5 w5:lA cG;rcases turn i n H5 w5 with⟨stop,qq⟩|⟨go,Nx,hNx,step⟩
  .have td:=T.done (X.KR s3 H3 scope ce fp) rfl rfl rfl hc i [] s5 _ H5 (λ_ _=>False) I5 (stat I5 n5) st5 stop;show Ud td λr s6 cG=>fo cG λhr I6=>?_;subst hr;have I7:Inv X pins σ H5 s6:=I3.aju (ch:=fp) I6.os I6.base I6.eU I6.bare λb hb=>#[ij,(f3 b hb).1.2.2.2.1,(f3 b hb).1.2.1,(f3 b hb).1.2.2.2.2.1,(f3 b hb).1.2.2.2.2.2];have nC:H5 s3.heap.objs.size=none:=by
    have z:H5 ce.locals=none:=I6.free;rw[cL] at z;show z
   rintro m hn _:bM I6.loc;have hn:s6.heap.Ns ce.locals m:=hn;rw[cL] at hn;show hRR D s3.heap.objs.size s6 m H5 I7 qq hn (I3.Tn (aA _) nC)
  .have ti:=T.item (X.KR s3 H3 scope ce fp) rfl rfl rfl hc i [] s5 _ H5 (λ_ _=>False) I5 (stat I5 n5) st5 go;show Ud ti λr s6 cG=>bM cG λu hr h6=>?_;subst hr;show Ud h6 λ_ s7 cG=>lA cG λx H7 I7 r7 y7 w'=>fo w' λst7 n7=>?_;have I7':=I7.pinned (stat I7 n7) (T.obj _ _ st7);show Ud (pg _ s7 _ H7 x u _ I7' r7 (step x H7 y7)) λ_ s8 cG=>fD cG λσ8 H8 I8 hw8 q8=>?_;show Ud (pt _ s8 σ8 H8 _ I8 q8) λb s9 cG=>bM cG λH9 I9 q9=>?_;have fin:∀{s':ao}{H':Hp},Inv (X.KR s3 H3 scope ce fp) ([]++Gx fp s7.heap) σ8 H' s'->Nx H'->∃m,m<n/\∃i H',Inv (X.KR s3 H3 scope ce fp) [] (ji σ (own.map (·.2))) H' s'/\tn i s'.heap/\(∀b∈fp,H' b=none)/\W i m H':=λ{s' H'}I' nx=>by
    rintro m' hm w':bM<|hNx H' nx;have am2:∀b∈fp,∀o,s7.heap.get? b=some o->s'.heap.get? b=some o/\H' b=none:=λb hb o e=>
     let z:=I'.pin (b,o) (cj _ (cj _ (z0 hb e)))
     ⟨z.1,z.2.1⟩
    have hl:(ji σ (own.map (·.2))).length=σ8.length:=by rw[<-hw8,x9]
    show #[ia,m',hm,#[ib,i+1,H',(I'.BI (pins:=[])).weak hl (λj v e=>?_),T.keep _ _ _ st7 λb hb o e=>(am2 b hb o e).1,⟨λb hb=>?_,w'⟩]];.rw[<-hw8] at e;show (Db e).1
    .rintro o e _:bM<|T.obj _ _ st7 b hb;show (am2 b hb o e).2
   cases b with
   |false=>simp only[fG,if_false] at q9 ⊢;show fin I9 q9
   |true=>simp only[if_true] at q9 ⊢;show Ud (pe _ s9 σ8 H9 _ I9 q9) λz s10 cG=>fD cG λyv Yh I10 r10 w'=>gF w' λacc ar2 avc nx=>?_;show acq (X:=X.KR s3 H3 scope ce fp) I10 ar2 avc r10 λs11 I11=>fin I11 nx
 show codeAny_compStart_list loop (T.self X.A 0 _ _ _ st4 loop)
def og{elt tg iter:Expr}{ifs:List Expr}{scope:jq}{own:List (Str×Nat)}{pos:km}{wi:TI}{g:TG}{tt:TT}{te:TE}(hc:X.calm=true)(hN:X.N.Nodup)(hi:PI X tg iter wi)(ok:MX X.N X.env.scope scope own)
 (hg:∀(s:ao)(H:Hp)(C:af)(cl:List (Str×af))(fp:List af),PG (X.KR s H scope (lL scope cl C X.env) fp) tg g) (ht:∀(s:ao)(H:Hp)(C:af)(cl:List (Str×af))(fp:List af),PTs (X.KR s H scope (lL scope cl C X.env) fp) ifs tt)
 (he:∀(s:ao)(H:Hp)(C:af)(cl:List (Str×af))(fp:List af),PE (X.KR s H scope (lL scope cl C X.env) fp) elt te) (hs:∀x,vS iter X.env x=pure x:=by intro _;rfl):
 PE X (.ListComp elt [⟨tg,iter,ifs,0⟩] scope pos) (XY wi g tt te (own.map (·.2))):=by
 intro pins s σ H Q I h;rw[eval_ListComp];show Sb hc hN I hi ok hg ht he hs h λD C s' m H' I' q hn f=>#[ia,m,hn,λh'' sb=>?_];rintro f0 f1 f2 f3 f4 f5:Iw f;show #[ib,.ref D,H',I'.turned (t':=s'.toks) (λb o hb e=>(sb.2 b hb).trans e) f0 f1 f3 f4 f5,rfl,q]
def Bg{i:Nat}{y:Str}{py:km}{elt tg iter:Expr}{ifs:List Expr}{scope:jq}{own:List (Str×Nat)}{pos aoe:km}{wi:TI}{g:TG}{tt:TT}{te:TE}(hc:X.calm=true)(hN:X.N.Nodup)(hy:X.N[i]? = some y)(hyl:X.env.scope.names.lookup y=some .local)
 (hsw:sD (.ListComp elt [⟨tg,iter,ifs,0⟩] scope pos) (some (.Name y py)) aoe.line X.env=pure true) (hi:PI X tg iter wi) (ok:MX X.N X.env.scope scope own)
 (hg:∀(s:ao)(H:Hp)(C:af)(cl:List (Str×af))(fp:List af),PG (X.KR s H scope (lL scope cl C X.env) fp) tg g) (ht:∀(s:ao)(H:Hp)(C:af)(cl:List (Str×af))(fp:List af),PTs (X.KR s H scope (lL scope cl C X.env) fp) ifs tt)
 (he:∀(s:ao)(H:Hp)(C:af)(cl:List (Str×af))(fp:List af),PE (X.KR s H scope (lL scope cl C X.env) fp) elt te) (hs:∀x,vS iter X.env x=pure x:=by intro _;rfl):
 PS X (.Assign [.Name y py] (.ListComp elt [⟨tg,iter,ifs,0⟩] scope pos) aoe) (OI (XY wi g tt te (own.map (·.2))) (qD i)):=by
 intro pins s σ H D I h;rw[exec_Assign_Name_used _ _ _ _ hsw];show wpAny_bind (RC (wpAny_bind ?_));change wpAny _ X.A (do let _ <-comprehension (.ListComp elt [⟨tg,iter,ifs,0⟩] scope pos) scope X.env (firstIterPos [⟨tg,iter,ifs,0⟩] pos) (newList []) false (eval iter X.env) (some (assign (.Name y py) X.env))) _ _ s;have h:XY wi g tt te (own.map (·.2)) σ H (λx H1=>qD i x σ H1 D.nx):=h;show wpAny_bind (gQ (Sb (Qf:=λ_ s'=>SP X pins D .next s') hc hN I hi ok hg ht he hs h λL C s' m H' I' q hn f=>?_) λ_ s' hq=>wpAny_pure (wpAny_pure hq));change wpAny _ _ (assign (.Name y py) X.env (.ref L)) _ _ _;show wpAny_assign_Name (JV (v:=V.ref L) I' hN hy (.inl hyl) rfl (λs2 I2 cG=>bM cG λa sb ha=>?_) (.inr hyl));rintro f0 f1 f2 f3 f4 f5:Iw f;have haC:C≠a:=by
  rcases ha with z|z;.rw[z];show f1
  .show λe=>f4 y a z e.symm
 show #[ia,m,hn.sameBut sb haC,λh3 sb3=>?_];show #[im,_,H',I2.turned (t':=s2.toks) (λb o hb e=>(sb3.2 b hb).trans e) f0 f1 f3 f4 f5,q]
def EY{elt:Expr}{gs:List Comprehension}{scope:jq}{pos py:km}{y:Str}{l:Nat}{env:Kb}(hk:env.scope.kind=.function)(hy:env.scope.names.lookup y=some .local)(hl:(py.line==pos.line)=true)
 (ha:(scope.names.any λ(n,k)=>n==y&&(k==.local||k==.cell))=false):sD (.ListComp elt gs scope pos) (some (.Name y py)) l env=pure true:=by
 have ky:env.kindOf y=some .local:=hy;have hb:env.blockKind=.function:=by unfold Env.blockKind;rw[hk];rfl
 unfold sD;simp only[hb,ky,ha,Expr.pos,hl];rfl
end
def Y9{K:ad}{a:af}{xs:List V}{g:TG}{tt:TT}{te:TE}{vs:List Nat}{σ:St}{H1:Hp}{D:af}{Qd:Hp->Prop}(Pv:Nat->Hp->Prop)(h0:Pv 0 (upd H1 D (.lst [])))(hl:∀i H,i<=xs.length->Pv i H->cf K H a xs)
 (hs:∀i x H,xs[i]? = some x->Pv i H->g x (ji σ vs) H λσ2 H2=>ji σ2 vs=ji σ vs/\tt σ2 H2 λb H3=>if b=true then te σ2 H3 λy H4=>∃acc,H4 D=some (.lst acc)/\acc.length<sizeLine/\Pv (i+1) (upd H4 D (.lst (acc++[y]))) else Pv (i+1) H3) (hd:∀H,Pv xs.length H->Qd H):
 ∃W:Nat->Nat->Hp->Prop,(∃m,W 0 m (upd H1 D (.lst [])))/\∀i m H,W i m H->
  ((XC K a).stop i H/\Qd H)\/((XC K a).go i H/\∃Nx:Hp->Prop,(∀H',Nx H'->∃m',m'<m/\W (i+1) m' H')/\∀x H',(XC K a).ZX i H x H'->g x (ji σ vs) H' λσ2 H2=>ji σ2 vs=ji σ vs/\tt σ2 H2 λb H3=>if b=true then te σ2 H3 λy H4=>∃acc,H4 D=some (.lst acc)/\acc.length<sizeLine/\Nx (upd H4 D (.lst (acc++[y]))) else Nx H3):=by
 show #[ia,λi m H=>m=xs.length - i/\i<=xs.length/\Pv i H,#[ie,xs.length,by simp,bV _,h0],?_];rintro i m H cG;rintro rfl hi p:lB cG;have q:=hl i H hi p;by_cases lr:i<xs.length;.show .inr #[io,#[im,xs,xs[i],q,by simp[lr]],Pv (i+1),λH' p'=>#[ie,xs.length - (i+1),by omega,rfl,⟨lr,p'⟩],λx H' y=>?_];rintro e y:fo y;subst e;show hs i x _ (y xs q) p
 .have e:i=xs.length:=by omega
  subst e;show .inl ⟨#[ia,xs,q,aA _],hd H p⟩
def ae9{K:ad}{a:af}{xs:List V}{g:TG}{tt:TT}{te:TE}{vs:List Nat}{σ:St}{H1:Hp}{D:af}{Qd:Hp->Prop}(Pv:Nat->Hp->Prop)(h0:Pv 0 (upd H1 D (.lst [])))(hl:∀i H,i<=xs.length->Pv i H->ox K H a xs)
 (hs:∀i x H,xs[i]? = some x->Pv i H->g x (ji σ vs) H λσ2 H2=>ji σ2 vs=ji σ vs/\tt σ2 H2 λb H3=>if b=true then te σ2 H3 λy H4=>∃acc,H4 D=some (.lst acc)/\acc.length<sizeLine/\Pv (i+1) (upd H4 D (.lst (acc++[y]))) else Pv (i+1) H3) (hd:∀H,Pv xs.length H->Qd H):
 ∃W:Nat->Nat->Hp->Prop,(∃m,W 0 m (upd H1 D (.lst [])))/\∀i m H,W i m H->
  ((Itt K a).stop i H/\Qd H)\/((Itt K a).go i H/\∃Nx:Hp->Prop,(∀H',Nx H'->∃m',m'<m/\W (i+1) m' H')/\∀x H',(Itt K a).ZX i H x H'->g x (ji σ vs) H' λσ2 H2=>ji σ2 vs=ji σ vs/\tt σ2 H2 λb H3=>if b=true then te σ2 H3 λy H4=>∃acc,H4 D=some (.lst acc)/\acc.length<sizeLine/\Nx (upd H4 D (.lst (acc++[y]))) else Nx H3):=by
 show #[ia,λi m H=>m=xs.length - i/\i<=xs.length/\Pv i H,#[ie,xs.length,by simp,bV _,h0],?_];rintro i m H cG;rintro rfl hi p:lB cG;have q:=hl i H hi p;by_cases lr:i<xs.length;.show .inr #[io,#[im,xs,xs[i],q,by simp[lr]],Pv (i+1),λH' p'=>#[ie,xs.length - (i+1),by omega,rfl,⟨lr,p'⟩],λx H' y=>?_];rintro e y:fo y;subst e;show hs i x _ (y xs q) p
 .have e:i=xs.length:=by omega
  subst e;show .inl ⟨#[ia,xs,q,aA _],hd H p⟩
def ajs(N:List Str)(sc scope:jq)(own:List (Str×Nat)):Bool:=
 (match scope.kind with|.function=>true|_=>false)&&(scope.names.all λy=>decide (scope.names.lookup y.1=some y.2))&&(own.all λp=>decide (N[p.2]? = some p.1))&&
  (scope.names.all λy=>match y.2 with
   |.free=>(match sc.names.lookup y.1 with|some .cell=>true|some .free=>true|_=>false)
   |.local=>decide (y.1∈own.map (·.1))||decide (y.1∉N)
   |.cell=>decide (y.1∈own.map (·.1))||decide (y.1∉N)
   |_=>true)
def fe{N:List Str}{sc scope:jq}{own:List (Str×Nat)}(h:ajs N sc scope own=true):MX N sc scope own:=by
 unfold ajs at h;simp only[ak,bB,decide_eq_true_eq] at h;rintro⟨⟨h1,h2⟩,h3⟩ h4:fo h;show⟨?_,h2,h3,λy hy e=>?_,λy hy e=>?_⟩
 .split at h1;.assumption
  .cases h1
 .have q:=h4 y hy;simp only[e] at q;split at q<;>first|show .inl (by assumption)|show .inr (by assumption)|cases q
 .have q:=h4 y hy;rcases e with e|e<;>(simp only[e,E1,decide_eq_true_eq] at q;show q)
end L2
namespace L2
open PySem PySem.Spec PyProof.Rows
section
variable{κ:Type}[DecidableEq κ]
def dy(aQ:List (κ×V))(k:κ):Option V:=(aQ.find? λkv=>decide (kv.1=k)).map (·.2)
def k_(aQ:List (κ×V))(k:κ)(v:V):List (κ×V):=
 if (aQ.any λkv=>decide (kv.1=k))=true then aQ.map (λkv=>if kv.1=k then (kv.1,v) else kv) else aQ++[(k,v)]
def i7{p:κ×V}{r:List (κ×V)}{k:κ}(e:p.1=k):dy (p::r) k=some p.2:=by simp[dy,jo,e]
def i6{p:κ×V}{r:List (κ×V)}{k:κ}(e:¬p.1=k):dy (p::r) k=dy r k:=by simp[dy,jo,e]
theorem mW(k:κ):∀aQ:List (κ×V),(aQ.any λkv=>decide (kv.1=k))=(dy aQ k).isSome
 |[]=>rfl
 |p::r=>by
  rw[iS];by_cases e:p.1=k;.simp only[i7 e,decide_eq_true e,Bool.true_or,pJ]
  .rw[i6 e,decide_eq_false e,Bool.false_or];show mW k r
theorem OT(k j:κ)(y:V):∀aQ:List (κ×V),dy (aQ.map λkv=>if kv.1=k then (kv.1,y) else kv) j=(dy aQ j).map λx=>if j=k then y else x
 |[]=>rfl
 |p::r=>by
  have ih:=OT k j y r;rw[bD];by_cases h:p.1=k
  .rw[if_pos h];by_cases e:p.1=j;.rw[i7 (p:=(p.1,y)) e,i7 e,j0,if_pos (e.symm.trans h)]
   .rw[i6 (p:=(p.1,y)) e,i6 e,ih]
  .rw[if_neg h];by_cases e:p.1=j;.rw[i7 (p:=p) e,i7 e,j0,if_neg (λz=>h (e.trans z))]
   .rw[i6 (p:=p) e,i6 e,ih]
theorem J0(k j:κ)(y:V):∀aQ:List (κ×V),dy aQ k=none->dy (aQ++[(k,y)]) j=if j=k then some y else dy aQ j
 |[],_=>by
  by_cases e:k=j;.rw[if_pos e.symm];show i7 (p:=(k,y)) e
  .rw[if_neg (λz=>e z.symm)];show i6 (p:=(k,y)) e
 |p::r,hn=>by
  rw[UX];have hk:¬p.1=k:=λz=>by rw[i7 z] at hn;cases hn
  rw[i6 hk] at hn;have ih:=J0 k j y r hn;by_cases e:p.1=j;.rw[i7 e,i7 e,if_neg (λz=>hk (e.trans z))]
  .rw[i6 e,i6 e,ih]
def kM(aQ:List (κ×V))(k j:κ)(y:V):dy (k_ aQ k y) j=if j=k then some y else dy aQ j:=by
 unfold k_;by_cases a:(aQ.any λkv=>decide (kv.1=k))=true
 .rw[if_pos a,OT];rw[mW] at a;by_cases e:j=k;.rintro x hx:bW<|Option.isSome_iff_exists.mp a;rw[if_pos e,e,hx,j0,if_pos rfl]
  .rw[if_neg e];cases dy aQ j with
   |none=>rfl
   |some x=>rw[j0,if_neg e]
 .rw[if_neg a];show J0 k j y aQ ?_;rw[mW] at a;cases q:dy aQ k with
  |none=>rfl
  |some x=>rw[q] at a;show (a rfl).elim
def jK(aQ:List (κ×V))(k:κ)(v:V):(k_ aQ k v).length<=aQ.length+1:=by
 unfold k_;split;.rw[ab];omega
 .rw[ap,aP,dg];omega
def WI{aQ:List (κ×V)}{k:κ}(v:V)(h:dy aQ k=none):k_ aQ k v=aQ++[(k,v)]:=by unfold k_;rw[mW,h];show if_neg (by decide)
def ud.s_{o:Option V}{u:Option ag}(r:ud o u):o.isSome=u.isSome:=by
 cases o with
 |none=>cases u with
  |none=>rfl
  |some _=>show (show False from r).elim
 |some _=>cases u with
  |none=>show (show False from r).elim
  |some _=>rfl
theorem ud.getD{o:Option V}{u:Option ag}{d:V}{d':ag}(r:ud o u)(rd:RelV d d'):RelV (o.getD d) (u.getD d'):=by
 cases o with
 |none=>cases u with
  |none=>show rd
  |some _=>show (show False from r).elim
 |some _=>cases u with
  |none=>show (show False from r).elim
  |some _=>show r
def KV.val{aQ:List (κ×V)}{vs:List (κ×ag)}(r:KV aQ vs)(k:κ):ud (dy aQ k) (BX vs k):=by
 unfold KV at r;induction r with
 |nil=>show eZ
 |@cons p q ps qs h t ih=>
  rintro h1 h2:fo h;by_cases e:p.1=k
  .have e':q.1=k:=h1.symm.trans e;have b:BX (q::qs) k=some q.2:=by simp[BX,jo,e']
   rw[i7 e,b];show h2
  .have e':¬q.1=k:=λz=>e (h1.trans z);have b:BX (q::qs) k=BX qs k:=by simp[BX,jo,e']
   rw[i6 e,b];show ih
theorem KV.any{aQ:List (κ×V)}{vs:List (κ×ag)}(r:KV aQ vs)(k:κ):(aQ.any λkv=>decide (kv.1=k))=vs.any λkv=>decide (kv.1=k):=by
 unfold KV at r;induction r with
 |nil=>rfl
 |cons h t ih=>rw[iS,iS,ih,h.1]
def KV.agj{aQ:List (κ×V)}{vs:List (κ×ag)}(r:KV aQ vs)(k:κ){y:V}{u:ag}(ry:RelV y u):
 KV (aQ.map λkv=>if kv.1=k then (kv.1,y) else kv) (vs.map λkv=>if kv.1=k then (kv.1,u) else kv):=by
 unfold KV at r ⊢;induction r with
 |nil=>show .nil
 |@cons p q ps qs h t ih=>
  rw[bD,bD];show .cons ?_ ih;rintro h1 h2:fo h;by_cases e:p.1=k;.rw[if_pos e,if_pos (h1.symm.trans e)];show⟨h1,ry⟩
  .rw[if_neg e,if_neg (λz=>e (h1.trans z))];show⟨h1,h2⟩
def KV.put{aQ:List (κ×V)}{vs:List (κ×ag)}(r:KV aQ vs)(k:κ){y:V}{u:ag}(ry:RelV y u):KV (k_ aQ k y) (stored vs k u):=by
 unfold k_ stored;rw[r.any k];by_cases e:(vs.any λkv=>decide (kv.1=k))=true;.rw[if_pos e,if_pos e];show r.agj k ry
 .rw[if_neg e,if_neg e];show Z6 r ⟨rfl,ry⟩
theorem KV.length{aQ:List (κ×V)}{vs:List (κ×ag)}(r:KV aQ vs):aQ.length=vs.length:=HE r
end
def yP{P:aS}{w:bL}{k:ez}{u:ag}(r:RelV (kV k) u):(d6 P w).is k u=true:=by
 cases k with
 |inl i=>rintro t e:bW<|(show ∃t,u=Dj i t from r);subst e;show DI P w i t
 |inr x=>rintro t e:bW<|(show ∃t,u=yr x t from r);subst e;show NV P w x t
theorem JD{P:aS}{w:bL}:∀{ks:List ez}{us:List ag},eV (ks.map kV) us->ItemsAre (d6 P w) ks us
 |[],_,r=>by rw[m_] at r;cases r;show .nil
 |k::ks,_,r=>by
  rw[bD] at r;cases r with
  |cons h t=>show .cons (yP h) (JD t)
abbrev KT(H:Hp):List (List ez×V)->List (List ez×af×ag)->Prop:=cg λp q=>p.1=q.1/\H q.2.1=some (.tup (p.1.map kV))/\RelV p.2 q.2.2
def KT.val{H:Hp}{aQ:List (List ez×V)}{xs:List (List ez×af×ag)}(r:KT H aQ xs)(k:List ez):ud (dy aQ k) ((O4 xs k).map (·.2)):=by
 induction r with
 |nil=>show eZ
 |@cons p q ps qs h t ih=>
  rintro h1 _ h2:lB h;by_cases e:p.1=k
  .have e':q.1=k:=h1.symm.trans e;have b:O4 (q::qs) k=some q.2:=by simp[O4,jo,e']
   rw[i7 e,b];show h2
  .have e':¬q.1=k:=λz=>e (h1.trans z);have b:O4 (q::qs) k=O4 qs k:=by simp[O4,jo,e']
   rw[i6 e,b];show ih
def KT.agj{H:Hp}{aQ:List (List ez×V)}{xs:List (List ez×af×ag)}(r:KT H aQ xs)(k:List ez){y:V}{u:ag}(ry:RelV y u):
 KT H (aQ.map λkv=>if kv.1=k then (kv.1,y) else kv) (xs.map (putAt k u)):=by
 induction r with
 |nil=>show .nil
 |@cons p q ps qs h t ih=>
  rw[bD,bD];show .cons ?_ ih;rintro h1 h2 h3:lB h;unfold putAt;by_cases e:p.1=k;.rw[if_pos e,if_pos (h1.symm.trans e)];show #[ic,h1,h2,ry]
  .rw[if_neg e,if_neg (λz=>e (h1.trans z))];show #[ic,h1,h2,h3]
def KT.put{H:Hp}{aQ:List (List ez×V)}{xs:List (List ez×af×ag)}(r:KT H aQ xs)(k:List ez){b:af}{y:V}{u:ag}(hb:H b=some (.tup (k.map kV)))(ry:RelV y u):
 KT H (k_ aQ k y) (storedH xs k b u):=by
 have e:(aQ.any λkv=>decide (kv.1=k))=(O4 xs k).isSome:=by rw[mW,(r.val k).s_,AC]
 unfold k_ storedH;rw[e];by_cases q:(O4 xs k).isSome=true;.rw[if_pos q,if_pos q];show r.agj k ry
 .rw[if_neg q,if_neg q];show Z6 r #[ic,rfl,hb,ry]
def KT.keeps{H H':Hp}{aQ:List (List ez×V)}{xs:List (List ez×af×ag)}(r:KT H aQ xs)(ht:∀b ys,H b=some (.tup ys)->H' b=some (.tup ys)):KT H' aQ xs:=
 Paired.afc r λ_ _ z=>#[ic,z.1,ht _ _ z.2.1,z.2.2]
section
variable{P:aS}{w:bL}{H:Hp}{h:cE}{a:af}
def abo{u:HO}(ok:vA P w H h)(e:Rd H a u):iY P w H h a u:=e.ok ok
def yJ{aQ:List (ez×V)}(ok:vA P w H h)(e:Rd H a (.dK aQ)):aQ.length<=sizeLine/\(a==jJ)=false/\∃vs,KV aQ vs/\h.DictOf (d6 P w) a vs:=
 show iY P w H h a (.dK aQ) from abo ok e
def RP{aQ:List (ez×V)}(ok:vA P w H h)(e:H a=some (.dK aQ)):aQ.length<=sizeLine/\(a==jJ)=false/\∃vs,KV aQ vs/\h.DictOf (d6 P w) a vs:=yJ ok (.inl e)
def zZ{ks:List ez}(ok:vA P w H h)(e:H a=some (.tup (ks.map kV))):(yc (d6 P w)).is h ks a:=by rintro _ its r o h1 h2 n h3:EQ 3 gF 3 bW<|(show iY P w H h a (.tup (ks.map kV)) from ok a _ e);show #[ii,o,its.toArray,n,h1,h2,⟨h3,by simpa using JD r⟩]
def AY{aQ:List (List ez×V)}(ok:vA P w H h)(e:Rd H a (.dT aQ)):aQ.length<=sizeLine/\(a==jJ)=false/\
 ∃xs,KT H aQ xs/\h.DictOfH (yc (d6 P w)) a xs:=by
 rintro z y xs r o es ep h1 h2 h3 h4 h5:vW 4 rD 5 lB<|(show iY P w H h a (.dT aQ) from abo ok e);show #[iA,z,y,xs,r,#[ii,o,es,ep,h1,h2,#[ij,h3,h4,λx hx=>?_,h5]]];have all:∀{l:List (List ez×V)}{m:List (List ez×af×ag)},KT H l m->∀x∈m,(yc (d6 P w)).is h x.1 x.2.1:=by
  intro l m q;induction q with
  |nil=>intro x hx;show nomatch hx
  |@cons p q ps qs hq t ih=>
   intro x hx;rcases aD.mp hx with e|hx
   .subst e;show zZ ok (by rw[<-hq.1];show hq.2.1)
   .show ih x hx
 show all r x hx
def ajx{aQ:List (List ez×V)}(ok:vA P w H h)(e:H a=some (.dT aQ)):aQ.length<=sizeLine/\(a==jJ)=false/\
 ∃xs,KT H aQ xs/\h.DictOfH (yc (d6 P w)) a xs:=AY ok (.inl e)
end
def na(H:Hp)(a:af)(y:V)(r:Option V):Prop:=
 (∃aQ k,Rd H a (.dK aQ)/\y=kV k/\r=dy aQ k)\/∃aQ k b,Rd H a (.dT aQ)/\y=.ref b/\H b=some (.tup (k.map kV))/\r=dy aQ k
def KA(H:Hp)(a:af)(y v:V)(H':Hp):Prop:=
 (∃aQ k,H a=some (.dK aQ)/\y=kV k/\aQ.length<sizeLine/\H'=upd H a (.dK (k_ aQ k v)))\/
 ∃aQ k b,H a=some (.dT aQ)/\y=.ref b/\H b=some (.tup (k.map kV))/\aQ.length<sizeLine/\H'=upd H a (.dT (k_ aQ k v))
theorem na.k{H:Hp}{a:af}{aQ:List (ez×V)}{k:ez}(e:H a=some (.dK aQ)):na H a (kV k) (dy aQ k):=.inl #[ib,aQ,k,.inl e,rfl,rfl]
def na.t{H:Hp}{a b:af}{aQ:List (List ez×V)}{k:List ez}(e:H a=some (.dT aQ))(eb:H b=some (.tup (k.map kV))):na H a (.ref b) (dy aQ k):=.inr #[ii,aQ,k,b,.inl e,rfl,⟨eb,rfl⟩]
theorem KA.k{H:Hp}{a:af}{aQ:List (ez×V)}{k:ez}{v:V}(e:H a=some (.dK aQ))(hl:aQ.length<sizeLine):KA H a (kV k) v (upd H a (.dK (k_ aQ k v))):=.inl #[ib,aQ,k,e,rfl,⟨hl,rfl⟩]
def KA.t{H:Hp}{a b:af}{aQ:List (List ez×V)}{k:List ez}{v:V}(e:H a=some (.dT aQ))(eb:H b=some (.tup (k.map kV)))(hl:aQ.length<sizeLine):
 KA H a (.ref b) v (upd H a (.dT (k_ aQ k v))):=.inr #[ii,aQ,k,b,e,rfl,#[ic,eb,hl,rfl]]
section
variable{X:Cx}{pins:List (af×iG)}{σ:St}{H:Hp}{s:ao}{a:af}{y v:V}{u r:ag}{o:Option V}{A:dD}{E:ag->ao->Prop}
def Inv.big(I:Inv X pins σ H s):jJ<s.heap.objs.size:=by have h:bS<s.heap.objs.size:=(I.mod.glob.keeps I.bk).lt;show qj (by decide) h
def Td{Q:ag->ao->Prop}(hu:A.units+1<ot)(I:Inv X pins σ H s)(g:na H a y (some v))(ry:RelV y u)(h:∀w' s',Inv X pins σ H s'->RelV v w'->Q w' s'):
 wpAny (model X.prog X.w) A (getItem (.ref a) u) Q E s:=by
 rcases g with⟨aQ,k,e,ey,l⟩|⟨aQ,k,b,e,ey,eb,l⟩;.subst ey;rintro z hd vs rel dd:vW<|yJ I.eU e;rintro w' hw Q0:bM<|ud.some_of (v:=v) (o:=BX vs k) (by rw[l];show rel.val k);show ahq (yP ry) dd.mapOf hw (h w' _ (I.tok _) Q0)
 .subst ey;cases (show u=bn b from ry);rintro z hd xs rel dd:vW<|AY I.eU e;rintro w' hw Q0:bM<|ud.some_of (v:=v) (o:=(O4 xs k).map (·.2)) (by rw[l];show rel.val k);rintro p hp jH:bM<|Option.map_eq_some_iff.mp hw;show wpAny_getItem_heap (ko hu) (zZ I.eU eb) dd hp ?_;rw[jH];show h w' _ (I.tok _) Q0
def arn{Q:ag->ao->Prop}(hu:A.units+1<ot)(I:Inv X pins σ H s)(g:na H a y o)(ry:RelV y u)(h:∀s',Inv X pins σ H s'->Q (.bool o.isSome) s'):
 wpAny (model X.prog X.w) A (compareOp .In u (.ref a)) Q E s:=by
 rcases g with⟨aQ,k,e,ey,l⟩|⟨aQ,k,b,e,ey,eb,l⟩;.subst ey;rintro z hd vs rel dd:vW<|yJ I.eU e;show wpAny_in_of (yP ry) hd dd.mapOf ?_;rw[<-(rel.val k).s_,<-l];show h _ (I.tok _)
 .subst ey;cases (show u=bn b from ry);rintro z hd xs rel dd:vW<|AY I.eU e;show wpAny_in_heap (ko hu) (zZ I.eU eb) hd dd ?_;have q:=(rel.val k).s_;rw[AC] at q;rw[<-q,<-l];show h _ (I.tok _)
def Yt{Q:ag->ao->Prop}(hu:A.units+1<ot)(I:Inv X pins σ H s)(g:na H a y o)(ry:RelV y u)(h:∀s',Inv X pins σ H s'->Q (.bool (!o.isSome)) s'):
 wpAny (model X.prog X.w) A (compareOp .NotIn u (.ref a)) Q E s:=by
 rcases g with⟨aQ,k,e,ey,l⟩|⟨aQ,k,b,e,ey,eb,l⟩;.subst ey;rintro z hd vs rel dd:vW<|yJ I.eU e;show wpAny_notIn_of (yP ry) hd dd.mapOf ?_;rw[<-(rel.val k).s_,<-l];show h _ (I.tok _)
 .subst ey;cases (show u=bn b from ry);rintro z hd xs rel dd:vW<|AY I.eU e;show wpAny_notIn_heap (ko hu) (zZ I.eU eb) hd dd ?_;have q:=(rel.val k).s_;rw[AC] at q;rw[<-q,<-l];show h _ (I.tok _)
def EI{h':cE}{t':Nat}{ob:HO}(I:Inv X pins σ H s)(mu:Mut (H a))(hs:BU a s.heap h')(he:∃q,h'.get? a=some q)(new:iY X.prog X.w (upd H a ob) h' a ob):
 Inv X pins σ (upd H a ob) { s with heap:=h',toks:=t' }:=
 I.write (x:=a) (e:=a) mu (.inl rfl) (λb q hb z=>(hs.2 b hb).trans z) he new
def KZ{P:aS}{w:bL}{H':Hp}{h':cE}{aQ:List (ez×V)}{vs:List (ez×ag)}(z:aQ.length<=sizeLine)(hd:(a==jJ)=false)(rel:KV aQ vs)(dd:h'.DictOf (d6 P w) a vs):
 iY P w H' h' a (.dK aQ):=#[iA,z,hd,vs,rel,dd]
def Te{H':Hp}{Q:Unit->ao->Prop}(hu:A.units+1<ot)(I:Inv X pins σ H s)(g:KA H a y v H')(ry:RelV y u)(rv:RelV v r)(h:∀s',Inv X pins σ H' s'->Q () s'):
 wpAny (model X.prog X.w) A (setItem (.ref a) u r) Q E s:=by
 rcases g with⟨aQ,k,e,ey,l,eH⟩|⟨aQ,k,b,e,ey,eb,l,eH⟩
 .subst ey eH;rintro z hd vs rel dd:vW<|RP I.eU e;have hz:vs.length<=sizeLine:=by rw[<-rel.length];show z
  have hl:(k_ aQ k v).length<=sizeLine:=by have:=jK aQ k v;omega
  show wpAny_setItem_pairs (hsz:=hz) (yP ry) dd λh' UG hs=>h _ ?_;have he:∃q,h'.get? a=some q:=N2 UG λq _ _ hq _=>⟨q,hq⟩;show EI I (by rw[e];show eZ) hs he (KZ hl hd (rel.put k rv) UG)
 .subst ey eH;cases (show u=bn b from ry);rintro z hd xs rel dd:vW<|ajx I.eU e;have hz:xs.length<=sizeLine:=by rw[<-HE rel];show z
  have hl:(k_ aQ k v).length<=sizeLine:=by have:=jK aQ k v;omega
  show wpAny_setItem_heap (hsz:=hz) (ko hu) (zZ I.eU eb) dd λh' UG hs=>h _ ?_;rintro q es ep hq h2 h3 h4 _ h5:rD 5 Cz UG;show EI I (by rw[e];show eZ) hs ⟨q,hq⟩ #[iA,hl,hd,_,(rel.put k eb rv).keeps λc ys ec=>?_,#[ii,q,es,ep,hq,h2,#[ic,h3,h4,h5]]];rw[aR (DJ ec e (λz=>nomatch z))];show ec
end
section
variable{X:Cx}{pins:List (af×iG)}{σ:St}{H:Hp}{s:ao}{a:af}{aQ:List (ez×V)}{k:ez}{u:ag}{A:dD}{E:ag->ao->Prop}
def ajv{Q:ag->ao->Prop}(I:Inv X pins σ H s)(e:Rd H a (.dK aQ))(h:∀t s',Inv X pins σ H s'->Q (.int aQ.length t) s'):wpAny (model X.prog X.w) A (call (.builtin "len") [.ref a]) Q E s:=by rintro z hd vs rel dd:vW<|yJ I.eU e;show call_len_dict hd dd (by rw[<-rel.length];rw[fV] at z;omega) ?_;rw[<-rel.length];show h _ _ (I.tok _)
end
def acn(i:Expr):Prop:=∀ov iv,Kg i false ov iv=operate [ov,iv] (getItem ov iv)
def SM{prog:aS}{w:bL}{A:dD}{E:ag->ao->Prop}{s:ao}{env:Kb}{value slice:Expr}{pos:km}{T id:String}{Q:ag->ao->Prop}
 (hl:Z9 (.type T) "__getitem__"=pure (some (.builtin id))) (hs:acn slice)
 (h:wpAny (model prog w) A (eval value env) (λo s₁=>wpAny (model prog w) A (eval slice env) (λi s₂=>s₂.TypeIs o T/\wpAny (model prog w) A (getItem o i) Q E s₂) E s₁) E s):
 wpAny (model prog w) A (eval (.Subscript value slice pos) env) Q E s:=by
 show Z3 (gp h (λo s₁ h₁=>gp h₁ (λi s₂ h₂=>?_) λ_ _ x=>x) λ_ _ x=>x);rintro hT h₂:fo h₂;unfold subscriptTail;show wpAny_bind ?_;rw[getitemInPython_of_ne hT.not_modules];show wpAny_bind (wpAny_specialOf hT hl ?_);have fin:wpAny (model prog w) A (Kg slice false o i) (λr s₃=>wpAny (model prog w) A (letTemporaryGo value o r >>= λ_=>pure r) Q E s₃) E s₂:=by rw[hs o i];show wpAny_operating (gp h₂ (λr s₃ h₃=>wpAny_bind (wpAny_letTemporaryGo (wpAny_pure h₃))) λ_ _ x=>x)
 first
  |show wpAny_pure (wpAny_bind fin)
  |show wpAny_bind (wpAny_pure (wpAny_bind fin))
  |show wpAny_bind fin
def Nq{X:Cx}{pins:List (af×iG)}{σ:St}{H:Hp}{s:ao}{a:af}{y:V}{o:Option V}(I:Inv X pins σ H s)(g:na H a y o):s.TypeIs (.ref a) "dict":=by
 rcases g with⟨aQ,k,e,_,_⟩|⟨aQ,k,b,e,_,_,_⟩;.rintro _ _ vs _ dd:vW<|yJ I.eU e;show dd.typeIs
 .rintro _ _ xs _ dd:vW<|AY I.eU e;show dd.typeIs
def Xb(td ty:TE):TE:=λσ H Q=>td σ H λx H1=>ty σ H1 λy H2=>∃a v,x=.ref a/\na H2 a y (some v)/\Q v H2
def agv(ty td:TE):TE:=λσ H Q=>ty σ H λy H1=>td σ H1 λx H2=>∃a o,x=.ref a/\na H2 a y o/\Q (.bl o.isSome) H2
def Mm(ty td:TE):TE:=λσ H Q=>ty σ H λy H1=>td σ H1 λx H2=>∃a o,x=.ref a/\na H2 a y o/\Q (.bl (!o.isSome)) H2
def SF(td ty tv:TE):TS:=λD σ H=>tv σ H λv H1=>td σ H1 λx H2=>ty σ H2 λy H3=>∃a H4,x=.ref a/\KA H3 a y v H4/\D.nx σ H4
section
variable{X:Cx}{o i e value:Expr}{pos pos' Xk:km}{td ty tv:TE}
def uO(hu:X.A.units+1<ot)(ho:PE X o td)(hi:PE X i ty)(hs:acn i):PE X (.Subscript o i pos) (Xb td ty):=by intro pins s σ H Q I h;show SM E2.lookup hs (gQ (ho pins s σ H _ I h) λu s1 cG=>fD cG λx H1 I1 rx q1=>gQ (hi pins s1 σ H1 _ I1 q1) λiv s2 cG=>fD cG λy H2 I2 ry w'=>fD w' λa v ex g q2=>?_);subst ex;obtain rfl:u=bn a:=rx;show⟨Nq I2 g,Td hu I2 g ry λw' s3 I3 Q0=>#[ib,v,H2,I3,Q0,q2]⟩
def afr(hu:X.A.units+1<ot)(hi:PE X i ty)(ho:PE X o td):PC X .In i o (agv ty td):=by intro pins s σ H Q I h;show gQ (hi pins s σ H _ I h) λiv s1 cG=>fD cG λy H1 I1 ry q1=>gQ (ho pins s1 σ H1 _ I1 q1) λu s2 cG=>fD cG λx H2 I2 rx w'=>fD w' λa ov ex g q2=>?_;subst ex;obtain rfl:u=bn a:=rx;show arn hu I2 g ry λs3 I3=>#[ib,.bl ov.isSome,H2,I3,rfl,q2]
def CH(hu:X.A.units+1<ot)(hi:PE X i ty)(ho:PE X o td):PC X .NotIn i o (Mm ty td):=by intro pins s σ H Q I h;show gQ (hi pins s σ H _ I h) λiv s1 cG=>fD cG λy H1 I1 ry q1=>gQ (ho pins s1 σ H1 _ I1 q1) λu s2 cG=>fD cG λx H2 I2 rx w'=>fD w' λa ov ex g q2=>?_;subst ex;obtain rfl:u=bn a:=rx;show Yt hu I2 g ry λs3 I3=>#[ib,.bl (!ov.isSome),H2,I3,rfl,q2]
def yj(hu:X.A.units+1<ot)(ho:PE X o td)(hi:PE X i ty)(hv:PE X value tv)(hs:sD value (some (.Subscript o i pos')) pos.line X.env=pure false):
 PS X (.Assign [.Subscript o i pos'] value pos) (SF td ty tv):=by
 intro pins s σ H D I h;show wpAny_Assign_Subscript (gQ (hv pins s σ H _ I h) λr s1 cG=>fD cG λv H1 I1 rv q1=>gQ (ho pins s1 σ H1 _ I1 q1) λu s2 cG=>fD cG λx H2 I2 rx q2=>gQ (hi pins s2 σ H2 _ I2 q2) λiv s3 cG=>fD cG λy H3 I3 ry w'=>fD w' λa H4 ex g q3=>?_) hs;subst ex;obtain rfl:u=bn a:=rx;show Te hu I3 g ry rv λs4 I4=>#[im,σ,H4,I4,q3]
end
def Nr{P:aS}{w:bL}{H:Hp}(h:cE)(hb:jJ<h.objs.size):iY P w H (h.push { cls:=.type "dict",data:=.dict #[] }) h.objs.size (.dK []):=
 #[iA,bV _,beq_eq_false_iff_ne.mpr (cA (bw hb)),[],.nil,MJ h]
def VB{P:aS}{w:bL}{H:Hp}(h:cE)(hb:jJ<h.objs.size):iY P w H (h.push { cls:=.type "dict",data:=.dict #[] }) h.objs.size (.dT []):=
 #[iA,bV _,beq_eq_false_iff_ne.mpr (cA (bw hb)),[],.nil,#[ii,_,#[],0,bq _ rfl,#[ic,rfl,rfl,rfl],#[ic,rfl,rfl,X5]]]
def Xd:TE:=λ_ H Q=>∀p,H p=none->Q (.ref p) (upd H p (.dK []))
def Xe:TE:=λ_ H Q=>∀p,H p=none->Q (.ref p) (upd H p (.dT []))
section
variable{X:Cx}{pos:km}
def Oh:PE X (.Dict [] [] pos) Xd:=λpins s σ H Q I h=>aho #[ib,.ref s.heap.objs.size,_,I.laid (a:=s.heap.objs.size) (o:=.dK []) (t':=s.toks) (λ_ _ q=>aC _ q) (aA _) (Nr s.heap I.big),rfl,h _ (I.eU.fresh (aA _))]
def Bd:PE X (.Dict [] [] pos) Xe:=λpins s σ H Q I h=>aho #[ib,.ref s.heap.objs.size,_,I.laid (a:=s.heap.objs.size) (o:=.dT []) (t':=s.toks) (λ_ _ q=>aC _ q) (aA _) (VB s.heap I.big),rfl,h _ (I.eU.fresh (aA _))]
end
def Rf:List (TE×TE)->St->Hp->(List (V×V)->Hp->Prop)->Prop
 |[],_,H,Q=>Q [] H
 |(tk,tv)::r,σ,H,Q=>tk σ H λx H1=>tv σ H1 λy H2=>Rf r σ H2 λps H3=>Q ((x,y)::ps) H3
abbrev VV:List (V×V)->List (ag×ag)->Prop:=cg λp q=>RelV p.1 q.1/\RelV p.2 q.2
def PPs(X:Cx)(pos:km)(keys:List (Option Expr))(values:List Expr)(ZU:List (TE×TE)):Prop:=
 ∀(pins:List (af×iG))(s:ao)(σ:St)(H:Hp)(Q:List (V×V)->Hp->Prop),Inv X pins σ H s->Rf ZU σ H Q->
  wpAny (model X.prog X.w) X.A (evalPairs (pairTrees keys values X.env pos)) (λvs s'=>∃ps H',Inv X pins σ H' s'/\VV ps vs/\Q ps H') X.xe s
def Sr{X:Cx}{pos:km}:PPs X pos [] [] []:=λpins s σ H Q I h=>pairTrees_nil_walk #[ib,[],H,I,.nil,h]
def Oo{X:Cx}{pos:km}{k v:Expr}{ks:List (Option Expr)}{vs:List Expr}{tk tv:TE}{ZU:List (TE×TE)}(hk:PE X k tk)(hv:PE X v tv)(hr:PPs X pos ks vs ZU):
 PPs X pos (some k::ks) (v::vs) ((tk,tv)::ZU):=λpins s σ H Q I h=>
 pairTrees_cons_walk (gQ (hk pins s σ H _ I h) λu s1 cG=>fD cG λx H1 I1 rx q1=>gQ (hv pins s1 σ H1 _ I1 q1) λw2 s2 cG=>fD cG λy H2 I2 ry q2=>gQ (hr pins s2 σ H2 _ I2 q2) λws s3 cG=>fD cG λps H3 I3 rel q3=>#[ib,(x,y)::ps,H3,I3,.cons ⟨rx,ry⟩ rel,q3])
def i0(aQ more:List (ez×V)):List (ez×V):=more.foldl (λacc kv=>k_ acc kv.1 kv.2) aQ
def KV.merge:∀{more:List (ez×V)}{rs:List (ez×ag)}{aQ:List (ez×V)}{vs:List (ez×ag)},KV more rs->KV aQ vs->KV (i0 aQ more) (merged vs rs):=by
 intro more rs aQ vs r;unfold KV at r;induction r generalizing aQ vs with
 |nil=>intro q;show q
 |@cons p q ps qs h t ih=>
  intro r0;have e:KV (k_ aQ p.1 p.2) (stored vs q.1 q.2):=by have:=r0.put p.1 h.2;rw[<-h.1];show this
  show ih e
theorem lG:∀(more aQ:List (ez×V)),(i0 aQ more).length<=aQ.length+more.length
 |[],aQ=>by change aQ.length<=aQ.length+0;omega
 |p::r,aQ=>by
  have h1:=lG r (k_ aQ p.1 p.2);have h2:=jK aQ p.1 p.2;change (i0 (k_ aQ p.1 p.2) r).length<=_;rw[aP];omega
theorem Fm{P:aS}{w:bL}:∀{aQ:List (ez×V)}{ws:List (ag×ag)},VV (aQ.map λkv=>(kV kv.1,kv.2)) ws->∃rs,Carries (d6 P w) ws rs/\KV aQ rs
 |[],_,r=>by rw[m_] at r;cases r;show #[ia,[],eZ,.nil]
 |p::aQ,_,r=>by
  rw[bD] at r;cases r with
  |@cons a b as bs h t=>rintro rs c q:bM<|Fm (P:=P) (w:=w) t;obtain⟨b1,b2⟩:=b;show #[ia,(p.1,b2)::rs,#[ic,yP h.1,rfl,c],.cons ⟨rfl,h.2⟩ q]
def abq(ZU:List (TE×TE)):TE:=λσ H Q=>∀p,H p=none->Rf ZU σ (upd H p (.dK [])) λps H2=>H2 p=some (.dK [])/\∃aQ:List (ez×V),ps=aQ.map (λkv=>(kV kv.1,kv.2))/\aQ.length<=15/\Q (.ref p) (upd H2 p (.dK (i0 [] aQ)))
def Sl{X:Cx}{pos:km}{keys:List (Option Expr)}{values:List Expr}{ZU:List (TE×TE)}(h:PPs X pos keys values ZU)(nG:keys.all (·.isSome)=true)(hl:keys.length=values.length)(h0:keys≠[])
 (h15:keys.length<=15):PE X (.Dict keys values pos) (abq ZU):=by
 intro pins s σ H Q I q;have hn:=I.eU.fresh (aA s.heap.objs.size);have I1:=I.laid (a:=s.heap.objs.size) (o:=.dK []) (h':=s.heap.push { cls:=.type "dict",data:=.dict #[] }) (t':=s.toks) (λ_ _ q=>aC _ q) (aA _) (Nr s.heap I.big);show wpAny_Dict_walk (knd:=d6 X.prog X.w) nG hl h0 h15 (gQ (h pins _ σ _ _ I1 (q _ hn)) λws s2 cG=>lA cG λps H2 I2 rel e w'=>gF w' λaQ ep lk q2=>?_);subst ep;rintro rs c rk:bM<|Fm (P:=X.prog) (w:=X.w) rel
 rintro z hd vs0 r0 dd:vW<|RP I2.eU e;cases r0;show #[ie,rs,c,dd,λh' UG hs=>#[ib,.ref s.heap.objs.size,_,?_,rfl,q2]];have hz:(i0 [] aQ).length<=sizeLine:=by have h1:=lG aQ [];rw[dg] at h1;rw[fV];omega
 have he:∃q,h'.get? s.heap.objs.size=some q:=N2 UG λq _ _ hq _=>⟨q,hq⟩;show EI I2 (by rw[e];show eZ) hs he (KZ hz hd (rk.merge .nil) UG)
structure M1(X:Cx)(o:Expr)(m:Str)(apos:km)(e:Expr)(oB:km):Prop where
 base:attributeBase o m X.env (eval o X.env)=eval o X.env
 few:((iU oB (bi [e] X.env)).all (λx=>!x.1)&&(tS oB (lM [] X.env)).all (λx=>x.1.isSome)
  &&decide (([e]:List Expr).length+([]:List vP).length+(if ([]:List vP).isEmpty then 0 else 1)<30))=true
 line:(apos.endLine==oB.line)=true
 trees:iU oB (bi [e] X.env)=[(false,eval e X.env)]
structure M2(X:Cx)(o:Expr)(m:Str)(apos:km)(e f:Expr)(oB:km):Prop where
 base:attributeBase o m X.env (eval o X.env)=eval o X.env
 few:((iU oB (bi [e,f] X.env)).all (λx=>!x.1)&&(tS oB (lM [] X.env)).all (λx=>x.1.isSome)
  &&decide (([e,f]:List Expr).length+([]:List vP).length+(if ([]:List vP).isEmpty then 0 else 1)<30))=true
 line:(apos.endLine==oB.line)=true
 trees:iU oB (bi [e,f] X.env)=[(false,eval e X.env),(false,eval f X.env)]
def U8(H:Hp)(a:af):Prop:=(∃aQ,Rd H a (.dK aQ))\/∃aQ,Rd H a (.dT aQ)
def Qi{X:Cx}{pins:List (af×iG)}{σ:St}{H:Hp}{s:ao}{a:af}(I:Inv X pins σ H s)(d:U8 H a):
 s.TypeIs (.ref a) "dict"/\(∀b,bn a=.ref b->∃ob,s.heap.get? b=some ob/\ob.dict=none)/\(a==jJ)=false:=by
 rcases d with⟨aQ,e⟩|⟨aQ,e⟩;.rintro _ hd vs _ dd:vW<|yJ I.eU e;show #[ic,dd.typeIs,λb q=>?_,hd];cases q;rintro ob _ _ h1 h2 _:rD dd;show #[ia,ob,h1,h2.2.1]
 .rintro _ hd xs _ dd:vW<|AY I.eU e;show #[ic,dd.typeIs,λb q=>?_,hd];cases q;rintro ob _ _ h1 h2 _:rD dd;show #[ia,ob,h1,h2.2.1]
section
variable{X:Cx}{pins:List (af×iG)}{σ:St}{H:Hp}{s:ao}{a:af}{y d:V}{u r:ag}{o:Option V}{A:dD}{E:ag->ao->Prop}
def ac2{Q:ag->ao->Prop}(hu:A.units+1<ot)(I:Inv X pins σ H s)(g:na H a y o)(ry:RelV y u)(h:∀w' s',Inv X pins σ H s'->RelV (o.getD .non) w'->Q w' s'):
 wpAny (model X.prog X.w) A (call (.builtin "dict.get") [.ref a,u]) Q E s:=by
 rcases g with⟨aQ,k,e,ey,l⟩|⟨aQ,k,b,e,ey,eb,l⟩;.subst ey;rintro z hd vs rel dd:vW<|yJ I.eU e;show ou iX dd.typeIs my (HB _ _) (meets_dict_get (d6 X.prog X.w) a (yP ry) hd) #[ia,_,dd.mapOf,h _ _ (I.tok _) ?_];rw[l];show (rel.val k).getD rfl
 .subst ey;cases (show u=bn b from ry);rintro z hd xs rel dd:vW<|AY I.eU e;show ou iX dd.typeIs my (HB _ _) (meetsH_dict_get (yc (d6 X.prog X.w)) a b hd) #[iz,ko hu,k,xs,zZ I.eU eb,⟨dd,h _ _ (I.tok _) ?_⟩];rw[l];show (rel.val k).getD rfl
def ac3{Q:ag->ao->Prop}(hu:A.units+1<ot)(I:Inv X pins σ H s)(g:na H a y o)(ry:RelV y u)(rd:RelV d r)(h:∀w' s',Inv X pins σ H s'->RelV (o.getD d) w'->Q w' s'):
 wpAny (model X.prog X.w) A (call (.builtin "dict.get") [.ref a,u,r]) Q E s:=by
 rcases g with⟨aQ,k,e,ey,l⟩|⟨aQ,k,b,e,ey,eb,l⟩;.subst ey;rintro z hd vs rel dd:vW<|yJ I.eU e;show ou iX dd.typeIs my (HC _ _ _) (meets_dict_get_default (d6 X.prog X.w) a (yP ry) hd r) #[ia,_,dd.mapOf,h _ _ (I.tok _) ?_];rw[l];show (rel.val k).getD rd
 .subst ey;cases (show u=bn b from ry);rintro z hd xs rel dd:vW<|AY I.eU e;show ou iX dd.typeIs my (HC _ _ _) (meetsH_dict_get_default (yc (d6 X.prog X.w)) a b hd r) #[iz,ko hu,k,xs,zZ I.eU eb,⟨dd,h _ _ (I.tok _) ?_⟩];rw[l];show (rel.val k).getD rd
end
def Rc(td ty:TE):TE:=λσ H Q=>td σ H λx H1=>∃a,x=.ref a/\U8 H1 a/\ty σ H1 λy H2=>∃o,na H2 a y o/\Q (o.getD .non) H2
def Re(td ty tx:TE):TE:=λσ H Q=>td σ H λx H1=>∃a,x=.ref a/\U8 H1 a/\ty σ H1 λy H2=>tx σ H2 λz H3=>∃o,na H3 a y o/\Q (o.getD z) H3
section
variable{X:Cx}{o e f:Expr}{apos oB:km}{td ty tx:TE}
def pW(hu:X.A.units+1<ot)(ho:PE X o td)(he:PE X e ty)(m:M1 X o "get" apos e oB):PE X (.Call (.Attribute o "get" apos) [e] [] oB) (Rc td ty):=by
 intro pins s σ H Q I h;show Hs m.base m.few m.line sh iX Kc (gQ (ho pins s σ H _ I h) λu s1 cG=>fD cG λx H1 I1 rx w'=>gF w' λa ex d q1=>?_);subst ex;obtain rfl:u=bn a:=rx;rintro t1 t2 _:lB<|Qi I1 d
 show #[ic,t1,t2,?_];rw[m.trees];show iJ rfl (kO (jX (gQ (he pins s1 σ H1 _ I1 q1) λiv s2 cG=>fD cG λy H2 I2 ry w'=>bM w' λov g q2=>mX ?_)));show ac2 hu I2 g ry λw' s3 I3 Q0=>#[ib,_,H2,I3,Q0,q2]
def Gr(hu:X.A.units+1<ot)(ho:PE X o td)(he:PE X e ty)(hf:PE X f tx)(m:M2 X o "get" apos e f oB):PE X (.Call (.Attribute o "get" apos) [e,f] [] oB) (Re td ty tx):=by
 intro pins s σ H Q I h;show Hs m.base m.few m.line sh iX Kc (gQ (ho pins s σ H _ I h) λu s1 cG=>fD cG λx H1 I1 rx w'=>gF w' λa ex d q1=>?_);subst ex;obtain rfl:u=bn a:=rx;rintro t1 t2 _:lB<|Qi I1 d
 show #[ic,t1,t2,?_];rw[m.trees];show iJ rfl (kO (jX (gQ (he pins s1 σ H1 _ I1 q1) λiv s2 cG=>fD cG λy H2 I2 ry q2=>jX (gQ (hf pins s2 σ H2 _ I2 q2) λfv s3 cG=>fD cG λz H3 I3 rz w'=>bM w' λov g q3=>mX ?_))));show ac3 hu I3 g ry rz λw' s4 I4 Q0=>#[ib,_,H3,I4,Q0,q3]
end
section
variable{X:Cx}{pins:List (af×iG)}{σ:St}{H:Hp}{s:ao}{a:af}{aQ:List (ez×V)}{A:dD}{E:ag->ao->Prop}
def Vu{Q:ag->ao->Prop}(I:Inv X pins σ H s)(e:Rd H a (.dK aQ))(h:∀p s',H p=none->Inv X pins σ (upd H p (.dK aQ)) s'->Q (.ref p) s'):wpAny (model X.prog X.w) A (call (.type "dict") [.ref a]) Q E s:=by rintro z hd vs rel dd:vW<|yJ I.eU e;show kt_call_dict hd dd (by rw[<-rel.length];show z) λh' UG hs=>?_;show h _ _ (I.eU.fresh (aA _)) (I.laid (a:=s.heap.objs.size) (o:=.dK aQ) (t':=s.toks) (λb q hq=>?_) (aA _) (KZ z (beq_eq_false_iff_ne.mpr (cA (bw I.big))) rel UG));show (hs.2 b (bw (bf hq))).trans (aC _ hq)
end
end L2
namespace L2
open PySem PySem.Spec PyProof.Rows
def F_:Z9 (.type "list") "keys"=pure none:=am_miss_of_fast (by first|decide +kernel|rfl)
def OQ:entryFor table "dict.update.loop"=some Builtin.«dict.update.loop»:=entryFor_of_tree (by kernel_rfl)
def x5:plainId "dict.update.loop"=true:=by decide +kernel
section
variable{prog:aS}{w:bL}{A:dD}{E:ag->ao->Prop}
def T0{s:ao}{a:af}{o:iG}{xs:Array ag}{k:Nat}{Q:Option ag->ao->Prop}(hx:s.heap.get? a=some o)(hc:o.cls=.type "list")(Le:o.data=.seq xs k)(hd:o.dict=none)(hA:A.handled=none)
 (h:∀h' tk,(∀b ob,s.heap.get? b=some ob->h'.get? b=some ob)->Q none { s with heap:=h',toks:=tk }):wpAny (model prog w) A (getAttr? (.ref a) "keys") Q E s:=by
 obtain⟨c,dct,dat,sl⟩:=o;simp only at hc Le hd;subst hc Le hd;obtain⟨hp,g,d,tk,os⟩:=s;have hT:∀tk',(⟨hp,g,d,tk',os⟩:ao).TypeIs (.ref a) "list":=λ_=>#[ia,_,hx,rfl];have ali:=F_;have alk:(["__module__","__name__","__qualname__","__doc__","__annotations__"]:List Str).contains "keys"=false:=by decide +kernel
 have hsz:("keys":Str).length+100<=sizeLine:=by first|size_fits|decide +kernel
 have f1:=sub_AttributeError;have f3:=nh.lookup;have f4:=nh.bind (.ref a);have f5:=am_list_getattr_none;unfold getAttr? getAttrBy? getAttrBy;repeat (any_goals (first|assumption|show hT _|((with_reducible change wpAny _ _ (call (Value.builtin "list.__getattribute__") _ _) _ _ _);show yF nh (hT _) am_entry_list_getattribute (PySem.F.args_list_getattribute_2 _ _) (meets_getattribute_miss_list a xs k sl "keys" _ ali alk hsz) #[ic,hx,hA,λh' tk' e hx'=>?_])|wp_step))
 rintro t' u' he:UT hx'.there;change wpAny _ _ (Z8 _ _ _ _ _ _ _) _ _ _;unfold Z8;repeat (any_goals (first|assumption|wp_step))
 all_goals first|show h _ _ hx'.keeps|(dsimp only;repeat (any_goals (first|assumption|show h _ _ hx'.keeps|wp_step)))
theorem OR{R:Z7->ao->Prop}{S I l:af}{items:Array ag}{res:ag}(hh:A.handled=none)(hlI:l≠I)(hSI:S≠I)(hSl:S≠l):
 ∀(rest:List (ez×ag))(i:Nat)(acc:List (ez×ag))(ix:Int)(t:X7)(s:ao),items.size=i+rest.length->acc.length+rest.length<=sizeLine->
  (∀(j:Nat)(q:ez×ag),rest[j]? = some q->∃(b:af)(u:ag),items[i+j]? = some (.ref b)/\b≠S/\b≠I/\ab4 s.heap b #[u,q.2]/\A9 q.1 u=true)->
  s.heap.IsListIter I l i->s.heap.IsList l items->s.heap.DictOf (d6 prog w) S acc->
  (∀h' tk,h'.DictOf (d6 prog w) S (merged acc rest)->(∀b o,b≠S->b≠I->s.heap.get? b=some o->h'.get? b=some o)->R (.ok (.ret res)) { s with heap:=h',toks:=tk })->
  vR (model prog w) A (.builtin "dict.update.loop" ⟨[.ref S,.ref I,.int ix t,res],[]⟩) R s
 |[],i,acc,ix,t,s,hsz,hln,ht,hit,hl,hm,hR=>by
  show codeAny_builtin OQ ?_;rw[nY x5 _];change wpAny _ A.in1 (pyNext (.ref I) >>= _) _ _ s;show wpAny_bind (U4 (A:=A.in1) hh hit hl (by first|show Mt (vZ hsz)|(simp at hsz;simp;omega)) λh' he=>?_);change wpAny _ A.in1 (ai0 S [] >>= _) _ _ _;show wpAny_bind (wpAny_pure (wpAny_pure ?_));show hR h' s.toks (hm.extBut he hSI) λb o _ hb e=>he b o hb e
 |q::rest,i,acc,ix,t,s,hsz,hln,ht,hit,hl,hm,hR=>by
  rintro b u hb hbS hbI au2 hk:lA 5 fo<|ht 0 q rfl;rw[aP] at hsz hln;show codeAny_builtin OQ ?_;rw[nY x5 _];change wpAny _ A.in1 (pyNext (.ref I) >>= _) _ _ s;show wpAny_bind (UE (x:=.ref b) hit hl (by simpa using hb) λh1 atj JB=>?_);have UQ:ab4 h1 b #[u,q.2]:=au2.extBut JB.extBut hbI;have Pa:h1.IsList l items:=hl.extBut JB.extBut hlI;have hm1:h1.DictOf (d6 prog w) S acc:=hm.extBut JB.extBut hSI;rintro o ho hc n hd:gF 3 bW<|id UQ;change wpAny _ A.in1 (holding [bn b] _ >>= _) _ _ _;show wpAny_bind (wpAny_holding ?_);show wpAny_bind (wpAny_tryCatch ?_);unfold ai1;show wpAny_bind (wpAny_typeOf (T:="tuple") #[ia,o,ho,hc] ?_);rw[if_pos (by first|decide|rfl|simp)];show wpAny_bind (wpAny_seqItems ho hd (wpAny_pure ?_));change wpAny _ A.in1 (holding [u,q.2] (dictSet S u q.2)) _ _ _;show wpAny_holding (wpAny_dictSet_pairs (knd:=d6 prog w) (k:=q.1) hk hm1 (λh2 hm2 V6=>?_) (by omega));show wpAny_pure ⟨Eb x5 _,OR (items:=items) hh hlI hSI hSl rest (i+1) (stored acc q.1 q.2) (ix+1) 0 _ (show items.size=i+1+rest.length by omega) ?_ (λj q' e=>?_) ?_ ?_ hm2 λh' tk Mz k=>?_⟩;.have z:=stored_length_le acc q.1 q.2;omega
  .rintro b' u' Tr ako akn al4 hk':lA 5 fo<|ht (j+1) q' (by simpa using e);show #[ik,b',u',?_,ako,akn,(al4.extBut JB.extBut akn).extBut V6.extBut ako,hk'];rw[show i+1+j=i+(j+1) by omega];show Tr
  .show atj.at λo' e=>V6.extBut I o' (cA hSI) e
  .show Pa.extBut V6.extBut (cA hSl)
  .show hR h' tk Mz λc oc h3 h4 e=>k c oc h3 h4 (V6.extBut c oc h3 (JB.extBut c oc h4 e))
def Ee{s:ao}{l:af}{ol:iG}{items:Array ag}{n:Nat}{prs:List (ez×ag)}{Q:ag->ao->Prop}(hh:A.handled=none)(hl:s.heap.get? l=some ol)(hc:ol.cls=.type "list")(hd:ol.dict=none)
 (Le:ol.data=.seq items n) (hsz:items.size=prs.length) (hln:prs.length<=sizeLine)
 (ht:∀(j:Nat)(q:ez×ag),prs[j]? = some q->∃(b:af)(u:ag),items[j]? = some (.ref b)/\ab4 s.heap b #[u,q.2]/\A9 q.1 u=true)
 (h:∀h' tk,h'.DictOf (d6 prog w) s.heap.objs.size (merged [] prs)->(∀b o,s.heap.get? b=some o->h'.get? b=some o)->Q (.ref s.heap.objs.size) { s with heap:=h',toks:=tk }):
 wpAny (model prog w) A (call (.type "dict") [.ref l]) Q E s:=by
 show callType_codes (Q₁:=λobj s₁=>obj=.ref s.heap.objs.size/\s₁={ s with heap:=s.heap.push { cls:=.type "dict",data:=.dict #[] } }) PySem.F.kt_called_dict (PySem.F.kt_typeCall_dict_1 _) PySem.F.entry_dict_init (kt_code_dict_new _ ⟨rfl,rfl⟩) ?_;rintro obj s₁ cG;rintro rfl rfl:fo cG;have Qc:(s.heap.push { cls:=.type "dict",data:=.dict #[] }).DictOf (d6 prog w) s.heap.objs.size []:=MJ s.heap;have k0:∀b o,s.heap.get? b=some o->(s.heap.push { cls:=.type "dict",data:=.dict #[] }).get? b=some o:=λb o e=>aC _ e;show #[ic,Qc.typeIs,PySem.F.args_dict_init_2 _ _,?_];unfold Builtin.«dict.__init__»;show wpAny_bind ?_;unfold ai3;show wpAny_bind (wpAny_notOrdered_dict Qc.typeIs ?_);change wpAny _ _ (pure (s.heap.objs.size,[bn l])) _ _ _;show wpAny_pure ?_;change wpAny _ _ (Df "dict.__init__" s.heap.objs.size (.ref l) [] .none) _ _ _;unfold Df;show wpAny_bind (wpAny_typeOf (T:="list") #[ia,ol,k0 _ _ hl,hc] ?_);rw[if_pos (by first|decide|rfl|simp)];show wpAny_bind (T0 (k0 _ _ hl) hc Le hd hh λh1 tk1 R5=>?_);rw[if_pos (show (none:Option ag).isNone=true from rfl)];show wpAny_bind (wpAny_rule ?_);have Pa:h1.IsList l items:=#[ie,ol,R5 _ _ (k0 _ _ hl),hc,⟨n,Le⟩];have hS1:s.heap.objs.size<h1.objs.size:=by have e:(s.heap.push { cls:=.type "dict",data:=.dict #[] }).get? s.heap.objs.size=some { cls:=.type "dict",data:=.dict #[] }:=bq _ rfl;show bf (R5 _ _ e)
 show wpAny_bind (Ht Pa ?_);have k2:∀b o,h1.get? b=some o->(h1.push { cls:=.type "list_iterator",data:=.fields #[.ref l,.int 0 0] }).get? b=some o:=λb o e=>aC _ e;have lr:l<s.heap.objs.size:=bf hl;have key:=OR (prog:=prog) (w:=w) (A:=A.in1) (R:=wants (λr s₂=>r=.none/\Q (.ref s.heap.objs.size) s₂) E) (S:=s.heap.objs.size) (I:=h1.objs.size) (l:=l) (items:=items) (res:=ql) hh
  (bw (qj lr hS1)) (bw hS1) (ng lr) prs 0 [] 0 0
  { s with heap:=h1.push { cls:=.type "list_iterator",data:=.fields #[.ref l,.int 0 0] },toks:=tk1 } (by rw[hsz,lz]) (by rw[dg,lz];show hln)
  (λj q e=>by
   rintro b u e1 e2 e3:fD<|ht j q e;have hb:b<s.heap.objs.size:=e2.lt;show #[ik,b,u,by rw[lz];show e1,bw hb,bw (qj hb hS1),e2.keeps λc o z=>k2 _ _ (R5 _ _ (k0 _ _ z)),e3])
  #[ie,_,bq _ rfl,rfl,rfl] (Pa.at λo e=>k2 _ _ e) ((Qc.at λo e=>R5 _ _ e).at λo e=>k2 _ _ e)
  (λh' tk Mz k=>⟨rfl,h h' tk Mz λb o e=>k b o (bw (bf e)) (bw (qj (bf e) hS1)) (k2 _ _ (R5 _ _ (k0 _ _ e)))⟩)
 first
  |show wpAny_pure ⟨Eb x5 _,key⟩
  |show wpAny_bind (wpAny_pure (wpAny_pure ⟨Eb x5 _,key⟩))
end
section
variable{X:Cx}
theorem Of{pins:List (af×iG)}{σ:St}{H:Hp}{s:ao}(I:Inv X pins σ H s):∀{ps:List af}{aQ:List (ez×V)},cg (λp kv=>ox X.K H p [kV kv.1,kv.2]) ps aQ->
 ∃prs:List (ez×ag),KV aQ prs/\prs.length=ps.length/\∀(j:Nat)(q:ez×ag),prs[j]? = some q->∃(b:af)(u:ag),ps[j]? = some b/\ab4 s.heap b #[u,q.2]/\A9 q.1 u=true
 |_,_,.nil=>#[ie,[],.nil,rfl,λj q e=>by simp at e]
 |_,_,.cons (a:=p) (b:=kv) h t=>by
  rintro prs r hl hp:gF<|Of I t;rintro its rv ht _:gF<|I.tuple h;rintro u y ei ru ry:fD<|aik rv;subst ei;show #[ie,(kv.1,y)::prs,.cons ⟨rfl,ry⟩ r,by rw[aP,aP,hl],λj q e=>?_];cases j with
  |zero=>have e':(kv.1,y)=q:=bp e;subst e';show #[ib,p,u,rfl,ht,yP (P:=X.prog) (w:=X.w) ru]
  |succ j=>rintro b u' e1 e2 e3:fD<|hp j q (by simpa using e);show #[ib,b,u',by simpa using e1,e2,e3]
theorem SD:∀{ps:List af}{us:List ag},eV (ps.map V.ref) us->us=ps.map bn
 |[],us,r=>by
  rw[m_] at r;cases r;rfl
 |p::ps,us,r=>by
  rw[bD] at r;cases r with
  |cons h t=>cases h;rw[bD,<-SD t]
def PQ(aku:X.calm=true):me X (.type "dict") (λxs H Q=>∃(a:af)(ps:List af)(aQ:List (ez×V)),xs=[.ref a]/\cf X.K H a (ps.map V.ref)/\cg (λp kv=>ox X.K H p [kV kv.1,kv.2]) ps aQ/\
 ∀p,H p=none->Q (.ref p) (upd H p (.dK (i0 [] aQ)))):=by
 intro pins s σ H xs us Q I r q;rintro a ps aQ ex hq hp q:rD 5 fo q;subst ex;rintro u eu rx:bM<|vals1 r
 subst eu;cases rx;rintro its rv pl hz:gF<|I.list hq;have ei:=SD rv;subst ei;rw[ab] at hz;rintro prs rel hl hpr:gF<|Of I hp;rintro o n ho hc hd Le:lA pl;show Ee (prs:=prs) (I.ok.hd aku) ho hc hd Le (by simp[hl]) (by rw[hl];show hz) (λj q' e=>?_) λh' tk Mz k=>?_;.rintro b u e1 e2 e3:fD<|hpr j q' e;show #[ib,b,u,by simp[e1],e2,e3]
 .have hm:(s.heap.objs.size==jJ)=false:=beq_eq_false_iff_ne.mpr (ng I.big);have hlen:(i0 [] aQ).length<=sizeLine:=by
   show aE (lG aQ []) ?_;rw[dg,lz,rel.length,hl];show hz
  show #[ib,.ref s.heap.objs.size,upd H s.heap.objs.size (.dK (i0 [] aQ)),I.laid (t':=tk) k (aA _) (show iY X.prog X.w _ _ _ (.dK (i0 [] aQ)) from #[iA,hlen,hm,merged [] prs,KV.merge rel .nil,Mz]),rfl,q _ (I.eU.fresh (aA _))]
end
end L2
namespace L2
open PySem PySem.Spec PyProof.Rows
section
variable{X:Cx}{pins:List (af×iG)}{σ:St}{H:Hp}{s:ao}{h':cE}
def Inv.Um{t':Nat}{ch:List af}{T:af}{ob:HO}(I:Inv X pins σ H s)(k:∀b o,b∉ch->s.heap.get? b=some o->h'.get? b=some o)(hf:∀b∈ch,E7 X pins H b)(hT:s.heap.objs.size<=T)
 (new:iY X.prog X.w (upd H T ob) h' T ob):Inv X pins σ (upd H T ob) { s with heap:=h',toks:=t' }:=by
 have hn:H T=none:=I.eU.fresh hT;have nit:∀b u,H b=some u->b∉ch:=λb u e z=>by
  have q:=(hf b z).1;rw[q] at e;cases e
 show I.step (g':=s.gens) (d':=s.drawn) (ch:=ch) (λb hb=>#[ij,(hf b hb).2.2.2.1,(hf b hb).2.1,(hf b hb).2.2.2.2.1,(hf b hb).2.2.2.2.2]) (λb o _ _ hc e _=>k b o hc e) (λb o _ _ hc e _=>⟨o.slots,k b o hc e⟩)
  (λb o _ e n=>?_) (λb o hc e=>⟨o,k b o hc e⟩) (λb xs e=>?_) (λb o u e=>?_) (λb ps e=>⟨#[],?_⟩) (λm hm=>?_) (λb u e=>?_) I.bare
 .rw[aR (bw (bg (bf e) hT))];show n
 .rw[aR (aI e hn)];show e
 .rw[aR (aI e hn)];show e
 .rw[aR (aI e hn),e];simp
 .rintro o es ep ho r:N2 hm;show #[ir,o,es,#[ia,ep,k _ o (λz=>(hf _ z).2.1 rfl) ho,r]]
 .by_cases hb:b=T;.subst hb;rw[aT] at e;cases e;show new
  .rw[aR hb] at e;show (I.eU b u e).yA (λc v hc q=>k c v ?_ q) (λc q=>by rw[aR (aI q hn)];show q) λc xs q=>by rw[aR (aI q hn)];show q
   rcases hc with z|z;.rw[z];show nit b u e
   .show nit c _ z
def Inv.lock{d:af}{u:HO}(I:Inv X pins σ H s)(h:H d=some u)(mu:Mut (some u)):∃od,Inv X pins σ (upd H d (.oO od u)) s:=by
 have x:=I.eU d u h;have ex:∃od,s.heap.get? d=some od:=by
  cases u with
  |lst xs=>rintro _ _ _ _ e:N3 x;show⟨_,e⟩
  |dK aQ=>rintro _ _ _ _ o _ _ e _:vW 4 N2 x;show⟨o,e⟩
  |dT aQ=>rintro _ _ _ _ o _ _ e _:vW 4 N2 x;show⟨o,e⟩
  |set S n=>rintro o _ _ _ e _:xf x;show⟨o,e⟩
  |ins C dx fs=>rintro _ _ _ e _:EO x;show⟨_,e⟩
  |ext φ=>rintro _ ⟨_,e⟩ _:lB x;show⟨_,e⟩
  |_=>show ee mu
 rintro od e:bW ex;have new:iY X.prog X.w (upd H d (.oO od u)) s.heap d (.oO od u):=by
  show⟨e,x.yA (λb v _ q=>q) (λb q=>?_) λb xs q=>?_⟩;.rw[aR (λz=>by rw[z,h] at q;cases q;show mu)];show q
  .rw[aR (λz=>by rw[z,h] at q;cases q;show mu)];show q
 show⟨od,I.write (x:=d) (e:=d) (t':=s.toks) (h':=s.heap) (by rw[h];show mu) (.inl rfl) (λb v _ q=>q) ⟨od,e⟩ new⟩
def Inv.amu{d:af}{u:HO}(I:Inv X pins σ H s)(h:H d=some u)(mu:Mut (some u)):∀o' u',X.H_0 d≠some (.oO o' u'):=λo' u' e=>by
 have q:=I.base.FF d o' u' e;rw[h] at q;cases q;show mu
def Inv.unlock{d:af}{od:iG}{u:HO}(I:Inv X pins σ H s)(h:H d=some (.oO od u))(hn:∀o' u',X.H_0 d≠some (.oO o' u')):Inv X pins σ (upd H d u) s:=by
 have neH:∀b o,H b=some o->(∀o' u',o≠.oO o' u')->b≠d:=λb o e nS z=>by
  rw[z,h] at e;cases e;show nS _ _ rfl
 have neN:∀b,H b=none->b≠d:=λb e z=>by rw[z,h] at e;cases e
 show⟨I.ok,I.os,I.bare,⟨I.base.keep,I.base.slot,λb o e n hx=>?_,I.base.there,λb xs e=>?_,λb o x e=>?_,λb ps e=>?_⟩,I.loc,I.cell,?_,λx c e=>?_,λp hp=>?_,λb o e=>?_,I.len⟩;.rw[aR (neN b (I.base.free b o e n hx))];show I.base.free b o e n hx
 .have q:=I.base.Jb b xs e;rw[aR (neH b _ q (λ_ _ z=>nomatch z))];show q
 .have q:=I.base.FF b o x e;rw[aR (λz=>by rw[z] at e;show hn _ _ e)];show q
 .rintro m q:bW<|I.base.Ja b ps e;show⟨m,by rw[aR (neH b _ q (λ_ _ z=>nomatch z))];show q⟩
 .rw[aR (neN _ I.free)];show I.free
 .rw[aR (neN c (I.sV x c e))];show I.sV x c e
 .rintro e n r:lB<|I.pin p hp;show #[ic,e,by rw[aR (neN _ n)];show n,r]
 .by_cases hb:b=d;.rw[hb,aT] at e;cases e;rw[hb];rintro _ x:fo<|I.eU d _ h;show x.yA (λc v _ q=>q) (λc q=>by rw[aR (neH c _ q (λ_ _ z=>nomatch z))];show q) λc xs q=>by rw[aR (neH c _ q (λ_ _ z=>nomatch z))];show q
  .rw[aR hb] at e;show (I.eU b o e).yA (λc v _ q=>q) (λc q=>by rw[aR (neH c _ q (λ_ _ z=>nomatch z))];show q) λc xs q=>by rw[aR (neH c _ q (λ_ _ z=>nomatch z))];show q
end
section
variable{X:Cx}
def WC{tg:Expr}{pins:List (af×iG)}{σ:St}{H:Hp}{s:ao}{R:It->Hp->Prop}{J:It}{tn:Nat->cE->Prop}{tk:Nat}(I:Inv X pins σ H s)(o:iG)
 (T:Pe X.prog X.w X.K tg J [s.heap.objs.size] s.heap.objs.size tn) (st:tn 0 (s.heap.push o)) (q:R J H):PIE X pins σ tg R (.ref s.heap.objs.size) { s with heap:=s.heap.push o,toks:=tk }:=by
 show #[ig,s.heap.objs.size,[s.heap.objs.size],tn,J,H,#[ip,rfl,I.kept λb ob e=>aC _ e,T,st,λb hb=>?_,q]];have e:b=s.heap.objs.size:=by simpa using hb
 subst e;show I.Tn (aA _) (I.eU.fresh (aA _))
end
def Its(x:Str):It:=⟨λi _=>i<x.cps.size,λi H v H'=>H'=H/\∃c,x.cps[i]? = some c/\v=.str ⟨#[c]⟩,λi _=>x.cps.size<=i⟩
def OP{P:aS}{w:bL}{K:ad}{tg:Expr}(it:af)(x:Str)(t:X7)(ty:String)(XR:ty="str_ascii_iterator"\/ty="str_iterator"):
 Pe P w K tg (Its x) [it] it (λi h=>h.IsStrIter it ty x t i) where
 mem:=by simp
 obj:=λi h st b hb=>by
  have e:b=it:=by simpa using hb
  subst e;rintro o e c d:gF st;show #[ia,o,e,λv z=>by rw[d] at z;cases z]
 keep:=λi h h' st k=>bM st λo ho r=>#[ia,o,k it (by simp) o ho,r]
 item:=by
  intro X hP hw hK hc i pins s σ H E I hf st hg;subst hP hw hK;rintro f0 f1 f2 f3 f4 f5:Iw<|hf it (by simp)
  have W:Walks X.prog X.w X.A it [it] [it] x.cps.size (SignAt x) (λi h=>h.IsStrIter it ty x t i):=by
   rcases XR with e|e;.rw[e];show Walks.strAscii (I.ok.hd hc) it x t
   .rw[e];show Walks.strWide (I.ok.hd hc) it x t
  have FO:["enumerate","zip","dict_itemiterator","dict_reverseitemiterator","odict_iterator","itertools.zip_longest","itertools.pairwise"].contains ty=false:=by
   rcases XR with e|e;.rw[e];decide
   .rw[e];decide
  show W.item i s _ _ hg st λv h' tk hv OG kk=>?_;rintro c u hcx rfl:rE hv;have I1:Inv X pins σ H { s with heap:=h',toks:=tk }:=I.turned (λb o hb e=>kk b o (by simpa using hb) e) f0 f1 f3 f4 f5;rintro oi e cc dd:gF<|id OG;show #[ia,_,rfl,RW (s:={ s with heap:=h',toks:=tk }) e cc dd FO #[ik,.str ⟨#[c]⟩,H,I1,⟨u,rfl⟩,#[io,rfl,c,hcx,rfl],OG,λb hb=>(hf b hb).1]]
 done:=by
  intro X hP hw hK hc i pins s σ H E I hf st hg;subst hP hw hK;rintro f0 f1 f2 f3 f4 f5:Iw<|hf it (by simp)
  have hx:x.cps[i]? = none:=Mt hg;rcases XR with e|e;.rw[e] at st;show wpAny_pyNext_ascii_end (I.ok.hd hc) st hx λh' eb=>⟨rfl,I.turned (t':=s.toks) (λb o hb e=>eb b o hb e) f0 f1 f3 f4 f5⟩
  .rw[e] at st;show wpAny_pyNext_wide_end (I.ok.hd hc) st hx λh' eb=>⟨rfl,I.turned (t':=s.toks) (λb o hb e=>eb b o hb e) f0 f1 f3 f4 f5⟩
 self:=λA i s Q E st h=>by
  rcases XR with e|e;.rw[e] at st;show wpAny_pyIter_striter_ascii st h
  .rw[e] at st;show wpAny_pyIter_striter_wide st h
def aex(te:TE):TI:=λσ H R=>te σ H λv H1=>∃x,v=.str x/\R (Its x) H1
def LX{X:Cx}{tg e:Expr}{te:TE}(he:PE X e te):PI X tg e (aex te):=by
 intro pins s σ H R I h;show gQ (he pins s σ H _ I h) λv s1 cG=>fD cG λy H1 I1 r1 w'=>bM w' λx ex q=>?_;subst ex;rintro t rfl:bW r1;cases ha:x.cps.all (·<128);.show wpAny_pyIter_wide ha (WC (tk:=s1.toks) I1 _ (OP _ x t "str_iterator" (.inr rfl)) #[ie,_,bq _ rfl,rfl,rfl] q)
 .show wpAny_pyIter_ascii ha (WC (tk:=s1.toks) I1 _ (OP _ x t "str_ascii_iterator" (.inl rfl)) #[ie,_,bq _ rfl,rfl,rfl] q)
def Ite(K:ad)(a:af):It:=
 ⟨λi H=>∃(xs:List V)(x:V),cf K H a xs/\xs[i]? = some x,λi H v H'=>∃T x,v=.ref T/\H T=none/\H'=upd H T (.tup [.int (i:Nat),x])/\∀xs,cf K H a xs->xs[i]? = some x,λi H=>∃xs:List V,cf K H a xs/\xs.length<=i⟩
def Uk{P:aS}{w:bL}{K:ad}{elts:List Expr}{kk:Nat}{Xk:km}(a e it:af):
 Pe P w K (.Tuple elts kk Xk) (Ite K a) [e,it] e (λi h=>(∃old,IsEnum h e it ((i:Nat):Int) old)/\h.IsListIter it a i/\e≠it) where
 mem:=by simp
 obj:=λi h st b hb=>by
  rintro⟨old,he⟩ ⟨o,ho,hc,hd⟩ _:lB st;have e':b=e\/b=it:=by simpa using hb
  rcases e' with z|z;.rw[z];show #[ia,_,he,λv q=>nomatch q]
  .rw[z];show #[ia,o,ho,λv q=>by rw[hd] at q;cases q]
 keep:=λi h h' st k=>let⟨⟨old,he⟩,hi,nS⟩:=st;#[ic,⟨old,k e (by simp) _ he⟩,hi.at λo q=>k it (by simp) o q,nS]
 item:=by
  intro X hP hw hK hc i pins s σ H E I hf st hg;subst hP hw hK;rintro⟨old,he⟩ hit nS:lB st;rintro xs x hq hx:rE hg;rintro its rv p hz:gF<|I.list hq
  rintro u hu ru:bM<|rv.get hx;have hel:e<s.heap.objs.size:=bf he;have VZ:it<s.heap.objs.size:=by rintro _ q _:bM hit;show bf q
  show wpAny_pyNext_enum_item he hit p.isList (x:=u) (by simpa using hu) nS λh' ho ati hT hsz hk=>?_;show #[ia,_,rfl,wpAny_letOwnedTupleGo_enum (s:={ s with heap:=h',toks:=s.toks+1 }) ho λh'' he' sb=>?_];have hT2:h''.get? s.heap.objs.size=some { cls:=.type "tuple",data:=.seq #[.int i s.toks,u] }:=(sb.2 _ (ng hel)).trans hT;have new:iY X.prog X.w (upd H s.heap.objs.size (.tup [.int (i:Nat),x])) h'' s.heap.objs.size (.tup [.int (i:Nat),x]):=
   #[io,by change 2<=sizeLine;decide,[.int i s.toks,u],.cons ⟨_,rfl⟩ (.cons ru .nil),#[ie,_,hT2,rfl,⟨_,rfl⟩]]
  have I1:Inv X pins σ (upd H s.heap.objs.size (.tup [.int (i:Nat),x])) { s with heap:=h'',toks:=s.toks+1 }:=
   I.Um (ch:=[e,it]) (λb ob hb q=>(sb.2 b (λz=>hb (by simp[z]))).trans (hk b ob (λz=>hb (by simp[z])) (λz=>hb (by simp[z])) q)) hf (aA _) new
  show #[ik,.ref s.heap.objs.size,_,I1,rfl,#[ib,_,x,rfl,I.eU.fresh (aA _),⟨rfl,λys hy=>by rw[I.NR hy hq];show hx⟩],#[ic,⟨u,?_⟩,ati.at λo q=>(sb.2 it (cA nS)).trans q,nS],λb hb=>?_]
  .have e1:((i+1:Nat):Int)=(i:Int)+1:=by omega
   rw[e1];show he'
  .have Tr:b<s.heap.objs.size:=by
    have e':b=e\/b=it:=by simpa using hb
    rcases e' with z|z;.rw[z];show hel
    .rw[z];show VZ
   rw[aR (bw Tr)];show (hf b hb).1
 done:=by
  intro X hP hw hK hc i pins s σ H E I hf st hg;subst hP hw hK;rintro⟨old,he⟩ hit nS:lB st;rintro xs hq hx:bM hg;rintro its rv p hz:gF<|I.list hq
  rintro f0 f1 f2 f3 f4 f5:Iw<|hf it (by simp);have hl:=rv.length;show wpAny_pyNext_enum_end (I.ok.hd hc) he hit p.isList (by simp;omega) λh' eb=>⟨rfl,I.turned (t':=s.toks) (λb o hb q=>eb b o hb q) f0 f1 f3 f4 f5⟩
 self:=λA i s Q E st h=>let⟨⟨_,he⟩,_⟩:=st;acf he h
def V9(K:ad)(ta:TA):TI:=λσ H R=>ta σ H λvs H1=>∃a xs,vs=[.ref a]/\cf K H1 a xs/\R (Ite K a) H1
def yh{X:Cx}{e:Expr}{ta:TA}{p pos Xk:km}{elts:List Expr}{kk:Nat}(hg:Gl X "enumerate")(hm:X.mg "enumerate"=none)(ha:PA X [e] ta)(hs:bi [e] X.env=[(false,eval e X.env)]:=by rfl):
 PI X (.Tuple elts kk Xk) (.Call (.Name "enumerate" p) [e] [] pos) (V9 X.K ta):=by
 intro pins s σ H R I h;show Call_ (Cu I hg hm boot_enumerate (jI (gQ (ha pos pins s σ H _ I h) λus s1 cG=>fD cG λvs H1 I1 r1 q1=>?_) hs rfl));rintro a xs ex hq q:fD q1;subst ex;cases r1 with
 |cons r rr=>
  cases rr;cases r;rintro its rv p' hz:gF<|I1.list hq;show call_enumerate_list p'.isList λh' he hit hsz hk=>acf he ?_;have I2:Inv X pins σ H1 { s1 with heap:=h' }:=I1.kept (t':=s1.toks) hk;show #[ig,s1.heap.objs.size+1,[s1.heap.objs.size+1,s1.heap.objs.size],_,_,H1,#[ip,rfl,I2,Uk a (s1.heap.objs.size+1) s1.heap.objs.size,#[ic,⟨.none,he⟩,hit,Nat.succ_ne_self _],λb hb=>?_,q]];have e':b=s1.heap.objs.size+1\/b=s1.heap.objs.size:=by simpa using hb
  have hle:s1.heap.objs.size<=b:=by
   rcases e' with z|z;.rw[z];show Nat.le_add_right _ _
   .rw[z];show aA _
  show I1.Tn hle (I1.eU.fresh hle)
end L2
namespace L2
open PySem PySem.Spec PyProof.Rows
theorem J1:∀l:List (Str×X7),eV ((l.map (·.1)).map V.str) (ahn l)
 |[]=>.nil
 |p::r=>.cons ⟨p.2,rfl⟩ (J1 r)
theorem vn:∀{ys:List Str}{us:List ag},eV (ys.map V.str) us->StrsAre us ys
 |[],_,.nil=>.nil
 |y::ys,_,.cons r t=>by
  rintro k rfl:bW r;show .cons y k (vn t)
def GA(ys:List Str):Hp->VK->Prop:=λH Q=>∀p,H p=none->Q (.ref p) (upd H p (.lst (ys.map V.str)))
section
variable{X:Cx}{pins:List (af×iG)}{σ:St}{H:Hp}{s:ao}{Q:VK}
def Ct{l:List (Str×X7)}{ys:List Str}{k:Nat}(I:Inv X pins σ H s)(e:l.map (·.1)=ys)(hz:ys.length<=sizeLine)(h:GA ys H Q):
 EP X pins σ Q (.ref s.heap.objs.size) { s with toks:=k,heap:=s.heap.push { cls:=.type "list",data:=.seq (ahn l).toArray } }:=by
 have hp:=I.eU.fresh (aA _);show #[ib,.ref s.heap.objs.size,upd H s.heap.objs.size (.lst (ys.map V.str)),I.laid (λb u q=>aC _ q) (aA _) #[iz,by rw[ab];show hz,ahn l,_,?_,bq _ rfl],rfl,h _ hp];rw[<-e];show J1 l
end
section
variable{X:Cx}
def Wp:U9 X "str.split" (λx xs H Q=>∃a b,x=.str a/\xs=[.str b]/\(b.length==0)=false/\a.length+2<=sizeLine/\GA (kg a b) H Q):=by
 intro pins s σ H x xs v us Q I rx rs h;rintro a b rfl rfl hb hz h:lA 5 fo h;rintro t rfl:bW rx;cases rs with
 |cons r1 rs=>
  cases rs;rintro u rfl:bW r1;have hl:(kg a b).length<=sizeLine:=aE (aiz a b) hz;have hn:(Dg a (qk a b 0 a.length (a.length+1)) b.length).length<=sizeLine:=by have e1:=StrLaws.occ_length_le a b 0 a.length (a.length+1);rw[length_partsBetween];omega
  cases h1:(decide (a.length<b.length)||decide (HA a<HA b))
  .cases hf:(qk a b 0 a.length (a.length+1)).isEmpty;.show yF v8 (typeIs_str _ _ _) Ex (Dh _ _) (meets_str_split_sep a b t u h1 hb hf (by omega) hn) ?_;change EP X pins σ Q (.ref s.heap.objs.size) { s with toks:=_,heap:=s.heap.push { cls:=.type "list",data:=.seq (strsFrom s.toks (Dg a (qk a b 0 a.length (a.length+1)) b.length)).toArray } };rw[strsFrom_eq];show Ct (ys:=kg a b) I ((numbered_texts _ _).trans ((if_neg (ne_true_of_eq_false h1)).trans (if_neg (ne_true_of_eq_false hf))).symm) hl h
   .show yF v8 (typeIs_str _ _ _) Ex (Dh _ _) (meets_str_split_not_found a b t u h1 hb hf) ?_;show Ct (l:=[(a,t)]) (ys:=kg a b) (k:=s.toks) I ((if_neg (ne_true_of_eq_false h1)).trans (if_pos hf)).symm hl h
  .show yF v8 (typeIs_str _ _ _) Ex (Dh _ _) (meets_str_split_cannot_occur a b t u h1) ?_;show Ct (l:=[(a,t)]) (ys:=kg a b) (k:=s.toks) I (if_pos h1).symm hl h
def Zc:U9 X "str.join" (λx xs H Q=>∃a p,∃ys:List Str,x=.str a/\xs=[.ref p]/\(cf X.K H p (ys.map V.str)\/ox X.K H p (ys.map V.str))/\
 (ys.map (·.length)).sum+ys.length*a.length<=16777216/\Q (.str (Rz a ys)) H):=by
 intro pins s σ H x xs v us Q I rx rs h;rintro a p ys rfl rfl hp hz h:rD 5 lB h;rintro t rfl:bW rx;cases rs with
 |cons r1 rs=>
  cases rs;cases r1;rcases hp with hp|hp
  .rintro its r ⟨o,n,ho,hc,_,hd⟩ _:gF<|I.list hp;show air (items:=its.toArray) #[ie,o,ho,hc,⟨n,hd⟩] (by rw[lC];show vn r) hz λt' k=>#[ib,.str _,H,I.tok k,⟨t',rfl⟩,h]
  .rintro its r ht _:gF<|I.tuple hp;show ais (items:=its.toArray) ht (by rw[lC];show vn r) hz λt' k=>#[ib,.str _,H,I.tok k,⟨t',rfl⟩,h]
def mt0{id:String}{C:Str->Prop}{g:Str->V}(rule:∀(a:Str)(t:X7)(s:ao)(Q:ag->ao->Prop),C a->(∀(u:ag)(k:Nat),RelV (g a) u->Q u { s with toks:=k })->
 wpAny (model X.prog X.w) X.A (call (.builtin id) [.str a t]) Q X.xe s):U9 X id (λx xs H Q=>∃a,x=.str a/\xs=[]/\C a/\Q (g a) H):=by
 intro pins s σ H x xs v us Q I rx rs h;rintro a rfl rfl hc h:gF 3 fo h;rintro t rfl:bW rx;cases rs;show rule a t s _ hc λu k r=>#[ib,g a,H,I.tok k,r,h]
def Gb:U9 X "str.isdigit" (λx xs H Q=>∃a,x=.str a/\xs=[]/\True/\Q (.bl (E4 a)) H):=
 mt0 (C:=λ_=>True) (g:=λa=>.bl (E4 a)) λ_ _ s _ _ h=>PySem.SC.isdigit (h _ s.toks rfl)
def mt1{id:String}{g:Str->Str->V}(rule:∀(a b:Str)(t u:X7)(s:ao)(Q:ag->ao->Prop),(∀(v:ag)(k:Nat),RelV (g a b) v->Q v { s with toks:=k })->
 wpAny (model X.prog X.w) X.A (call (.builtin id) [.str a t,.str b u]) Q X.xe s):U9 X id (λx xs H Q=>∃a b,x=.str a/\xs=[.str b]/\Q (g a b) H):=by
 intro pins s σ H x xs v us Q I rx rs h;rintro a b rfl rfl h:fD h;rintro t rfl:bW rx;cases rs with
 |cons r1 rs=>cases rs;rintro u rfl:bW r1;show rule a b t u s _ λv k r=>#[ib,g a b,H,I.tok k,r,h]
def rB:U9 X "str.startswith" (λx xs H Q=>∃a b,x=.str a/\xs=[.str b]/\Q (.bl (nj a b)) H):=
 mt1 (g:=λa b=>.bl (nj a b)) λ_ _ _ _ s _ h=>PySem.SC.startswith (h _ s.toks rfl)
def oY:me X (.type "int") (λxs H Q=>∃a n,xs=[.str a]/\aoq a=some n/\a.length<=640/\Q (.int n) H):=by
 intro pins s σ H xs us Q I rs h;rintro a n rfl hn hl h:lA h;cases rs with
 |cons r1 rs=>cases rs;rintro t rfl:bW r1;show aon hn hl #[ib,.int n,H,I.tok _,⟨_,rfl⟩,h]
end
section
variable{X:Cx}{o e:Expr}{to te:TE}
def tM0(r:V->List V->Hp->VK->Prop)(to:TE):TE:=λσ H Q=>to σ H λx H1=>(∃a,x=.str a)/\r x [] H1 Q
def tM1(r:V->List V->Hp->VK->Prop)(to te:TE):TE:=λσ H Q=>to σ H λx H1=>(∃a,x=.str a)/\te σ H1 λy H2=>r x [y] H2 Q
def abf{id:String}{name:Str}{apos pos:km}{r:V->List V->Hp->VK->Prop}(slot:Slot "str" name id)(ty:typeOf (.builtin id)=pure (.type "method_descriptor"))(rule:U9 X id r)(ho:PE X o to)
 (sY:attributeBase o name X.env (eval o X.env)=eval o X.env:=by rfl) (n9:(apos.endLine==pos.line)=true:=by rfl):PE X (.Call (.Attribute o name apos) [] [] pos) (tM0 r to):=by
 intro pins s σ H Q I h;show PySem.Call_method0 sY n9 (gQ (ho pins s σ H _ I h) λv s1 cG=>fD cG λx H1 I1 r1 q1=>?_);rintro⟨a,rfl⟩ q1:fo q1;rintro t rfl:bW<|_root_.id r1
 show #[ik,"str",_,Z5,slot,ty,typeIs_str _ _ _,⟨(λ_ e=>nomatch e),iJ rfl (PySem.evalArgs_none (rule pins s1 σ H1 _ [] _ [] Q I1 r1 .nil q1))⟩]
def Gs{id:String}{name:Str}{apos pos:km}{r:V->List V->Hp->VK->Prop}(slot:Slot "str" name id)(ty:typeOf (.builtin id)=pure (.type "method_descriptor"))(rule:U9 X id r)(ho:PE X o to)(he:PE X e te)
 (hs:bi [e] X.env=[(false,eval e X.env)]:=by rfl) (sY:attributeBase o name X.env (eval o X.env)=eval o X.env:=by rfl) (n9:(apos.endLine==pos.line)=true:=by rfl):
 PE X (.Call (.Attribute o name apos) [e] [] pos) (tM1 r to te):=by
 intro pins s σ H Q I h;show PySem.Call_method1 sY hs n9 (gQ (ho pins s σ H _ I h) λv s1 cG=>fD cG λx H1 I1 r1 q1=>?_);rintro⟨a,rfl⟩ q1:fo q1;rintro t rfl:bW<|_root_.id r1
 show #[ik,"str",_,Z5,slot,ty,typeIs_str _ _ _,⟨(λ_ e=>nomatch e),iJ rfl (kO (jX ?_))⟩];show gQ (he pins s1 σ H1 _ I1 q1) λu s2 cG=>fD cG λy H2 I2 r2 q2=>mX (rule pins s2 σ H2 _ [y] _ [u] Q I2 r1 (.cons r2 .nil) q2)
def Gu{apos pos:km}(ho:PE X o to)(he:PE X e te)(hs:bi [e] X.env=[(false,eval e X.env)]:=by rfl)(sY:attributeBase o "split" X.env (eval o X.env)=eval o X.env:=by rfl)(n9:(apos.endLine==pos.line)=true:=by rfl):
 PE X (.Call (.Attribute o "split" apos) [e] [] pos) (tM1 (λx xs H Q=>∃a b,x=.str a/\xs=[.str b]/\(b.length==0)=false/\a.length+2<=sizeLine/\GA (kg a b) H Q) to te):=
 Gs v8 F.type_str_split Wp ho he hs sY n9
def ES{apos pos:km}(ho:PE X o to)(he:PE X e te)(hs:bi [e] X.env=[(false,eval e X.env)]:=by rfl)(sY:attributeBase o "join" X.env (eval o X.env)=eval o X.env:=by rfl)(n9:(apos.endLine==pos.line)=true:=by rfl):
 PE X (.Call (.Attribute o "join" apos) [e] [] pos) (tM1 (λx xs H Q=>∃a p,∃ys:List Str,x=.str a/\xs=[.ref p]/\(cf X.K H p (ys.map V.str)\/ox X.K H p (ys.map V.str))/\
  (ys.map (·.length)).sum+ys.length*a.length<=16777216/\Q (.str (Rz a ys)) H) to te):=
 Gs F.slot_str_join F.type_str_join Zc ho he hs sY n9
end
end L2
namespace L2
open PySem PySem.Spec PyProof.Rows
section
variable{X:Cx}
def IU:yI X (compareOp .NotIn) (λx y H Q=>∃(c:Nat)(z:Str),x=.str ⟨#[c]⟩/\y=.str z/\Q (.bl (!decide (c∈z.cps.toList))) H):=by intro pins s σ H x y v u Q I rx ry h;rintro c z rfl rfl q:fD h;rintro t rfl:bW rx;rintro t' rfl:bW ry;show aiu (fC I q (congrArg Bool.not (ahi z c).symm))
end
def IsPart.raw{v:ag}{o:Option Int}(p:IsPart v o):∃l:Option (Int×X7),v=partValue l/\l.map (·.1)=o:=by
 cases p with
 |none=>show #[ia,none,rfl,rfl]
 |int i t=>show #[ia,some (i,t),rfl,rfl]
def M_(n d:Nat):Option Int->Int
 |none=>(d:Int)
 |some i=>max 0 (min (if i<0 then i+(n:Int) else i) (n:Int))
def Na(n d:Nat)(o:Option Int):M_ n d o=((HT.pF n d o:Nat):Int):=by
 cases o with
 |none=>rfl
 |some v=>
  change max (0:Int) (min (if v<0 then v+(n:Int) else v) (n:Int))=(((if v<0 then (v+(n:Int)).toNat else min v.toNat n):Nat):Int);by_cases hv:v<0;.simp only[if_pos hv];omega
  .simp only[if_neg hv];omega
def T_(a b:Option Int)(n:Nat):cW a b 1 n=sliceRange (M_ n 0 a) (M_ n n b) 1:=by
 have h1:((1:Int) > 0)=True:=by simp
 cases a<;>cases b<;>first
  |rfl
  |(simp only[cW,M_,h1,if_true];rfl)
  |simp[cW,M_]
def axe(a b:Option Int)(n:Nat):cW a b 1 n=(ay (HT.pF n n b - HT.pF n 0 a)).map (λk=>HT.pF n 0 a+k):=by
 rw[T_,Na,Na];generalize HT.pF n 0 a=p;generalize HT.pF n n b=q;simp only[sliceRange,show ((1:Int) > 0)=True from by simp,if_true];by_cases lr:(p:Int)<q
 .have e3:(((q:Int) - p+1 - 1) / 1).toNat=q - p:=by first|omega|(simp;done)|(simp;omega)
  simp only[lr,if_true,e3];show cJ λk _=>?_;omega
 .have:q - p=0:=by omega
  simp[lr,this]
def Ef(z:Str)(lo hi:Option Int):Str:=
 ⟨((z.cps.toList.drop (HT.pF z.length 0 lo)).take (HT.pF z.length z.length hi - HT.pF z.length 0 lo)).toArray⟩
def y9(z:Str)(lo hi:Option Int):gu z lo hi=Ef z lo hi:=by
 have h1:HT.pF z.length 0 lo<=z.length:=HT.WZ _ _ (bV _) _;have h2:HT.pF z.length z.length hi<=z.length:=HT.WZ _ _ (aA _) _;have hp:HT.pF z.length 0 lo<=max (HT.pF z.length 0 lo) (HT.pF z.length z.length hi):=Nat.le_max_left _ _;have hq:max (HT.pF z.length 0 lo) (HT.pF z.length z.length hi)<=z.length:=Nat.max_le.mpr ⟨h1,h2⟩;have hd:max (HT.pF z.length 0 lo) (HT.pF z.length z.length hi) - HT.pF z.length 0 lo=HT.pF z.length z.length hi - HT.pF z.length 0 lo:=by omega
 have e:cW lo hi 1 z.length =
  cW (some ((HT.pF z.length 0 lo:Nat):Int)) (some ((max (HT.pF z.length 0 lo) (HT.pF z.length z.length hi):Nat):Int)) 1 z.length:=by
  rw[ahk hp hq,hd,axe]
 have e2:gu z lo hi =
  gu z (some ((HT.pF z.length 0 lo:Nat):Int)) (some ((max (HT.pF z.length 0 lo) (HT.pF z.length z.length hi):Nat):Int)):=by
  unfold gu;rw[e]
 rw[e2,ahj z hp hq,hd];rfl
def Nb(z:Str)(lo hi:Option Int):(Ef z lo hi).length<=z.length:=by change (((z.cps.toList.drop (HT.pF z.length 0 lo)).take (HT.pF z.length z.length hi - HT.pF z.length 0 lo)).toArray).size<=z.cps.size;rw[ba,aM,iW,fX];omega
def ana:V->Option Int->Option Int->Hp->VK->Prop:=λx lo hi H Q=>∃z,x=.str z/\z.length<=sizeLine/\Q (.str (Ef z lo hi)) H
def Mh{X:Cx}:SlR X ana:=by
 intro pins s σ H x v vl vu lo hi sl Q I rx hs pl pu h;rintro z rfl hz q:gF h;rintro t rfl:bW rx;rintro os hos O_ hds:gF hs;rintro l rfl rfl:bM<|IsPart.raw pl
 rintro u rfl rfl:bM<|IsPart.raw pu;show #[ib,"str",_,F.slot_str_getitem.lookup,typeIs_str _ _ _,?_];show wpAny_getItem_str_slice (l:=l) (u:=u) (st:=none) #[ie,os,hos,O_,hds] rfl ?_;have hl:(gu z (l.map (·.1)) (u.map (·.1))).length<=sizeLine:=by rw[y9];show aE (Nb z _ _) hz
 rw[<-y9] at q;unfold gu at q hl;change Made.post (if ((1:Int)==1&&(cW (l.map (·.1)) (u.map (·.1)) 1 z.length).length==z.length)=true then Made.val (.str z t)
  else Made.str ⟨((cW (l.map (·.1)) (u.map (·.1)) 1 z.length).filterMap (z.cps[·]?)).toArray⟩) (EP X pins σ Q) s
 by_cases c:((1:Int)==1&&(cW (l.map (·.1)) (u.map (·.1)) 1 z.length).length==z.length)=true;.rw[if_pos c] at q ⊢;show #[ib,.str z,H,I,⟨t,rfl⟩,q]
 .rw[if_neg c] at q hl ⊢;show #[iz,hl,.str _,H,I.tok _,⟨⟨_,rfl⟩,q⟩]
end L2
namespace L2
open PySem PySem.Spec PyProof.Rows
def lK(s:cK)(j:Nat):cK:=match s with
 |.ClassDef _ _ _ body _ _ _ _ _ _ _=>body.getD j (.Pass ⟨0,0,0,0⟩)
 |_=>.Pass ⟨0,0,0,0⟩
def nQ(s:cK):pz:=match s with
 |.FunctionDef _ a _ _ _ _ _ _ _ _=>a
 |_=>{ posonlyargs:=[],args:=[],vararg:=none,kwonlyargs:=[],kw_defaults:=[],kwarg:=none,defaults:=[] }
def ll(s:cK):List cK:=match s with
 |.FunctionDef _ _ b _ _ _ _ _ _ _=>b
 |_=>[]
def aG(s:cK):jq:=match s with
 |.FunctionDef _ _ _ _ _ _ sc _ _ _=>sc
 |_=>{ kind:=.function,names:=[],isGenerator:=false,isCoroutine:=false }
abbrev gW:XB:=λ_ _ _ _ _ _=>False
abbrev E0:XK:=λ_ _ _=>False
def JL{X:Cx}:wc gW X E0:=λ_ _ _ _ _ _ _ h=>h.elim
structure i9(K:ad)(x qual:Str)(st:cK)(f:af)(fd:b_):Prop where
 ex:∃(oc:ag)(od:Option af)(kV doc pm:ag)(an:Option af)(gq ct:ag)(XW:Array (Option ag)),
  fd=gG x qual (nQ st) (ll st) (aG st) .none kV doc pm an gq ct/\K.lookup f=some ⟨oc,od,.func fd,XW⟩/\pB K gq qual=true
 kp:gR K (.ref f)=true
section
variable{P:aS}{w:bL}{K:ad}{mg:Str->Option ag}{base:cE}
def i9.ok{x qual:Str}{st:cK}{f:af}{fd:b_}{N ps:List Str}{k:Nat}{sp:Sp}(F:i9 K x qual st f fd)(S:aU N ps (aG st))(len:∀vs H Q E,sp vs H Q E->vs.length=ps.length)
 (pV:∀(gq:ag)(A:dD)(outer:List Kb)(s:ao)(H:Hp)(vs:List V)(Q:VK)(E:XK),jA k (A.deeper (BN qual (aG st) s.heap.objs.size f gq))->sp vs H Q E->
  ∃t,Pz (dj gW P w K mg base N qual (aG st) f gq A outer s H E).nox (ll st) t/\t { nx:=λ_ H'=>Q .non H',rt:=Q } (start N vs) H):cQ P w K mg base gW (k+1) f fd ps sp:=by
 rintro oc od kV doc pm an gq ct XW rfl lk Tt:vV 8 gF F.ex;show aaj lk Tt S len λA outer s H vs Q E hr MD=>?_;rintro t h q:bM<|pV gq A outer s H vs Q E hr MD;show #[ia,t,h.nox,q]
def i9.binds{x qual:Str}{st:cK}{f:af}{fd:b_}{ps:List Str}(F:i9 K x qual st f fd)
 (h:∀(kV doc pm:ag)(an:Option af)(gq ct:ag)(us:List ag),us.length=ps.length->yb (gG x qual (nQ st) (ll st) (aG st) .none kV doc pm an gq ct) ⟨us,[]⟩=pure (ps.zip us)):Binds K fd ps []:=by
 rintro oc od kV doc pm an gq ct XW rfl lk Tt:vV 8 gF F.ex;show .all (h kV doc pm an gq ct)
def VH{x qual:Str}{st:cK}{f:af}{oc:ag}{od an:Option af}{XW:Array (Option ag)}{kV doc pm gq ct:ag}(l:K.lookup f=some ⟨oc,od,.func (gG x qual (nQ st) (ll st) (aG st) .none kV doc pm an gq ct),XW⟩)
 (c:pB K gq qual=true) (k:gR K (.ref f)=true):i9 K x qual st f (gG x qual (nQ st) (ll st) (aG st) .none kV doc pm an gq ct):=⟨#[iw,oc,od,kV,doc,pm,an,gq,ct,#[ie,XW,rfl,l,c]],k⟩
end
def fJ{A:dD}{k:Nat}(hr:jA k A):A.units+1<ot:=qv (pI (by decide:1<=64) _) hr.units
section
variable{X:Cx}
def pv(i:Nat){x:Str}{pos:km}(hN:X.N[i]? = some x:=by rfl)(hv:Vis X.env.scope x:=by first|show J9 rfl|show BT (J9 rfl)|show BT (BT rfl))(hd:(x==("__debug__":Str))=false:=by decide)
 (Tt:(x==("__classdict__":Str))=false:=by decide):PE X (.Name x pos) (rZ i):=aft hN hv hd Tt
def S7:me X (.builtin "len") (λxs H Q=>∃a aQ,xs=[V.ref a]/\H a=some (.dK aQ)/\Q (.int aQ.length) H):=by
 intro pins s σ H xs us Q I r h;rintro a aQ rfl ha q:fD h;rintro u rfl ru:bM<|vals1 r
 cases ru;show ajv I (.inl ha) λt s' I'=>#[ib,.int aQ.length,H,I',⟨t,rfl⟩,q]
end
def aq(H H':Hp):Prop:=∀b o,H b=some o->H' b=some o
def aq.refl(H:Hp):aq H H:=λ_ _ h=>h
def aq.trans{H H1 H2:Hp}(a:aq H H1)(b:aq H1 H2):aq H H2:=λc o h=>b c o (a c o h)
def aq.free{H H':Hp}(e:aq H H'){l:af}(h:H' l=Z1):H l=Z1:=by
 cases q:H l with
 |none=>rfl
 |some o=>rw[e l o q] at h;cases h
def aq.seq{K:ad}{H H':Hp}{a:af}{xs:List V}(e:aq H H')(h:cf K H a xs):cf K H' a xs:=by
 rcases h with (h|⟨o,h⟩)|h;.show .inl (.inl (e _ _ h))
 .show .inl (.inr ⟨o,e _ _ h⟩)
 .show .inr h
section
variable{κ:Type}[DecidableEq κ]
def Xm{aQ:List (κ×V)}{k:κ}(h:dy aQ k=none):¬k∈aQ.map (·.1):=by
 intro m;rintro p hp e:bM<|List.mem_map.mp m
 have q:(aQ.any λkv=>decide (kv.1=k))=true:=jE.mpr #[ia,p,hp,decide_eq_true e];rw[mW,h] at q;show absurd q (by simp)
def ZW{aQ:List (κ×V)}{k:κ}{v:V}(h:dy aQ k=some v):k∈aQ.map (·.1):=by
 have q:(aQ.any λkv=>decide (kv.1=k))=true:=by rw[mW,h];all_goals rfl
 rintro p hp e:bM<|List.any_eq_true.mp q;show aY.mpr #[ia,p,hp,of_decide_eq_true e]
theorem Sf:∀{l:List κ}{k:κ},l.Nodup->¬k∈l->(l++[k]).Nodup
 |[],k,_,_=>by simp
 |a::r,k,h,hk=>by
  rintro h1 h2:fo<|List.nodup_cons.mp h;change (a::(r++[k])).Nodup;show bJ.mpr ⟨λm=>?_,Sf h2 λm=>hk (aD.mpr (BT m))⟩;rcases br.mp m with q|q;.show h1 q
  .show hk (aD.mpr (J9 (aX.mp q).symm))
def Ze{aQ:List (κ×V)}{k:κ}(v:V)(hn:(aQ.map (·.1)).Nodup)(h:dy aQ k=none):((k_ aQ k v).map (·.1)).Nodup:=by rw[WI v h,aj];show Sf hn (Xm h)
end
def aba{α:Type}{l:List α}(hN:l.Nodup){i j:Nat}{x:α}(a:l[i]? = some x)(b:l[j]? = some x):i=j:=by rintro h1 e1:bW<|List.getElem?_eq_some_iff.mp a;rintro h2 e2:bW<|List.getElem?_eq_some_iff.mp b;show (tV hN).mp (e1.trans e2.symm)
end L2
namespace L2
open PySem PySem.Spec PyProof.Rows
open PySem.W (WData Codec OpenSpec Well WellAll ReadsW ReadsAllW)
mutual
inductive Dw(K:ad)(H:Hp):V->kQ->Prop
 |non:Dw K H .non .none
 |bl (b:Bool):Dw K H (.bl b) (.bool b)
 |int (i:Int):Dw K H (.int i) (.int i)
 |str (x:Str):Dw K H (.str x) (.str x)
 |KS (b:Array UInt8):Dw K H (.KS b) (.bytes b.toList)
 |lst {a:af} {xs:List V} {ds:List kQ}:cf K H a xs->sM K H xs ds->Dw K H (.ref a) (.list ds)
 |tup {a:af} {xs:List V} {ds:List kQ}:ox K H a xs->sM K H xs ds->Dw K H (.ref a) (.tuple ds)
inductive sM(K:ad)(H:Hp):List V->List kQ->Prop
 |nil:sM K H [] []
 |cons {v:V} {vs:List V} {d:kQ} {ds:List kQ}:Dw K H v d->sM K H vs ds->sM K H (v::vs) (d::ds)
end
theorem RQ{K:ad}{H:Hp}:∀ns:List Int,sM K H (ns.map V.int) (ns.map ajj)
 |[]=>.nil
 |n::r=>.cons (.int n) (RQ r)
theorem R8{K:ad}{H:Hp}:∀(ns:List Int)(xs:List V),sM K H xs (ns.map ajj)->xs=ns.map V.int
 |[],xs,h=>by
  cases h;rfl
 |n::r,xs,h=>by
  cases h with
  |cons h1 h2=>cases h1;rw[R8 r _ h2]<;>rfl
section
variable{P:aS}{w:bL}{K:ad}{H:Hp}{h:cE}{R:RA}{cl:Str->Option af}
def agq{a:af}{xs:List V}(eU:vA P w H h)(KX:K.In h)(q:cf K H a xs):∃(its:List ag)(o:iG)(n:Nat),eV xs its/\h.get? a=some o/\o.cls=.type "list"/\o.data=.seq its.toArray n:=by
 rcases q with q|⟨o,its,n,e,hc,_,hd,_,hv⟩;.rintro _ its n hv e:N3<|(show iY P w H h a (.lst xs) from q.ok eU);show #[ii,its,_,n,hv,e,⟨rfl,rfl⟩]
 .show #[ii,its.toList,o,n,hv,KX _ _ e,⟨hc,by simp[hd]⟩]
def agr{a:af}{xs:List V}(eU:vA P w H h)(KX:K.In h)(q:ox K H a xs):∃(its:List ag)(o:iG)(n:Nat),eV xs its/\h.get? a=some o/\o.cls=.type "tuple"/\o.data=.seq its.toArray n:=by
 rcases q with q|⟨o,its,n,e,hc,hd,_,hv⟩;.rintro _ its hv o e hc n hd:EQ 3 gF 3 bW<|(show iY P w H h a (.tup xs) from q.ok eU);show #[ii,its,o,n,hv,e,⟨hc,hd⟩]
 .show #[ii,its.toList,o,n,hv,KX _ _ e,⟨hc,by simp[hd]⟩]
mutual
theorem Dw.reads(eU:vA P w H h)(KX:K.In h):∀(d:kQ)(v:V)(u:ag),Dw K H v d->RelV v u->∃as,ReadsW R cl h u d as
 |.none,_,_,x,r=>by
  cases x;cases r;show⟨_,ReadsW.none⟩
 |.bool b,_,_,x,r=>by
  cases x;cases r;show⟨_,ReadsW.bool b⟩
 |.int i,_,_,x,r=>by
  cases x;rintro t rfl:bW r;show⟨_,ReadsW.int i t⟩
 |.str s,_,_,x,r=>by
  cases x;rintro t rfl:bW r;show⟨_,ReadsW.str s t⟩
 |.bytes b,_,_,x,r=>by
  cases x;rintro t rfl:bW r;show⟨_,ReadsW.bytes _ t⟩
 |.list ds,_,_,x,r=>by
  cases x with
  |lst hs ha=>cases r;rintro its o n rv ho hc hd:rD 5 fo<|agq eU KX hs;rintro as hr:bW<|Dw.readsAll eU KX ds _ its ha rv;show⟨_,ReadsW.list ho hc hd hr⟩
 |.tuple ds,_,_,x,r=>by
  cases x with
  |tup hs ha=>cases r;rintro its o n rv ho hc hd:rD 5 fo<|agr eU KX hs;rintro as hr:bW<|Dw.readsAll eU KX ds _ its ha rv;show⟨_,ReadsW.tuple ho hc hd hr⟩
 |.float _,_,_,x,_=>by cases x
 |.dict _,_,_,x,_=>by cases x
 |.bytearray _,_,_,x,_=>by cases x
 |.set _,_,_,x,_=>by cases x
 |.frozenset _,_,_,x,_=>by cases x
 |.obj _ _,_,_,x,_=>by cases x
theorem Dw.readsAll(eU:vA P w H h)(KX:K.In h):∀(ds:List kQ)(vs:List V)(us:List ag),sM K H vs ds->eV vs us->∃as,ReadsAllW R cl h us ds as
 |[],_,_,x,r=>by
  cases x;cases r;show⟨_,ax4⟩
 |d::ds,_,_,x,r=>by
  cases x with
  |cons h1 h2=>
   cases r with
   |cons r1 r2=>rintro as q1:bW<|Dw.reads eU KX d _ _ h1 r1;rintro bs q2:bW<|Dw.readsAll eU KX ds _ _ h2 r2;show⟨_,ax3 q1 q2⟩
end
end
mutual
def Sq:kQ->Bool
 |.none=>true
 |.bool _=>true
 |.int _=>true
 |.str _=>true
 |.bytes _=>true
 |.list xs=>Er xs
 |.tuple xs=>Er xs
 |_=>false
def Er:List kQ->Bool
 |[]=>true
 |x::r=>Sq x&&Er r
end
theorem On{α:Type}{f:α->kQ}(h:∀a,Sq (f a)=true):∀l:List α,Er (l.map f)=true
 |[]=>rfl
 |x::r=>by
  change (Sq (f x)&&Er (r.map f))=true;rw[h x,On h r]<;>rfl
theorem xj:∀(c:Codec)(a:c.denote),Sq (c.enc a)=true
 |.unit,_=>rfl
 |.bool,_=>rfl
 |.int _ _,_=>rfl
 |.nat _ _,_=>rfl
 |.u8,_=>rfl
 |.bytes _ _,_=>rfl
 |.text _ _ _ _,_=>rfl
 |.list _ _ c,a=>On (λx=>xj c x) a
 |.pair c d,a=>by
  change (Sq (c.enc a.1)&&(Sq (d.enc a.2)&&true))=true;rw[xj c a.1,xj d a.2]<;>rfl
 |.triple c d e,a=>by
  change (Sq (c.enc a.1)&&(Sq (d.enc a.2.1)&&(Sq (e.enc a.2.2)&&true)))=true;rw[xj c a.1,xj d a.2.1,xj e a.2.2]<;>rfl
 |.option c,none=>rfl
 |.option c,some x=>xj c x
theorem JO:∀(cs:List Codec)(a:Ez cs),Er (vv cs a)=true
 |[],_=>rfl
 |c::cs,a=>by
  change (Sq (c.enc a.1)&&Er (vv cs a.2))=true;rw[xj c a.1,JO cs a.2]<;>rfl
theorem Ap:∀{xs:List kQ}{d:kQ},d∈xs->d.weight<=vQ xs
 |[],d,h=>absurd h (by simp)
 |x::r,d,h=>by
  change d.weight<=x.weight+1+vQ r;rcases aD.mp h with e|m;.rw[e];omega
  .have z:=Ap m;omega
def MF:ag->V
 |.none=>.non
 |.bool b=>.bl b
 |.int i _=>.int i
 |.str x _=>.str x
 |.bytes b _=>.KS b
 |.ref a=>.ref a
 |_=>.non
def S2(A:List af):ag->Prop
 |.none=>True
 |.bool _=>True
 |.int _ _=>True
 |.str _ _=>True
 |.bytes _ _=>True
 |.ref a=>a∈A
 |_=>False
def S2.mono{A B:List af}(h:∀a∈A,a∈B):∀{u:ag},S2 A u->S2 B u:=λ{u}x=>by
 cases u with
 |ref a=>show h a x
 |none=>trivial
 |bool b=>trivial
 |int i t=>trivial
 |str s t=>trivial
 |bytes b t=>trivial
 |_=>show ee x
def WY{A:List af}{u:ag}(x:S2 A u):RelV (MF u) u:=by
 cases u with
 |ref a=>rfl
 |none=>rfl
 |bool b=>rfl
 |int i t=>show⟨t,rfl⟩
 |str s t=>show⟨t,rfl⟩
 |bytes b t=>show⟨t,rfl⟩
 |_=>show ee x
theorem tQ{A:List af}:∀{vs:List ag},(∀u∈vs,S2 A u)->eV (vs.map MF) vs
 |[],_=>.nil
 |u::r,h=>.cons (WY (h u (aJ ..))) (tQ λx hx=>h x (au _ hx))
def vy(h:cE)(A:List af)(a:af):Prop:=∃vs:List ag,vs.length<=sizeLine/\(∀u∈vs,S2 A u)/\
 (h.get? a=some { cls:=.type "list",data:=.seq vs.toArray }\/h.get? a=some { cls:=.type "tuple",data:=.seq vs.toArray })
theorem vy.mono{h:cE}{A B:List af}{a:af}(k:∀a∈A,a∈B)(x:vy h A a):vy h B a:=by rintro vs h1 h2 h3:gF x;show #[ie,vs,h1,λu hu=>(h2 u hu).mono k,h3]
theorem qN{P:Ji}{h:cE}:∀{vs:List ag}{ds:List kQ},BW P h vs ds->vs.length=ds.length
 |_,_,.nil=>rfl
 |_,_,.cons _ b=>by
  change _+1=_+1;rw[qN b]
def J4{P:Ji}{h:cE}{v:ag}{ds:List kQ}(x:Well P h v (.list ds)):∃(a:af)(vs:List ag),v=.ref a/\h.get? a=some { cls:=.type "list",data:=.seq vs.toArray }/\BW P h vs ds:=by
 cases x with
 |list ho nG=>show #[ib,_,_,rfl,ho,nG]
def Hg{P:Ji}{h:cE}{v:ag}{ds:List kQ}(x:Well P h v (.tuple ds)):∃(a:af)(vs:List ag),v=.ref a/\h.get? a=some { cls:=.type "tuple",data:=.seq vs.toArray }/\BW P h vs ds:=by
 cases x with
 |tuple ho nG=>show #[ib,_,_,rfl,ho,nG]
def J3{P:Ji}{h:cE}{us:List ag}{d:kQ}{ds:List kQ}(x:BW P h us (d::ds)):∃(v:ag)(vs:List ag),us=v::vs/\Well P h v d/\BW P h vs ds:=by
 cases x with
 |cons a b=>show #[ib,_,_,rfl,a,b]
def Sc{n:Nat}(h:n<=1048576):n<=sizeLine:=aE h (by decide)
section
variable{P:Ji}{h:cE}
mutual
theorem Vd:∀(d:kQ)(v:ag),Well P h v d->Sq d=true->d.weight<=1048576->∃A:List af,S2 A v/\∀a∈A,vy h A a
 |.none,_,x,_,_=>by
  cases x;show #[ia,[],trivial,λa m=>absurd m (by simp)]
 |.bool b,_,x,_,_=>by
  cases x;show #[ia,[],trivial,λa m=>absurd m (by simp)]
 |.int i,_,x,_,_=>by
  cases x;show #[ia,[],trivial,λa m=>absurd m (by simp)]
 |.str s,_,x,_,_=>by
  cases x;show #[ia,[],trivial,λa m=>absurd m (by simp)]
 |.bytes b,_,x,_,_=>by
  cases x;show #[ia,[],trivial,λa m=>absurd m (by simp)]
 |.list ds,_,x,p,z=>by
  rintro a vs rfl ho nG:fD<|J4 x;have z2:vQ ds<=1048576:=z;rintro A h1 h2:bM<|AM ds _ nG p λd hd=>aE (Ap hd) z2;have k:∀b∈A,b∈a::A:=λb hb=>au _ hb;show #[ia,a::A,aJ ..,λb hb=>?_];rcases aD.mp hb with e|m;.rw[e];show #[ie,vs,Sc (by rw[qN nG];show aE (Dk ds) z2),λu hu=>(h1 u hu).mono k,.inl ho]
  .show (h2 b m).mono k
 |.tuple ds,_,x,p,z=>by
  rintro a vs rfl ho nG:fD<|Hg x;have z2:vQ ds<=1048576:=z;rintro A h1 h2:bM<|AM ds _ nG p λd hd=>aE (Ap hd) z2;have k:∀b∈A,b∈a::A:=λb hb=>au _ hb;show #[ia,a::A,aJ ..,λb hb=>?_];rcases aD.mp hb with e|m;.rw[e];show #[ie,vs,Sc (by rw[qN nG];show aE (Dk ds) z2),λu hu=>(h1 u hu).mono k,.inr ho]
  .show (h2 b m).mono k
 |.float _,_,_,p,_=>dR (show false=true from p)
 |.dict _,_,_,p,_=>dR (show false=true from p)
 |.bytearray _,_,_,p,_=>dR (show false=true from p)
 |.set _,_,_,p,_=>dR (show false=true from p)
 |.frozenset _,_,_,p,_=>dR (show false=true from p)
 |.obj _ _,_,_,p,_=>dR (show false=true from p)
theorem AM:∀(ds:List kQ)(vs:List ag),BW P h vs ds->Er ds=true->(∀d∈ds,d.weight<=1048576)->∃A:List af,(∀u∈vs,S2 A u)/\∀a∈A,vy h A a
 |[],_,x,_,_=>by
  cases x;show #[ia,[],λu m=>absurd m (by simp),λa m=>absurd m (by simp)]
 |d::ds,_,x,p,z=>by
  rintro v vs rfl x1 x2:fD<|J3 x;have q:Sq d=true/\Er ds=true:=Pd.mp p;rintro A a1 a2:bM<|Vd d v x1 q.1 (z d (aJ ..));rintro B b1 b2:bM<|AM ds vs x2 q.2 λe he=>z e (au _ he);have kA:∀b∈A,b∈A++B:=λb hb=>br.mpr (.inl hb);have kB:∀b∈B,b∈A++B:=λb hb=>br.mpr (.inr hb);show #[ia,A++B,λu hu=>?_,λb hb=>?_]
  .rcases aD.mp hu with e|m;.rw[e];show a1.mono kA
   .show (b1 u m).mono kB
  .rcases br.mp hb with m|m;.show (a2 b m).mono kA
   .show (b2 b m).mono kB
end
end
def YN(o:iG):Option HO:=match o.data with
 |.seq vs _=>if (o.cls==kP "list")=true then some (.oO o (.lst (vs.toList.map MF))) else some (.oO o (.tup (vs.toList.map MF)))
 |_=>none
def ue(K:ad)(h:cE)(A:List af):Hp:=λb=>if b∈A then (if (K.lookup b).isNone=true then (h.get? b).bind YN else none) else none
def aad(H:Hp):Prop:=∀b,H b=none\/∃o u,H b=some (.oO o u)
def NJ(vs:List ag):YN { cls:=.type "list",data:=.seq vs.toArray }=some (.oO { cls:=.type "list",data:=.seq vs.toArray } (.lst (vs.map MF))):=by change (if (kP "list"==kP "list")=true then some (HO.oO { cls:=.type "list",data:=.seq vs.toArray } (.lst (vs.toArray.toList.map MF))) else some (HO.oO { cls:=.type "list",data:=.seq vs.toArray } (.tup (vs.toArray.toList.map MF))))=_;rw[if_pos (beq_self_eq_true _)]
def NK(vs:List ag):YN { cls:=.type "tuple",data:=.seq vs.toArray }=some (.oO { cls:=.type "tuple",data:=.seq vs.toArray } (.tup (vs.map MF))):=by change (if (kP "tuple"==kP "list")=true then some (HO.oO { cls:=.type "tuple",data:=.seq vs.toArray } (.lst (vs.toArray.toList.map MF))) else some (HO.oO { cls:=.type "tuple",data:=.seq vs.toArray } (.tup (vs.toArray.toList.map MF))))=_;rw[if_neg (by decide)]
section
variable{P:aS}{w:bL}{K:ad}{h:cE}{A:List af}
def EE{b:af}{o:iG}(hb:b∈A)(hk:K.lookup b=none)(e:h.get? b=some o):ue K h A b=YN o:=by unfold ue;rw[if_pos hb,hk,if_pos (show (none:Option iG).isNone=true from rfl),e]<;>rfl
def Zi{b:af}{u:HO}(q:ue K h A b=some u):b∈A/\K.lookup b=none:=by
 unfold ue at q;by_cases hb:b∈A
 .rw[if_pos hb] at q;cases hk:K.lookup b with
  |none=>show⟨hb,rfl⟩
  |some o=>rw[hk,if_neg (by simp)] at q;cases q
 .rw[if_neg hb] at q;cases q
def EF(ar:∀a∈A,vy h A a){b:af}{u:HO}(q:ue K h A b=some u):K.lookup b=none/\∃vs:List ag,vs.length<=sizeLine/\(∀u∈vs,S2 A u)/\
 ((h.get? b=some { cls:=.type "list",data:=.seq vs.toArray }/\u=.oO { cls:=.type "list",data:=.seq vs.toArray } (.lst (vs.map MF)))\/
  (h.get? b=some { cls:=.type "tuple",data:=.seq vs.toArray }/\u=.oO { cls:=.type "tuple",data:=.seq vs.toArray } (.tup (vs.map MF)))):=by
 rintro hb hk:fo<|Zi q;rintro vs h1 h2 h3:gF<|ar b hb;show #[io,hk,vs,h1,⟨h2,?_⟩];rcases h3 with e|e;.rw[EE hb hk e,NJ] at q;show .inl ⟨e,(bp q).symm⟩
 .rw[EE hb hk e,NK] at q;show .inr ⟨e,(bp q).symm⟩
def S4(ar:∀a∈A,vy h A a):aad (ue K h A):=λb=>by
 cases q:ue K h A b with
 |none=>show .inl rfl
 |some u=>
  rintro _ vs _ _ (⟨_,e⟩|⟨_,e⟩):EQ 3 fo<|EF ar q;.show .inr #[ir,_,_,by rw[e]]
  .show .inr #[ir,_,_,by rw[e]]
def Yl(ar:∀a∈A,vy h A a):vA P w (ue K h A) h:=λb u q=>by
 rintro _ vs h1 h2 (⟨e,rfl⟩|⟨e,rfl⟩):EQ 3 fo<|EF ar q;.show #[ic,e,by rw[ab];show h1,#[im,vs,_,tQ h2,e]]
 .show #[iA,e,by rw[ab];show h1,vs,tQ h2,#[ie,_,e,rfl,⟨_,rfl⟩]]
def EX{c c':ag}{vs us:List ag}(e:(some { cls:=c,data:=.seq vs.toArray }:Option iG)=some { cls:=c',data:=.seq us.toArray }):c=c'/\vs=us:=by have e1:=bp e;have e2:c=c':=congrArg Obj.cls e1;have e3:X6 vs.toArray=X6 us.toArray:=congrArg Obj.data e1;injection e3 with e4;show⟨e2,?_⟩;have e5:=congrArg BL e4;simpa using e5
def ark(KX:K.In h)(ar:∀a∈A,vy h A a){a:af}{vs:List ag}(ha:a∈A)(e:h.get? a=some { cls:=.type "list",data:=.seq vs.toArray }):(∀u∈vs,S2 A u)/\cf K (ue K h A) a (vs.map MF):=by
 rintro us h1 h2 h3:gF<|ar a ha;have hu:us=vs:=by
  rcases h3 with q|q;.rw[e] at q;show (EX q).2.symm
  .rw[e] at q;show absurd (Pn (EX q).1) (by decide)
 subst hu;show⟨h2,?_⟩;cases hk:K.lookup a with
 |none=>show .inl (.inr ⟨_,by rw[EE ha hk e,NJ]⟩)
 |some o=>have e2:=KX a o hk;rw[e] at e2;obtain rfl:=bp e2;show .inr #[ii,_,us.toArray,_,hk,rfl,#[ij,rfl,rfl,by rw[ba];show h1,by simpa using tQ h2]]
def arl(KX:K.In h)(ar:∀a∈A,vy h A a){a:af}{vs:List ag}(ha:a∈A)(e:h.get? a=some { cls:=.type "tuple",data:=.seq vs.toArray }):(∀u∈vs,S2 A u)/\ox K (ue K h A) a (vs.map MF):=by
 rintro us h1 h2 h3:gF<|ar a ha;have hu:us=vs:=by
  rcases h3 with q|q;.rw[e] at q;show absurd (Pn (EX q).1) (by decide)
  .rw[e] at q;show (EX q).2.symm
 subst hu;show⟨h2,?_⟩;cases hk:K.lookup a with
 |none=>show .inl (.inr ⟨_,by rw[EE ha hk e,NK]⟩)
 |some o=>have e2:=KX a o hk;rw[e] at e2;obtain rfl:=bp e2;show .inr #[ii,_,us.toArray,_,hk,rfl,#[ic,rfl,by rw[ba];show h1,by simpa using tQ h2]]
mutual
theorem ac6{Pm:Ji}(KX:K.In h)(ar:∀a∈A,vy h A a):∀(d:kQ)(v:ag),Well Pm h v d->Sq d=true->S2 A v->Dw K (ue K h A) (MF v) d
 |.none,_,x,_,_=>by
  cases x;show .non
 |.bool b,_,x,_,_=>by
  cases x;show .bl b
 |.int i,_,x,_,_=>by
  cases x;show .int i
 |.str s,_,x,_,_=>by
  cases x;show .str s
 |.bytes b,_,x,_,_=>by
  cases x;have z:=Dw.KS (K:=K) (H:=ue K h A) b.toArray;show z
 |.list ds,_,x,p,hu=>by
  rintro a vs rfl ho nG:fD<|J4 x;rintro h2 hs:fo<|ark KX ar hu ho;show .lst hs (K1 KX ar ds _ nG p h2)
 |.tuple ds,_,x,p,hu=>by
  rintro a vs rfl ho nG:fD<|Hg x;rintro h2 hs:fo<|arl KX ar hu ho;show .tup hs (K1 KX ar ds _ nG p h2)
 |.float _,_,_,p,_=>dR (show false=true from p)
 |.dict _,_,_,p,_=>dR (show false=true from p)
 |.bytearray _,_,_,p,_=>dR (show false=true from p)
 |.set _,_,_,p,_=>dR (show false=true from p)
 |.frozenset _,_,_,p,_=>dR (show false=true from p)
 |.obj _ _,_,_,p,_=>dR (show false=true from p)
theorem K1{Pm:Ji}(KX:K.In h)(ar:∀a∈A,vy h A a):∀(ds:List kQ)(vs:List ag),BW Pm h vs ds->Er ds=true->(∀u∈vs,S2 A u)->sM K (ue K h A) (vs.map MF) ds
 |[],_,x,_,_=>by
  cases x;show .nil
 |d::ds,_,x,p,hu=>by
  rintro v vs rfl x1 x2:fD<|J3 x;have q:Sq d=true/\Er ds=true:=Pd.mp p;show .cons (ac6 KX ar d v x1 q.1 (hu _ (aJ ..))) (K1 KX ar ds vs x2 q.2 λu m=>hu u (au _ m))
end
end
def FU{ds:List kQ}(h:WData.layableAll ds=true):∀d∈ds,d.weight<=1048576:=λd hd=>(PySem.W.layableW_iff.mp (bB.mp h d hd)).2.2
theorem Fq:∀(cs:List Codec)(a:Ez cs),(vv cs a).length=cs.length
 |[],_=>rfl
 |c::cs,a=>by
  change (vv cs a.2).length+1=cs.length+1;rw[Fq cs a.2]
end L2
namespace TT
end TT
open PySem PySem.Spec PyProof.Rows L2 TT
section
namespace TT
class RdS(X:Prop)(Y:outParam Prop):Prop where
 h:Y->X
structure fP(P:aS)(w:bL)(K:ad)(mg:Str->Option ag)(base:cE)(k:Nat)(x:Str)(ps:List Str)(sp:Sp):Prop where
 ex:∃f fd,cQ P w K mg base gW k f fd ps sp/\mg x=some (.ref f)/\gR K (.ref f)=true/\Binds K fd ps []
structure MY(P:aS)(w:bL)(K:ad)(mg:Str->Option ag)(base:cE)(k:Nat)(x:Str)(C:af)(ps:List Str)(sp:Sp):Prop where
 ex:∃f fd,cQ P w K mg base gW k f fd ps sp/\Mk K C f/\mg x=some (.ref C)/\Binds K fd ps []
structure Me1(P:aS)(w:bL)(K:ad)(mg:Str->Option ag)(base:cE)(k:Nat)(C:af)(m:Str)(ps:List Str)(sp:Sp):Prop where
 ex:∃f fd,cQ P w K mg base gW k f fd ps sp/\Pu K C/\X0 K C m f/\Binds K fd ps []
section
variable{X:Cx}{k k':Nat}{C:af}{ps:List Str}{sp:Sp}{x m:Str}{p pos apos:km}{o e:Expr}{es:List Expr}{ta:TE}{t:TA}
def bC(B:fP X.prog X.w X.K X.mg X.base k x ps sp)(hr:jA k' X.A)(ha:PA X (e::es) t)(hg:Gl X x:=by rfl)(hle:k<=k':=by decide)
 (P9:(x==("__debug__":Str))=false:=by decide) (he:bi (e::es) X.env=(false,eval e X.env)::bi es X.env:=by rfl) (yu:(iU pos (bi es X.env)).any (·.1)=false:=by rfl):
 PE X (.Call (.Name x p) (e::es) [] pos) (SN sp [] E0 t):=by
 rintro f fd F hm hk hb:lA B.ex;show Zl F (hr.mono hle) hg hm hk hb .nil JL ha P9 he yu
def tu(B:MY X.prog X.w X.K X.mg X.base k x C ps sp)(hr:jA k' X.A)(ha:PA X (e::es) t)(hg:Gl X x:=by rfl)(hle:k+1<=k':=by decide)
 (P9:(x==("__debug__":Str))=false:=by decide) (he:bi (e::es) X.env=(false,eval e X.env)::bi es X.env:=by rfl) (yu:(iU pos (bi es X.env)).any (·.1)=false:=by rfl):
 PE X (.Call (.Name x p) (e::es) [] pos) (G9 C sp [] E0 t):=by
 rintro f fd F M hm hb:lA B.ex;show Zo M F (hr.mono hle) hg hm hb .nil JL ha P9 he yu
def LT(B:MY X.prog X.w X.K X.mg X.base k x C ps sp)(hr:jA k' X.A)(hg:Gl X x:=by rfl)(hle:k+1<=k':=by decide)
 (P9:(x==("__debug__":Str))=false:=by decide):
 PE X (.Call (.Name x p) [] [] pos) (G9 C sp [] E0 vY):=by
 rintro f fd F M hm hb:lA B.ex;show Wy M F (hr.mono hle) hg hm hb .nil JL P9
end
section
variable{K:ad}{σ:L2.St}{H H1 H2:Hp}{Q:VK}{D:qO}{ta tb tc te tl:TE}{t u:TS}{tt tt':TT}{x0:TA}{g:TG}{i j:Nat}{v x y:V}{f:Str}{r r':R2}
def fQ(K:ad)(f:Str)(Q:VK)(x:V)(H1:Hp):Prop:=∃a C dx fs v,x=.ref a/\H1 a=some (.ins C dx fs)/\Pu K C/\pO K C f/\fs.lookup f=some v/\Q v H1
def kBl(Q:Bool->Hp->Prop)(x:V)(H:Hp):Prop:=∃k,x=.bl k/\Q k H
def mO(h:t { D with nx:=u D } σ H):ZQ t u D σ H:=h
instance:RdS (ZQ t u D σ H) (t { D with nx:=u D } σ H):=⟨mO⟩
def agf(h:D.nx σ H):SQ D σ H:=h
instance:RdS (SQ D σ H) (D.nx σ H):=⟨agf⟩
def anf(h:te σ H λx H1=>g x σ H1 D.nx):OI te g D σ H:=h
instance:RdS (OI te g D σ H) (te σ H λx H1=>g x σ H1 D.nx):=⟨anf⟩
def QR(h:te σ H λ_ H1=>D.nx σ H1):SO te D σ H:=h
instance:RdS (SO te D σ H) (te σ H λ_ H1=>D.nx σ H1):=⟨QR⟩
def an1(h:te σ H D.rt):Rh te D σ H:=h
instance:RdS (Rh te D σ H) (te σ H D.rt):=⟨an1⟩
def ang(h:D.bk σ H):Rb D σ H:=h
instance:RdS (Rb D σ H) (D.bk σ H):=⟨ang⟩
def awv(h:tt σ H λb H1=>if b=true then t D σ H1 else u D σ H1):Xg tt t u D σ H:=h
instance:RdS (Xg tt t u D σ H) (tt σ H λb H1=>if b=true then t D σ H1 else u D σ H1):=⟨awv⟩
def anq{Q:VK}(h:tt σ H λc H1=>if c=true then ta σ H1 Q else tb σ H1 Q):tIf tt ta tb σ H Q:=h
instance{Q:VK}:RdS (tIf tt ta tb σ H Q) (tt σ H λc H1=>if c=true then ta σ H1 Q else tb σ H1 Q):=⟨anq⟩
def L5{σ':L2.St}{N:L2.St->Hp->Prop}(h:N σ' H)(e:σ.set i (some v)=σ':=by rfl):qD i v σ H N:=by subst e;show h
def an3(e:σ[i]? = some (some v))(h:Q v H):rZ i σ H Q:=#[ia,v,e,h]
def r_c(h:Q v H):tC v σ H Q:=h
instance:RdS (tC v σ H Q) (Q v H):=⟨r_c⟩
def aw0(h:ta σ H λx H1=>tb σ H1 λy H2=>r x y H2 Q):Ub r ta tb σ H Q:=h
instance:RdS (Ub r ta tb σ H Q) (ta σ H λx H1=>tb σ H1 λy H2=>r x y H2 Q):=⟨aw0⟩
def aw5{rr:V->Hp->VK->Prop}(h:ta σ H λx H1=>rr x H1 Q):tUn rr ta σ H Q:=h
instance{rr:V->Hp->VK->Prop}:RdS (tUn rr ta σ H Q) (ta σ H λx H1=>rr x H1 Q):=⟨aw5⟩
def awu{gg:Int->Int->V}{a b:Int}(h:Q (gg a b) H):WK gg (.int a) (.int b) H Q:=#[ib,a,b,rfl,rfl,h]
instance{gg:Int->Int->V}{a b:Int}:RdS (WK gg (.int a) (.int b) H Q) (Q (gg a b) H):=⟨awu⟩
def QS{C:Int->Int->Prop}{gg:Int->Int->V}{a b:Int}(c:C a b)(h:Q (gg a b) H):rI C gg (.int a) (.int b) H Q:=#[ib,a,b,rfl,rfl,⟨c,h⟩]
def r_u{gg:Int->V}{a:Int}(h:Q (gg a) H):rU gg (.int a) H Q:=#[ia,a,rfl,h]
instance{gg:Int->V}{a:Int}:RdS (rU gg (.int a) H Q) (Q (gg a) H):=⟨r_u⟩
def ank{a b:Int}(h:Q (.bl (decide (a=b))) H):rEq (.int a) (.int b) H Q:=⟨rfl,by rw[show decide (V.int a=V.int b)=decide (a=b) from by simp];show h⟩
instance{a b:Int}:RdS (rEq (.int a) (.int b) H Q) (Q (.bl (decide (a=b))) H):=⟨ank⟩
def anw{a b:Int}(h:Q (.bl (!decide (a=b))) H):rNe (.int a) (.int b) H Q:=⟨rfl,by rw[show decide (V.int a=V.int b)=decide (a=b) from by simp];show h⟩
instance{a b:Int}:RdS (rNe (.int a) (.int b) H Q) (Q (.bl (!decide (a=b))) H):=⟨anw⟩
def anl{a b:Str}(h:Q (.bl (decide (a=b))) H):rEq (.str a) (.str b) H Q:=⟨rfl,by rw[show decide (V.str a=V.str b)=decide (a=b) from by simp];show h⟩
instance{a b:Str}:RdS (rEq (.str a) (.str b) H Q) (Q (.bl (decide (a=b))) H):=⟨anl⟩
def anx{a b:Str}(h:Q (.bl (!decide (a=b))) H):rNe (.str a) (.str b) H Q:=⟨rfl,by rw[show decide (V.str a=V.str b)=decide (a=b) from by simp];show h⟩
instance{a b:Str}:RdS (rNe (.str a) (.str b) H Q) (Q (.bl (!decide (a=b))) H):=⟨anx⟩
def anr(h:ta σ H λx H1=>Q (.bl (decide (x=.non))) H1):agw ta σ H Q:=h
instance:RdS (agw ta σ H Q) (ta σ H λx H1=>Q (.bl (decide (x=.non))) H1):=⟨anr⟩
def agg(h:ta σ H λx H1=>Q (.bl (!decide (x=.non))) H1):Xh ta σ H Q:=h
instance:RdS (Xh ta σ H Q) (ta σ H λx H1=>Q (.bl (!decide (x=.non))) H1):=⟨agg⟩
def aw3{Q:Bool->Hp->Prop}(h:te σ H (kBl Q)):tB te σ H Q:=h
instance{Q:Bool->Hp->Prop}:RdS (tB te σ H Q) (te σ H (kBl Q)):=⟨aw3⟩
def aw4{Q:Bool->Hp->Prop}(h:te σ H (kBl Q)):OK te σ H Q:=h
instance{Q:Bool->Hp->Prop}:RdS (OK te σ H Q) (te σ H (kBl Q)):=⟨aw4⟩
def ans{Q:Bool->Hp->Prop}{b:Bool}(h:Q b H):kBl Q (.bl b) H:=#[ia,b,rfl,h]
instance{Q:Bool->Hp->Prop}{b:Bool}:RdS (kBl Q (.bl b) H) (Q b H):=⟨ans⟩
def ane{Q:Bool->Hp->Prop}(h:tt σ H λc H1=>if c=true then tt' σ H1 Q else Q false H1):agt tt tt' σ H Q:=h
instance{Q:Bool->Hp->Prop}:RdS (agt tt tt' σ H Q) (tt σ H λc H1=>if c=true then tt' σ H1 Q else Q false H1):=⟨ane⟩
def aw1{Q:Bool->Hp->Prop}(h:tt σ H λc H1=>if c=true then Q true H1 else tt' σ H1 Q):tOr tt tt' σ H Q:=h
instance{Q:Bool->Hp->Prop}:RdS (tOr tt tt' σ H Q) (tt σ H λc H1=>if c=true then Q true H1 else tt' σ H1 Q):=⟨aw1⟩
def an0{Q:Bool->Hp->Prop}(h:tt σ H λc H1=>Q (!c) H1):agx tt σ H Q:=h
instance{Q:Bool->Hp->Prop}:RdS (agx tt σ H Q) (tt σ H λc H1=>Q (!c) H1):=⟨an0⟩
def Zy(h:ta σ H λx H1=>tb σ H1 λy H2=>r x y H2 (kBl λk H3=>if k=true then tc σ H3 λw' H4=>r' y w' H4 Q else Q (.bl false) H3)):Ml r r' ta tb tc σ H Q:=h
instance:RdS (Ml r r' ta tb tc σ H Q) (ta σ H λx H1=>tb σ H1 λy H2=>r x y H2 (kBl λk H3=>if k=true then tc σ H3 λw' H4=>r' y w' H4 Q else Q (.bl false) H3)):=⟨Zy⟩
def r_gk{x:V}(h:fQ K f Q x H):fQ K f Q x H:=h
def ann(h:ta σ H (fQ K f Q)):Et K ta f σ H Q:=h
instance:RdS (Et K ta f σ H Q) (ta σ H (fQ K f Q)):=⟨ann⟩
def QU{a C dx:af}{fs:List (Str×V)}(e:H a=some (.ins C dx fs))(c:Pu K C)(n:pO K C f)(l:fs.lookup f=some v)(h:Q v H):fQ K f Q (.ref a) H:=#[ig,a,C,dx,fs,v,#[ip,rfl,e,c,n,l,h]]
def anz{Q:List V->Hp->Prop}(h:Q [] H):vY σ H Q:=h
instance{Q:List V->Hp->Prop}:RdS (vY σ H Q) (Q [] H):=⟨anz⟩
def af1{Q:List V->Hp->Prop}(h:ta σ H λx H1=>x0 σ H1 λxs H2=>Q (x::xs) H2):mn ta x0 σ H Q:=h
instance{Q:List V->Hp->Prop}:RdS (mn ta x0 σ H Q) (ta σ H λx H1=>x0 σ H1 λxs H2=>Q (x::xs) H2):=⟨af1⟩
def af0{sp:Sp}{sk:List V}{E:XK}(h:x0 σ H λvs H1=>sp (vs++sk) H1 Q E):SN sp sk E x0 σ H Q:=h
instance{sp:Sp}{sk:List V}{E:XK}:RdS (SN sp sk E x0 σ H Q) (x0 σ H λvs H1=>sp (vs++sk) H1 Q E):=⟨af0⟩
def awm{rr:List V->Hp->VK->Prop}(h:x0 σ H λvs H1=>rr vs H1 Q):tCB rr x0 σ H Q:=h
instance{rr:List V->Hp->VK->Prop}:RdS (tCB rr x0 σ H Q) (x0 σ H λvs H1=>rr vs H1 Q):=⟨awm⟩
def Zw{T:String}{rr:V->List V->Hp->VK->Prop}(h:ta σ H λx H1=>tyV K T x H1/\x0 σ H1 λxs H2=>rr x xs H2 Q):tBM K T rr ta x0 σ H Q:=h
instance{T:String}{rr:V->List V->Hp->VK->Prop}:RdS (tBM K T rr ta x0 σ H Q) (ta σ H λx H1=>tyV K T x H1/\x0 σ H1 λxs H2=>rr x xs H2 Q):=⟨Zw⟩
def kMk(C:af)(sp:Sp)(sk:List V)(E:XK)(Q:VK)(vs:List V)(H1:Hp):Prop:=∀x dx,H1 x=none->H1 dx=none->dx≠x->
 sp (.ref x::(vs++sk)) (upd (upd H1 dx (.own x)) x (.ins C dx [])) (λv H2=>v=.non/\Q (.ref x) H2) E
def age{C:af}{sp:Sp}{sk:List V}{E:XK}(h:x0 σ H (kMk C sp sk E Q)):G9 C sp sk E x0 σ H Q:=h
instance{C:af}{sp:Sp}{sk:List V}{E:XK}:RdS (G9 C sp sk E x0 σ H Q) (x0 σ H (kMk C sp sk E Q)):=⟨age⟩
def cY{p A B:Prop}[Decidable p](h1:p->A)(h2:¬p->B):if decide p=true then A else B:=by
 by_cases h:p;.rw[if_pos (decide_eq_true h)];show h1 h
 .rw[if_neg (by rw[decide_eq_false h];show bz)];show h2 h
def j7{p A B:Prop}[Decidable p](h1:¬p->A)(h2:p->B):if (!decide p)=true then A else B:=by
 by_cases h:p;.rw[decide_eq_true h];show h2 h
 .rw[decide_eq_false h];show h1 h
def oh{b:Bool}{A B:Prop}(h1:b=true->A)(h2:b=false->B):if b=true then A else B:=by
 cases b with
 |true=>show h1 rfl
 |false=>show h2 rfl
end
def aww{A B:Prop}(h:A):if true=true then A else B:=by rw[if_pos rfl];show h
instance{A B:Prop}:RdS (if true=true then A else B) A:=⟨aww⟩
def anp{A B:Prop}(h:B):if false=true then A else B:=by rw[if_neg bz];show h
instance{A B:Prop}:RdS (if false=true then A else B) B:=⟨anp⟩
def oj{b:Bool}{A B:Prop}(h1:b=false->A)(h2:b=true->B):if (!b)=true then A else B:=by
 cases b with
 |true=>show h2 rfl
 |false=>show h1 rfl
def eA(H H':Hp)(q:af):Prop:=∀b o,H b=some o->b≠q->H' b=some o
theorem eA.upd{H:Hp}{q:af}{o:HO}:eA H (upd H q o) q:=λb u e n=>by rw[aR n];show e
def aB{H0 H H':Hp}{q:af}(s:aq H0 H)(k:eA H H' q)(n:H0 q=none):aq H0 H':=λb o e=>k b o (s b o e) λz=>by rw[z,n] at e;cases e
def cq{H:Hp}{p:af}{o:HO}(n:H p=none):aq H (upd H p o):=λb u e=>by rw[aR (aI e n)];show e
def oy{H:Hp}{a b:af}{o u:HO}(h:H a=some o)(h':H b=some u)(d:o≠u:=by intro z;cases z):a≠b:=DJ h h' d
section
variable{K:ad}{σ:L2.St}{H:Hp}{Q:VK}{D:qO}{ta tb tc te tl:TE}{x0:TA}{v x y:V}{xs:List V}{a b:af}{i j:Int}
def Y6(Q:VK)(xs:List V)(H1:Hp):Prop:=xs.length<=sizeLine/\∀p,H1 p=none->Q (.ref p) (upd H1 p (.tup xs))
def Lm(Q:VK)(xs:List V)(H1:Hp):Prop:=xs.length<=sizeLine/\∀p,H1 p=none->Q (.ref p) (upd H1 p (.lst xs))
def an2(h:x0 σ H (Y6 Q)):ZR x0 σ H Q:=h
instance:RdS (ZR x0 σ H Q) (x0 σ H (Y6 Q)):=⟨an2⟩
def anv(h:x0 σ H (Lm Q)):ZP x0 σ H Q:=h
instance:RdS (ZP x0 σ H Q) (x0 σ H (Lm Q)):=⟨anv⟩
def WU(hl:xs.length<=sizeLine)(h:∀p H',H p=none->H' p=some (.tup xs)->aq H H'->Q (.ref p) H'):Y6 Q xs H:=⟨hl,λp hp=>h p _ hp aT (cq hp)⟩
def WT(hl:xs.length<=sizeLine)(h:∀p H',H p=none->H' p=some (.lst xs)->aq H H'->Q (.ref p) H'):Lm Q xs H:=⟨hl,λp hp=>h p _ hp aT (cq hp)⟩
def bY(h:cf K H a xs)(e:XD xs i=some v)(q:Q v H):L1 K (.ref a) (.int i) H Q:=#[il,a,xs,i,v,rfl,rfl,h,e,q]
def DM(h:ox K H a xs)(e:XD xs i=some v)(q:Q v H):afy K (.ref a) (.int i) H Q:=#[il,a,xs,i,v,rfl,rfl,h,e,q]
def r_U(h:∀p H',H p=none->H' p=some (.tup xs)->aq H H'->Q (.ref p) H')(hl:xs.length<=sizeLine:=by show dB rfl):Y6 Q xs H:=WU hl h
def jw(h:∀p H',H p=none->H' p=some (.lst xs)->aq H H'->Q (.ref p) H')(hl:xs.length<=sizeLine:=by show dB rfl):Lm Q xs H:=WT hl h
def Y5(K:ad)(Q:VK)(vs:List V)(H:Hp):Prop:=∃p ys,vs=[V.ref p]/\(cf K H p ys\/ox K H p ys)/\Q (.int ys.length) H
def anu(h:x0 σ H (Y5 K Q)):tCB (λxs H Q=>∃p ys,xs=[V.ref p]/\(cf K H p ys\/ox K H p ys)/\Q (.int ys.length) H) x0 σ H Q:=h
instance:RdS (tCB (λxs H Q=>∃p ys,xs=[V.ref p]/\(cf K H p ys\/ox K H p ys)/\Q (.int ys.length) H) x0 σ H Q) (x0 σ H (Y5 K Q)):=⟨anu⟩
def h_{p:af}(h:cf K H p xs)(q:Q (.int xs.length) H):Y5 K Q [V.ref p] H:=#[ib,p,xs,rfl,.inl h,q]
def fL{l:af}{T:String}(hT:T="list")(h:H l=some (.lst xs))(hl:xs.length<sizeLine)(q:∀H',H' l=some (.lst (xs++[y]))->eA H H' l->Q .non H'):EU (.ref l) [y] H Q:=
 #[ii,l,xs,y,rfl,rfl,#[ic,h,hl,q _ aT eA.upd]]
def jm{l:af}{R:Prop}(h:cf K H l xs)(q:R):tyV K "list" (.ref l) H/\R:=⟨.inl #[iB,rfl,_,h],q⟩
def TJ(K:ad)(D:qO)(f:Str)(y:V)(σ:L2.St)(x:V)(H2:Hp):Prop:=∃a C dx fs,x=.ref a/\H2 a=some (.ins C dx fs)/\Pu K C/\pO K C f/\fs.length<1000/\D.nx σ (upd H2 a (.ins C dx (jV f y fs)))
def agi{f:Str}(h:te σ H λy H1=>ta σ H1 (TJ K D f y σ)):agl K ta te f D σ H:=h
instance{f:Str}:RdS (agl K ta te f D σ H) (te σ H λy H1=>ta σ H1 (TJ K D f y σ)):=⟨agi⟩
def QV{f:Str}{a C dx:af}{fs:List (Str×V)}(e:H a=some (.ins C dx fs))(c:Pu K C)(n:pO K C f)(hl:fs.length<1000)(q:∀H',H' a=some (.ins C dx (jV f y fs))->eA H H' a->D.nx σ H'):TJ K D f y σ (.ref a) H:=
 #[il,a,C,dx,fs,rfl,e,c,n,⟨hl,q _ aT eA.upd⟩]
def cZ{H H1 H2:Hp}{q:af}(a:eA H H1 q)(b:eA H1 H2 q):eA H H2 q:=λc o e n=>b c o (a c o e n) n
def JF{H H1 H2:Hp}{q:af}(a:eA H H1 q)(b:aq H1 H2):eA H H2 q:=λc o e n=>b c o (a c o e n)
def ZC{C:af}{sp:Sp}{vs:List V}{E:XK}(h:∀x dx H2,H x=none->H2 x=some (.ins C dx [])->aq H H2->(∀b,H2 b=none->H b=none)->sp (.ref x::(vs++[])) H2 (λv H3=>v=.non/\Q (.ref x) H3) E):
 ∀x dx,H x=none->H dx=none->dx≠x->sp (.ref x::(vs++[])) (upd (upd H dx (.own x)) x (.ins C dx [])) (λv H2=>v=.non/\Q (.ref x) H2) E:=λx dx hx hd hn=>
 h x dx _ hx aT (λb o e=>by rw[aR (aI e hx),aR (aI e hd)];show e) (λb e=>by
  by_cases h1:b=x;.rw[h1];show hx
  .rw[aR h1] at e;by_cases h2:b=dx;.rw[h2];show hd
   .rw[aR h2] at e;show e)
end
section
variable{K:ad}{σ:L2.St}{H:Hp}{Q:VK}{D:qO}{ta tb tc td ty tx tv:TE}{x0:TA}{v x y:V}{xs:List V}{a b:af}{i j:Int}
def Y4(Q:VK)(y x:V)(H2:Hp):Prop:=∃a o,x=.ref a/\na H2 a y o/\Q (.bl (!o.isSome)) H2
def kDI(Q:VK)(y x:V)(H2:Hp):Prop:=∃a o,x=.ref a/\na H2 a y o/\Q (.bl o.isSome) H2
def kDG(Q:VK)(x y:V)(H2:Hp):Prop:=∃a v,x=.ref a/\na H2 a y (some v)/\Q v H2
def kD1(ty:TE)(σ:L2.St)(Q:VK)(x:V)(H1:Hp):Prop:=∃a,x=.ref a/\U8 H1 a/\ty σ H1 λy H2=>∃o,na H2 a y o/\Q (o.getD .non) H2
def kD2(ty tx:TE)(σ:L2.St)(Q:VK)(x:V)(H1:Hp):Prop:=∃a,x=.ref a/\U8 H1 a/\ty σ H1 λy H2=>tx σ H2 λz H3=>∃o,na H3 a y o/\Q (o.getD z) H3
def Y3(Q:VK)(a:af)(z y:V)(H2:Hp):Prop:=∃o,na H2 a y o/\Q (o.getD z) H2
def kDP(D:qO)(σ:L2.St)(v x y:V)(H3:Hp):Prop:=∃a H4,x=.ref a/\KA H3 a y v H4/\D.nx σ H4
def ani(h:ty σ H λy H1=>td σ H1 (Y4 Q y)):Mm ty td σ H Q:=h
instance:RdS (Mm ty td σ H Q) (ty σ H λy H1=>td σ H1 (Y4 Q y)):=⟨ani⟩
def awq(h:ty σ H λy H1=>td σ H1 (kDI Q y)):agv ty td σ H Q:=h
instance:RdS (agv ty td σ H Q) (ty σ H λy H1=>td σ H1 (kDI Q y)):=⟨awq⟩
def awp(h:td σ H λx H1=>ty σ H1 (kDG Q x)):Xb td ty σ H Q:=h
instance:RdS (Xb td ty σ H Q) (td σ H λx H1=>ty σ H1 (kDG Q x)):=⟨awp⟩
def awn(h:td σ H (kD1 ty σ Q)):Rc td ty σ H Q:=h
instance:RdS (Rc td ty σ H Q) (td σ H (kD1 ty σ Q)):=⟨awn⟩
def awo(h:td σ H (kD2 ty tx σ Q)):Re td ty tx σ H Q:=h
instance:RdS (Re td ty tx σ H Q) (td σ H (kD2 ty tx σ Q)):=⟨awo⟩
def anj(h:tv σ H λv H1=>td σ H1 λx H2=>ty σ H2 (kDP D σ v x)):SF td ty tv D σ H:=h
instance:RdS (SF td ty tv D σ H) (tv σ H λv H1=>td σ H1 λx H2=>ty σ H2 (kDP D σ v x)):=⟨anj⟩
def GB(d:U8 H a)(h:ty σ H (Y3 Q a .non)):kD1 ty σ Q (.ref a) H:=#[ie,a,rfl,d,h]
def WQ(d:U8 H a)(h:ty σ H λy H2=>tx σ H2 λz H3=>Y3 Q a z y H3):kD2 ty tx σ Q (.ref a) H:=#[ie,a,rfl,d,h]
def DA{aQ:List (ez×V)}(e:H a=some (.dK aQ)):U8 H a:=.inl ⟨aQ,.inl e⟩
def Wb{aQ:List (List ez×V)}(e:H a=some (.dT aQ)):U8 H a:=.inr ⟨aQ,.inl e⟩
def Ab{z:V}{aQ:List (ez×V)}(e:H a=some (.dK aQ))(q:Q ((dy aQ (.inl i)).getD z) H):Y3 Q a z (.int i) H:=#[ia,_,na.k (k:=.inl i) e,q]
def QP{z:V}{aQ:List (List ez×V)}{k:List ez}(e:H a=some (.dT aQ))(eb:H b=some (.tup (k.map kV)))(q:Q ((dy aQ k).getD z) H):Y3 Q a z (.ref b) H:=#[ia,_,na.t e eb,q]
def WL{aQ:List (List ez×V)}{k:List ez}(e:H a=some (.dT aQ))(eb:H b=some (.tup (k.map kV)))(q:Q (.bl (!(dy aQ k).isSome)) H):Y4 Q (.ref b) (.ref a) H:=#[ib,a,_,rfl,na.t e eb,q]
def anc{aQ:List (ez×V)}(e:H a=some (.dK aQ))(q:Q (.bl ((dy aQ (.inl i)).isSome)) H):kDI Q (.int i) (.ref a) H:=#[ib,a,_,rfl,na.k (k:=.inl i) e,q]
def afz{aQ:List (ez×V)}(e:H a=some (.dK aQ))(q:Q (.bl (!(dy aQ (.inl i)).isSome)) H):Y4 Q (.int i) (.ref a) H:=#[ib,a,_,rfl,na.k (k:=.inl i) e,q]
def JQ{aQ:List (ez×V)}(e:H a=some (.dK aQ))(l:dy aQ (.inl i)=some v)(q:Q v H):kDG Q (.ref a) (.int i) H:=#[ib,a,v,rfl,by rw[<-l];show na.k (k:=.inl i) e,q]
def anb{aQ:List (List ez×V)}{k:List ez}(e:H a=some (.dT aQ))(eb:H b=some (.tup (k.map kV)))(l:dy aQ k=some v)(q:Q v H):kDG Q (.ref a) (.ref b) H:=#[ib,a,v,rfl,by rw[<-l];show na.t e eb,q]
def Oq{aQ:List (ez×V)}(e:H a=some (.dK aQ))(hl:aQ.length<sizeLine)(q:∀H',H' a=some (.dK (k_ aQ (.inl i) v))->eA H H' a->D.nx σ H'):kDP D σ v (.ref a) (.int i) H:=#[ib,a,_,rfl,KA.k (k:=.inl i) e hl,q _ aT eA.upd]
def WM{aQ:List (List ez×V)}{k:List ez}(e:H a=some (.dT aQ))(eb:H b=some (.tup (k.map kV)))(hl:aQ.length<sizeLine)(q:∀H',H' a=some (.dT (k_ aQ k v))->eA H H' a->D.nx σ H'):kDP D σ v (.ref a) (.ref b) H:=#[ib,a,_,rfl,KA.t e eb hl,q _ aT eA.upd]
def WN(h:∀p H',H p=none->H' p=some (.dK [])->aq H H'->Q (.ref p) H'):Xd σ H Q:=λp hp=>h p _ hp aT (cq hp)
def EV(h:∀p H',H p=none->H' p=some (.dT [])->aq H H'->Q (.ref p) H'):Xe σ H Q:=λp hp=>h p _ hp aT (cq hp)
def WP(h:cf K H a xs\/ox K H a xs)(f1:mG x=true)(f2:xs.all mG=true)(q:Q (.bl (Pc x xs)) H):rIn K false x (.ref a) H Q:=#[ik,a,xs,rfl,h,f1,f2,q]
def SA(h:cf K H a xs\/ox K H a xs)(f1:mG x=true)(f2:xs.all mG=true)(q:Q (.bl (!Pc x xs)) H):rIn K true x (.ref a) H Q:=#[ik,a,xs,rfl,h,f1,f2,q]
end
end TT
namespace L2
local macro_rules|`(tactic| walk_at "ln")=>`(tactic| (intro vs H Q E h;(repeat (rcases h with⟨_,h⟩));subst_vars;rfl))
def i9.jB{P:aS}{w:bL}{K:ad}{mg:Str->Option ag}{base:cE}{x qual:Str}{st:cK}{f:af}{fd:b_}{N ps:List Str}{k:Nat}{sp:Sp}(F:i9 K x qual st f fd)(S:aU N ps (aG st))
 (pV:∀(gq:ag)(A:dD)(outer:List Kb)(s:ao)(H:Hp)(vs:List V)(Q:VK)(E:XK),jA k (A.deeper (BN qual (aG st) s.heap.objs.size f gq))->sp vs H Q E->
  ∃t,Pz (dj gW P w K mg base N qual (aG st) f gq A outer s H E).nox (ll st) t/\t { nx:=λ_ H'=>Q .non H',rt:=Q } (start N vs) H)
 (len:∀vs H Q E,sp vs H Q E->vs.length=ps.length:=by walk_at "ln"):cQ P w K mg base gW (k+1) f fd ps sp:=F.ok S len pV
def aj1(N P:List Str)(sc:jq):Bool:=(match sc.kind with
 |.function=>true
 |_=>false)&&(!sc.isCoroutine&&(!sc.isGenerator&&(decide N.Nodup&&(decide (N.take P.length=P)&&((P.all λx=>match sc.names.lookup x with
 |some .local=>true
 |some .cell=>true
 |_=>false)&&sc.names.all λy=>match y.2 with
 |.free=>false
 |_=>true)))))
def jy{N P:List Str}{sc:jq}(h:aj1 N P sc=true:=by decide +kernel):aU N P sc:=by
 unfold aj1 at h;simp only[ak,r9,decide_eq_true_eq] at h;rintro h1 h2 h3 h4 h5 h6 h7:wb h;show⟨?_,h2,h3,h4,h5,λx hx=>?_,λy hy e=>?_⟩
 .split at h1;.assumption
  .cases h1
 .have:=bB.mp h6 x hx;split at this;.show .inl ‹_›
  .show .inr ‹_›
  .cases this
 .have:=bB.mp h7 y hy;rw[e] at this;cases this
end L2
end
namespace TT
structure dW where
 stop:af
 trip:af
 table:af
 run:af
 mw:af
 iL:af
 state:af
 known:af
 mD:af
 i_:af
structure CF(K:ad)(C:af)(fs:List Str):Prop where
 cl:Pu K C
 no:∀f∈fs,pO K C f
structure TX(K:ad)(A:dW):Prop where
 stop:CF K A.stop ["office","comes","goes"]
 trip:CF K A.trip ["number","weekdays","first_day","last_day","rooms","cut","stops"]
 table:CF K A.table ["minutes","trips"]
 run:CF K A.run ["trip","day","key","comes","goes"]
 mw:CF K A.mw ["run","first","later","origin","goal","goes","comes","take_by","ready"]
 iL:CF K A.iL ["number","origin","goal","kind","amount","rank","ready","promise","begun"]
 state:CF K A.state ["table","cancelled","delays","delays_told","now","things"]
 known:CF K A.known ["ready","rides"]
 mD:CF K A.mD ["table","told","has_open"]
 i_:CF K A.i_ ["table","fault","line"]
def dA{α:Type}(P:Hp->af->α->Prop)(H:Hp)(l:af)(xs:List α):Prop:=∃as:List af,H l=some (.lst (as.map V.ref))/\cg (P H) as xs
def HQ{α:Type}(P:Hp->af->α->Prop):Prop:=∀(H H':Hp)(a:af)(x:α),aq H H'->P H a x->P H' a x
theorem bF{α β:Type}{P Q:α->β->Prop}(h:∀a b,P a b->Q a b):∀{as:List α}{bs:List β},cg P as bs->cg Q as bs
 |_,_,.nil=>.nil
 |_,_,.cons r t=>.cons (h _ _ r) (bF h t)
def dA.mono{α:Type}{P:Hp->af->α->Prop}(m:HQ P){H H':Hp}{l:af}{xs:List α}(s:aq H H')(h:dA P H l xs):dA P H' l xs:=bM h λas e p=>#[ia,as,s _ _ e,bF (λa b q=>m _ _ _ _ s q) p]
theorem fE{α β:Type}{P:α->β->Prop}:∀{as:List α}{bs:List β}{i:Nat}{a:α},cg P as bs->as[i]? = some a->∃b,bs[i]? = some b/\P a b
 |_,_,_,_,.nil,h=>by simp at h
 |_,_,0,_,.cons r t,h=>by simp at h;subst h;show #[ia,_,rfl,r]
 |_,_,i+1,a,.cons r t,h=>by simpa using fE (i:=i) t (by simpa using h)
theorem oe{α β:Type}{P:α->β->Prop}:∀{as:List α}{bs:List β}{i:Nat}{b:β},cg P as bs->bs[i]? = some b->∃a,as[i]? = some a/\P a b
 |_,_,_,_,.nil,h=>by simp at h
 |_,_,0,_,.cons r t,h=>by simp at h;subst h;show #[ia,_,rfl,r]
 |_,_,i+1,b,.cons r t,h=>by simpa using oe (i:=i) t (by simpa using h)
theorem jM{α β:Type}{P:α->β->Prop}{a:α}{b:β}(r:P a b):∀{as:List α}{bs:List β},cg P as bs->cg P (as++[a]) (bs++[b])
 |_,_,.nil=>.cons r .nil
 |_,_,.cons q t=>.cons q (jM r t)
theorem lW{α β:Type}{P:α->β->Prop}:∀{as cs:List α}{bs ds:List β},cg P as bs->cg P cs ds->cg P (as++cs) (bs++ds)
 |_,_,_,_,.nil,q=>q
 |_,_,_,_,.cons r t,q=>.cons r (lW t q)
abbrev iv(n:Nat):V:=.int (n:Int)
def ly(l:List Nat):List V:=l.map iv
def fA{K:ad}{H0 H:Hp}{a C dx:af}{fs:List Str}{fl:List (Str×V)}{f:Str}{v:V}{Q:VK}(c:CF K C fs)(s:aq H0 H)(e:H0 a=some (.ins C dx fl))(q:Q v H)(m:f∈fs:=by decide +kernel)(l:fl.lookup f=some v:=by kernel_rfl):fQ K f Q (.ref a) H:=QU (s _ _ e) c.cl (c.no _ m) l q
def iZ(ds:List Bool):List Nat:=(ay 7).filter λd=>ds.getD d false
def Nu(e:eE):List (Str×V):=[("office",iv e.office),("comes",iv e.arr),("goes",iv e.dep)]
def qV(A:dW)(H:Hp)(a:af)(e:eE):Prop:=∃dx:af,H a=some (.ins A.stop dx (Nu e))
def qV.mono{A:dW}{H H':Hp}{a:af}{e:eE}(s:aq H H')(h:qV A H a e):qV A H' a e:=by rintro dx h0:bW h;show⟨dx,s _ _ h0⟩
section
variable{K:ad}{A:dW}{H0 H:Hp}{a:af}{e:eE}{Q:VK}(T:TX K A)(h:qV A H0 a e)(s:aq H0 H)
include T h s
def Ic(q:Q (iv e.office) H):fQ K "office" Q (.ref a) H:=bW h λ_ h0=>fA T.stop s h0 q
def K8(q:Q (iv e.arr) H):fQ K "comes" Q (.ref a) H:=bW h λ_ h0=>fA T.stop s h0 q
def NB(q:Q (iv e.dep) H):fQ K "goes" Q (.ref a) H:=bW h λ_ h0=>fA T.stop s h0 q
end
def Nv(t:ax)(w r l:af):List (Str×V):=[("number",iv t.no),("weekdays",.ref w),("first_day",iv t.first),("last_day",iv t.last),("rooms",.ref r),("cut",iv t.cut),("stops",.ref l)]
def gh(A:dW)(H:Hp)(a:af)(t:ax):Prop:=∃dx w r l:af,H a=some (.ins A.trip dx (Nv t w r l))/\H w=some (.lst (ly (iZ t.days)))/\H r=some (.lst (ly t.room))/\dA (qV A) H l t.stops
theorem gh.mono{A:dW}{H H':Hp}{a:af}{t:ax}(s:aq H H')(h:gh A H a t):gh A H' a t:=by rintro dx w r l h0 h1 h2 h3:xf 5 lB h;show #[iy,dx,w,r,l,#[ij,s _ _ h0,s _ _ h1,s _ _ h2,dA.mono (P:=qV A) (λ_ _ _ _ q z=>qV.mono q z) s h3]]
section
variable{K:ad}{A:dW}{H0 H:Hp}{a:af}{t:ax}{Q:VK}(T:TX K A)(h:gh A H0 a t)(s:aq H0 H)
include T h s
def Ih(q:Q (iv t.no) H):fQ K "number" Q (.ref a) H:=xf h λ_ _ _ _ h0 _=>fA T.trip s h0 q
def Ej(q:∀w,H0 w=some (.lst (ly (iZ t.days)))->Q (.ref w) H):fQ K "weekdays" Q (.ref a) H:=xf h λ_ _ _ _ h0 w'=>fo w' λh1 _=>fA T.trip s h0 (q _ h1)
def Cg(q:Q (iv t.first) H):fQ K "first_day" Q (.ref a) H:=xf h λ_ _ _ _ h0 _=>fA T.trip s h0 q
def Ei(q:Q (iv t.last) H):fQ K "last_day" Q (.ref a) H:=xf h λ_ _ _ _ h0 _=>fA T.trip s h0 q
def La(q:∀r,H0 r=some (.lst (ly t.room))->Q (.ref r) H):fQ K "rooms" Q (.ref a) H:=xf h λ_ _ _ _ h0 w'=>lB w' λ_ h2 _=>fA T.trip s h0 (q _ h2)
def P5(q:Q (iv t.cut) H):fQ K "cut" Q (.ref a) H:=xf h λ_ _ _ _ h0 _=>fA T.trip s h0 q
def Lb(q:∀l,dA (qV A) H0 l t.stops->Q (.ref l) H):fQ K "stops" Q (.ref a) H:=xf h λ_ _ _ _ h0 w'=>lB w' λ_ _ h3=>fA T.trip s h0 (q _ h3)
end
def Ir(t:ax)(w r l:af):(Nv t w r l).lookup ("number":Str)=some (iv t.no):=by kernel_rfl
def Lq(t:ax)(w r l:af):(Nv t w r l).lookup ("stops":Str)=some (.ref l):=by kernel_rfl
def adc(b:eT)(m l:af):List (Str×V):=[("minutes",.ref m),("trips",.ref l)]
def j8(A:dW)(H:Hp)(a:af)(b:eT):Prop:=∃dx m l:af,H a=some (.ins A.table dx (adc b m l))/\H m=some (.lst (ly b.mins))/\dA (gh A) H l b.trips
theorem j8.mono{A:dW}{H H':Hp}{a:af}{b:eT}(s:aq H H')(h:j8 A H a b):j8 A H' a b:=by rintro dx m l h0 h1 h2:rD h;show #[ii,dx,m,l,s _ _ h0,s _ _ h1,dA.mono (P:=gh A) (λ_ _ _ _ q z=>gh.mono q z) s h2]
section
variable{K:ad}{A:dW}{H0 H:Hp}{a:af}{b:eT}{Q:VK}(T:TX K A)(h:j8 A H0 a b)(s:aq H0 H)
include T h s
def Eg(q:∀m,H0 m=some (.lst (ly b.mins))->Q (.ref m) H):fQ K "minutes" Q (.ref a) H:=rD h λ_ _ _ h0 h1 _=>fA T.table s h0 (q _ h1)
def Id(q:∀l,dA (gh A) H0 l b.trips->Q (.ref l) H):fQ K "trips" Q (.ref a) H:=rD h λ_ _ _ h0 _ h2=>fA T.table s h0 (q _ h2)
end
def Tj(w:ah)(t:ax)(d:Nat)(ta ka ca ga:af):List (Str×V):=[("trip",.ref ta),("day",iv d),("key",.ref ka),("comes",.ref ca),("goes",.ref ga)]
def n8(A:dW)(H:Hp)(a:af)(w:ah)(t:ax)(d:Nat):Prop:=∃dx ta ka ca ga:af,H a=some (.ins A.run dx (Tj w t d ta ka ca ga))/\gh A H ta t/\H ka=some (.tup [iv t.no,iv d])/\H ca=some (.lst ((ay t.stops.length).map λj=>iv (d8 w t d j)))/\H ga=some (.lst ((ay t.stops.length).map λi=>iv (bE w t d i)))
theorem n8.mono{A:dW}{H H':Hp}{a:af}{w:ah}{t:ax}{d:Nat}(s:aq H H')(h:n8 A H a w t d):n8 A H' a w t d:=by rintro dx ta ka ca ga h0 h1 h2 h3 h4:DL h;show #[ig,dx,ta,ka,ca,ga,#[iq,s _ _ h0,gh.mono s h1,s _ _ h2,s _ _ h3,s _ _ h4]]
section
variable{K:ad}{A:dW}{H0 H:Hp}{a:af}{w:ah}{t:ax}{d:Nat}{Q:VK}(T:TX K A)(h:n8 A H0 a w t d)(s:aq H0 H)
include T h s
def P4(q:∀ta,gh A H0 ta t->Q (.ref ta) H):fQ K "trip" Q (.ref a) H:=Wu h λ_ _ _ _ _ h0 w'=>fo w' λh1 _=>fA T.run s h0 (q _ h1)
def Tk(q:Q (iv d) H):fQ K "day" Q (.ref a) H:=Wu h λ_ _ _ _ _ h0 _=>fA T.run s h0 q
def Tl(q:∀ka,H0 ka=some (.tup [iv t.no,iv d])->Q (.ref ka) H):fQ K "key" Q (.ref a) H:=Wu h λ_ _ _ _ _ h0 w'=>lB w' λ_ h2 _=>fA T.run s h0 (q _ h2)
def Nz(q:∀ca,H0 ca=some (.lst ((ay t.stops.length).map λj=>iv (d8 w t d j)))->Q (.ref ca) H):fQ K "comes" Q (.ref a) H:=DL h λ_ _ _ _ _ h0 _ _ h3 _=>fA T.run s h0 (q _ h3)
def P0(q:∀ga,H0 ga=some (.lst ((ay t.stops.length).map λi=>iv (bE w t d i)))->Q (.ref ga) H):fQ K "goes" Q (.ref a) H:=DL h λ_ _ _ _ _ h0 _ _ _ h4=>fA T.run s h0 (q _ h4)
end
def TQ(w:ah)(t:ax)(d:Nat)(ta ka ca ga:af):(Tj w t d ta ka ca ga).lookup ("key":Str)=some (.ref ka):=by kernel_rfl
def FS(w:ah)(t:ax)(d:Nat)(ta ka ca ga:af):(Tj w t d ta ka ca ga).lookup ("goes":Str)=some (.ref ga):=by kernel_rfl
def VD(w:ah)(t:ax)(r:bZ)(ra:af):List (Str×V):=[("run",.ref ra),("first",iv r.leg.i),("later",iv r.leg.j),("origin",iv r.from_),("goal",iv r.to_),("goes",iv (bE w t r.leg.day r.leg.i)),("comes",iv (d8 w t r.leg.day r.leg.j)),("take_by",.int r.by_),("ready",iv r.ready)]
def zE(A:dW)(H:Hp)(a:af)(w:ah)(t:ax)(r:bZ):Prop:=∃dx ra:af,H a=some (.ins A.mw dx (VD w t r ra))/\n8 A H ra w t r.leg.day
theorem zE.mono{A:dW}{H H':Hp}{a:af}{w:ah}{t:ax}{r:bZ}(s:aq H H')(h:zE A H a w t r):zE A H' a w t r:=by rintro dx ra h0 h1:rE h;show #[im,dx,ra,s _ _ h0,n8.mono s h1]
section
variable{K:ad}{A:dW}{H0 H:Hp}{a:af}{w:ah}{t:ax}{r:bZ}{Q:VK}(T:TX K A)(h:zE A H0 a w t r)(s:aq H0 H)
include T h s
def PZ(q:∀ra,n8 A H0 ra w t r.leg.day->Q (.ref ra) H):fQ K "run" Q (.ref a) H:=rE h λ_ _ h0 h1=>fA T.mw s h0 (q _ h1)
def K5(q:Q (iv r.leg.i) H):fQ K "first" Q (.ref a) H:=rE h λ_ _ h0 _=>fA T.mw s h0 q
def K6(q:Q (iv r.leg.j) H):fQ K "later" Q (.ref a) H:=rE h λ_ _ h0 _=>fA T.mw s h0 q
def Ia(q:Q (iv r.from_) H):fQ K "origin" Q (.ref a) H:=rE h λ_ _ h0 _=>fA T.mw s h0 q
def Nw(q:Q (iv r.to_) H):fQ K "goal" Q (.ref a) H:=rE h λ_ _ h0 _=>fA T.mw s h0 q
def Ny(q:Q (iv (bE w t r.leg.day r.leg.i)) H):fQ K "goes" Q (.ref a) H:=rE h λ_ _ h0 _=>fA T.mw s h0 q
def K4(q:Q (iv (d8 w t r.leg.day r.leg.j)) H):fQ K "comes" Q (.ref a) H:=rE h λ_ _ h0 _=>fA T.mw s h0 q
def Ft(q:Q (.int r.by_) H):fQ K "take_by" Q (.ref a) H:=rE h λ_ _ h0 _=>fA T.mw s h0 q
def K7(q:Q (iv r.ready) H):fQ K "ready" Q (.ref a) H:=rE h λ_ _ h0 _=>fA T.mw s h0 q
end
def JP:Option Nat->V
 |none=>.int (-1)
 |some p=>iv p
def oN(w:ah)(H:Hp)(a:af)(g:dP):Prop:=∃(ka:af)(t:ax),H a=some (.tup [.ref ka,iv g.i,iv g.j])/\H ka=some (.tup [iv t.no,iv g.day])/\cI w g.trip=some t
def oN.mono{w:ah}:HQ (oN w):=λ_ _ _ _ s cG=>fD cG λka t h1 h2 h3=>#[ib,ka,t,s _ _ h1,s _ _ h2,h3]
def wF(w:ah)(x:bv)(l:af):List (Str×V):=[("number",iv x.id),("origin",iv x.from_),("goal",iv x.to_),("kind",iv x.kind),("amount",iv x.amount),("rank",iv x.rank),("ready",iv x.ready),("promise",JP x.promise),("begun",.ref l)]
def fN(A:dW)(H:Hp)(a:af)(w:ah)(x:bv)(l:af):Prop:=∃dx:af,H a=some (.ins A.iL dx (wF w x l))
def fN.mono{A:dW}{H H':Hp}{a:af}{w:ah}{x:bv}{l:af}(s:aq H H')(h:fN A H a w x l):fN A H' a w x l:=by rintro dx h0:bW h;show⟨dx,s _ _ h0⟩
section
variable{K:ad}{A:dW}{H0 H:Hp}{a:af}{w:ah}{x:bv}{l:af}{Q:VK}(T:TX K A)(h:fN A H0 a w x l)(s:aq H0 H)
include T h s
def Fx(q:Q (iv x.id) H):fQ K "number" Q (.ref a) H:=bW h λ_ h0=>fA T.iL s h0 q
def Fy(q:Q (iv x.from_) H):fQ K "origin" Q (.ref a) H:=bW h λ_ h0=>fA T.iL s h0 q
def K9(q:Q (iv x.to_) H):fQ K "goal" Q (.ref a) H:=bW h λ_ h0=>fA T.iL s h0 q
def K'(q:Q (iv x.kind) H):fQ K "kind" Q (.ref a) H:=bW h λ_ h0=>fA T.iL s h0 q
def Fw(q:Q (iv x.amount) H):fQ K "amount" Q (.ref a) H:=bW h λ_ h0=>fA T.iL s h0 q
def K_(q:Q (iv x.rank) H):fQ K "rank" Q (.ref a) H:=bW h λ_ h0=>fA T.iL s h0 q
def Ig(q:Q (iv x.ready) H):fQ K "ready" Q (.ref a) H:=bW h λ_ h0=>fA T.iL s h0 q
def Eh(q:Q (JP x.promise) H):fQ K "promise" Q (.ref a) H:=bW h λ_ h0=>fA T.iL s h0 q
def Ie(q:Q (.ref l) H):fQ K "begun" Q (.ref a) H:=bW h λ_ h0=>fA T.iL s h0 q
end
def FT(w:ah)(x:bv)(l:af):(wF w x l).lookup ("number":Str)=some (iv x.id):=by kernel_rfl
def Lp(w:ah)(x:bv)(l:af):(wF w x l).lookup ("rank":Str)=some (iv x.rank):=by kernel_rfl
def Iq(w:ah)(x:bv)(l:af):(wF w x l).lookup ("ready":Str)=some (iv x.ready):=by kernel_rfl
def ww(A:dW)(w:ah)(H:Hp)(a:af)(x:bv):Prop:=∃l,fN A H a w x l
theorem ww.mono{A:dW}{w:ah}:HQ (ww A w):=λ_ _ _ _ s cG=>bW cG λl h=>⟨l,fN.mono s h⟩
def HP(A:dW)(H:Hp)(w:ah)(F:Hp)(a:af)(x:bv):Prop:=∃(l:af)(bs:List af),fN A F a w x l/\H l=some (.lst (bs.map V.ref))/\cg (oN w F) bs x.begun
theorem HP.mono{A:dW}{H:Hp}{w:ah}:HQ (HP A H w):=λ_ _ _ _ s cG=>fD cG λl bs h1 h2 h3=>#[ib,l,bs,fN.mono s h1,h2,bF (λ_ _ q=>oN.mono _ _ _ _ s q) h3]
abbrev rk(no d:Nat):List ez:=[.inl (no:Int),.inl (d:Int)]
def yH(H:Hp)(c:af)(w:ah):Prop:=∃aQ:List (List ez×V),H c=some (.dT aQ)/\aQ.length=w.off.length/\∀no d:Nat,dy aQ (rk no d)=if (no,d)∈w.off then some (.bl true) else none
def yH.mono{H H':Hp}{c:af}{w:ah}(s:aq H H')(h:yH H c w):yH H' c w:=gF h λaQ h1 h2 h3=>#[ie,aQ,s _ _ h1,h2,h3]
def jT(w:ah)(no d k:Nat):Nat:=dw ((w.delays.filter λx=>x.no==no&&(x.day==d&&x.at_==k)).map λx=>x.minutes)
def iH(w:ah)(t:ax)(d:Nat):List V:=(ay t.stops.length).map λk=>iv (jT w t.no d k)
def yG(H:Hp)(c:af)(w:ah):Prop:=∃aQ:List (List ez×V),H c=some (.dT aQ)/\aQ.length<=w.delays.length/\∀t∈w.table.trips,∀d:Nat,
 (dy aQ (rk t.no d)=none/\∀x∈w.delays,¬(x.no=t.no/\x.day=d))\/∃a,dy aQ (rk t.no d)=some (.ref a)/\H a=some (.lst (iH w t d))
def yG.mono{H H':Hp}{c:af}{w:ah}(s:aq H H')(h:yG H c w):yG H' c w:=gF h λaQ h1 h2 h3=>#[ie,aQ,s _ _ h1,h2,λt ht d=>(h3 t ht d).imp id λ⟨a,q1,q2⟩=>#[ia,a,q1,s _ _ q2]]
def oz(S:aO)(tb c dl th:af):List (Str×V):=[("table",.ref tb),("cancelled",.ref c),("delays",.ref dl),("delays_told",iv S.world.delays.length),("now",iv S.now),("things",.ref th)]
def gN(A:dW)(H:Hp)(a:af)(S:aO):Prop:=∃dx tb c dl th:af,H a=some (.ins A.state dx (oz S tb c dl th))/\j8 A H tb S.world.table/\yH H c S.world/\yG H dl S.world/\dA (ww A S.world) H th S.loads
theorem gN.mono{A:dW}{H H':Hp}{a:af}{S:aO}(s:aq H H')(h:gN A H a S):gN A H' a S:=by rintro dx tb c dl th h0 h1 h2 h3 h4:DL h;show #[ig,dx,tb,c,dl,th,#[iq,s _ _ h0,j8.mono s h1,yH.mono s h2,yG.mono s h3,dA.mono ww.mono s h4]]
section
variable{K:ad}{A:dW}{H0 H:Hp}{a:af}{S:aO}{Q:VK}(T:TX K A)(h:gN A H0 a S)(s:aq H0 H)
include T h s
def Ib(q:∀tb,j8 A H0 tb S.world.table->Q (.ref tb) H):fQ K "table" Q (.ref a) H:=Wu h λ_ _ _ _ _ h0 w'=>fo w' λh1 _=>fA T.state s h0 (q _ h1)
def AZ(q:∀c,yH H0 c S.world->Q (.ref c) H):fQ K "cancelled" Q (.ref a) H:=Wu h λ_ _ _ _ _ h0 w'=>lB w' λ_ h2 _=>fA T.state s h0 (q _ h2)
def Fu(q:∀dl,yG H0 dl S.world->Q (.ref dl) H):fQ K "delays" Q (.ref a) H:=DL h λ_ _ _ _ _ h0 _ _ h3 _=>fA T.state s h0 (q _ h3)
def yt(q:Q (iv S.world.delays.length) H):fQ K "delays_told" Q (.ref a) H:=Wu h λ_ _ _ _ _ h0 _=>fA T.state s h0 q
def NA(q:Q (iv S.now) H):fQ K "now" Q (.ref a) H:=Wu h λ_ _ _ _ _ h0 _=>fA T.state s h0 q
def Fv(q:∀th,dA (ww A S.world) H0 th S.loads->Q (.ref th) H):fQ K "things" Q (.ref a) H:=DL h λ_ _ _ _ _ h0 _ _ _ h4=>fA T.state s h0 (q _ h4)
end
def Fg(w:ah)(t:ax)(r:bZ):Prop:=cI w r.leg.trip=some t/\nO w r.leg=some r/\r.leg.i<r.leg.j/\r.leg.j<t.stops.length/\r.from_<6/\r.to_<6
def eG(A:dW)(w:ah)(H:Hp)(a:af)(r:bZ):Prop:=∃t,Fg w t r/\zE A H a w t r
theorem eG.mono{A:dW}{w:ah}:HQ (eG A w):=λ_ _ _ _ s cG=>bM cG λt o h=>#[ia,t,o,zE.mono s h]
def lN(A:dW)(H:Hp)(l:af)(w:ah)(gs:List dP):Prop:=∃rs,dA (eG A w) H l rs/\rs.map (·.leg)=gs
theorem lN.mono{A:dW}{w:ah}{H H':Hp}{l:af}{gs:List dP}(s:aq H H')(h:lN A H l w gs):lN A H' l w gs:=bM h λrs a e=>#[ia,rs,dA.mono eG.mono s a,e]
def adb(w:ah)(x:Nat×List dP)(l:af):List (Str×V):=[("ready",iv x.1),("rides",.ref l)]
def j9(A:dW)(H:Hp)(a:af)(w:ah)(x:Nat×List dP):Prop:=∃dx l:af,H a=some (.ins A.known dx (adb w x l))/\lN A H l w x.2
theorem j9.mono{A:dW}{H H':Hp}{a:af}{w:ah}{x:Nat×List dP}(s:aq H H')(h:j9 A H a w x):j9 A H' a w x:=by rintro dx l h0 h1:rE h;show #[im,dx,l,s _ _ h0,lN.mono s h1]
section
variable{K:ad}{A:dW}{H0 H:Hp}{a:af}{w:ah}{x:Nat×List dP}{Q:VK}(T:TX K A)(h:j9 A H0 a w x)(s:aq H0 H)
include T h s
def HZ(q:Q (iv x.1) H):fQ K "ready" Q (.ref a) H:=rE h λ_ _ h0 _=>fA T.known s h0 q
def H_(q:∀l,lN A H0 l w x.2->Q (.ref l) H):fQ K "rides" Q (.ref a) H:=rE h λ_ _ h0 h1=>fA T.known s h0 (q _ h1)
end
def kx(A:dW)(F H:Hp)(a:af)(S:aO):Prop:=∃dx tb c dl th:af,F a=some (.ins A.state dx (oz S tb c dl th))/\j8 A F tb S.world.table/\yH F c S.world/\yG F dl S.world/\dA (HP A H S.world) F th S.loads
theorem kx.mono{A:dW}{F F' H:Hp}{a:af}{S:aO}(s:aq F F')(h:kx A F H a S):kx A F' H a S:=by rintro dx tb c dl th h0 h1 h2 h3 h4:DL h;show #[ig,dx,tb,c,dl,th,#[iq,s _ _ h0,j8.mono s h1,yH.mono s h2,yG.mono s h3,dA.mono HP.mono s h4]]
def kx.at_{A:dW}{F H:Hp}{a:af}{S:aO}(h:kx A F H a S):gN A F a S:=by rintro dx tb c dl th h0 h1 h2 h3 as h4 h5:DL 9 bM h;show #[ig,dx,tb,c,dl,th,#[iq,h0,h1,h2,h3,#[ia,as,h4,bF (λ_ _⟨l,_,q,_⟩=>⟨l,q⟩) h5]]]
def GI(mg:Str->Option ag)(x:Str)(i:Int):Prop:=∃t,mg x=some (.int i t)
def GS(mg:Str->Option ag)(x:Str)(z:Str):Prop:=∃t,mg x=some (.str z t)
def GT(K:ad)(mg:Str->Option ag)(x:Str)(xs:List V):Prop:=∃a,mg x=some (.ref a)/\∀H,ox K H a xs
def tG(K:ad)(xs:List V):TE:=λ_ H Q=>∀a,(∀H',ox K H' a xs)->Q (.ref a) H
section
variable{X:Cx}{x:Str}{pos:km}
def bG{i:Int}(h:GI X.mg x i)(hg:Gl X x:=by rfl)(hd:(x==("__debug__":Str))=false:=by decide):PE X (.Name x pos) (tC (.int i)):=by rintro t h:bW h;show Be hg h ⟨t,rfl⟩ hd
def Sm{z:Str}(h:GS X.mg x z)(hg:Gl X x:=by rfl)(hd:(x==("__debug__":Str))=false:=by decide):PE X (.Name x pos) (tC (.str z)):=by rintro t h:bW h;show Be hg h ⟨t,rfl⟩ hd
def uP{xs:List V}(h:GT X.K X.mg x xs)(hg:Gl X x:=by rfl)(hd:(x==("__debug__":Str))=false:=by decide):PE X (.Name x pos) (tG X.K xs):=by rintro a h hs:bM h;show λpins s σ H Q I q=>Be (v:=.ref a) hg h rfl hd pins s σ H Q I (q a hs)
def yk:aco X Su:=by show Rp
end
def wA{X:Cx}:me X (.type "dict") (λxs H Q=>∃a aQ,xs=[.ref a]/\Rd H a (.dK aQ)/\∀p,H p=none->Q (.ref p) (upd H p (.dK aQ))):=by
 intro pins s σ H xs us Q I r h;rintro a aQ rfl e q:fD h;rintro u rfl ru:bM<|vals1 r
 cases ru;show Vu I e λp s' hp I'=>#[ib,.ref p,_,I',rfl,q p hp]
structure eX(K:ad)(mg:Str->Option ag)(A:dW):Prop extends TX K A where
 uf:mg "range"=none
 kz:mg "enumerate"=none
 fb:mg "len"=none
 Vf:mg "any"=none
 aaf:mg "all"=none
 aag:mg "max"=none
 Vg:mg "ord"=none
 Fh:mg "sorted"=none
 M0:mg "int"=none
 Dq:mg "str"=none
 PM:mg "list"=none
 KP:mg "dict"=none
 aah:mg "set"=none
 pE:GT K mg "LETTERS" [.str "A",.str "B",.str "C",.str "D",.str "E",.str "F"]
 nE:GI mg "LAST_DAY" 13
 pP:GT K mg "ALL_WEEKDAYS" [.int 0,.int 1,.int 2,.int 3,.int 4,.int 5,.int 6]
 qY:GI mg "DAY_MINUTES" 1440
 FJ:GI mg "ROUNDS" 5
 Du:GI mg "TEXT_MOST" (3000)
 A5:GI mg "TRIPS_MOST" (6)
 A4:GI mg "STOPS_MOST" (5)
 kD:GI mg "NO_FAULT" (0)
 A2:GI mg "FIRST_WORD" (1)
 Dx:GI mg "TRIP_LINE" (2)
 wK:GI mg "STOP_LINE" (3)
 wI:GI mg "NOT_ENDED" (4)
 A6:GI mg "TRIP_TWICE" (5)
 uj:GI mg "MIN_LINE" (6)
 uk:GI mg "NO_PROMISE" (-1)
 fg:GI mg "OUT_OF_RANGE" (-1)
 Jx:GI mg "NO_TEXT" (-2)
 zK:GI mg "TOO_MANY" (-3)
 wJ:GI mg "NUMBER_TAKEN" (-4)
 ul:GI mg "NO_THING" (-4)
 sW:GI mg "NO_RUN" (-5)
 zJ:GI mg "HAS_GONE" (-6)
 qZ:GI mg "TIME_BEFORE" (-7)
 FI:GI mg "NO_WAY" (-8)
 yM:GI mg "NO_LATENESS" (-8)
 Dt:GI mg "HAS_BEGUN" (-9)
 A3:GI mg "HAS_THINGS" (-10)
 Dv:GI mg "TIME_MOST" (100000)
 yL:GI mg "DELAYS_MOST" (40)
 yN:GI mg "THINGS_MOST" (10)
 Ld:GI mg "TABLE" (1)
 RV:GS mg "SIGNS" "\n #-=0123456789ABCDEFIMNPRTUV"
 RU:GS mg "OTHER" "?"
def qh(a:Nat)(l:List Nat):dw (a::l)=a+dw l:=rfl
theorem pH:∀(l m:List Nat),dw (l++m)=dw l+dw m
 |[],m=>by simp[dw]
 |a::l,m=>by
  rw[UX,qh,qh,pH l m];omega
theorem D8(no d n:Nat):∀(l:List ajl),
 dw ((l.filter λx=>x.no==no&&(x.day==d&&decide (x.at_<n+1))).map λx=>x.minutes) =
 dw ((l.filter λx=>x.no==no&&(x.day==d&&decide (x.at_<n))).map λx=>x.minutes)+dw ((l.filter λx=>x.no==no&&(x.day==d&&x.at_==n)).map λx=>x.minutes)
 |[]=>rfl
 |x::l=>by
  have ih:=D8 no d n l;simp only[cz];by_cases h1:(x.no==no)=true
  .by_cases h2:(x.day==d)=true
   .simp only[h1,h2,Aq];by_cases h3:x.at_<n
    .have h4:x.at_<n+1:=by omega
     have h5:¬x.at_=n:=by omega
     simp only[h3,h4,h5,decide_true,if_true,beq_iff_eq,if_false,bD,qh,ih];omega
    .by_cases h5:x.at_=n
     .have h4:x.at_<n+1:=by omega
      simp only[h3,h4,h5,decide_true,decide_false,if_true,beq_self_eq_true,bD,qh,ih];have h6:n<n+1:=by omega
      have h7:¬n<n:=by omega
      simp only[h6,h7,decide_true,decide_false,if_true,fG,if_false,bD,qh,ih];omega
     .have h4:¬x.at_<n+1:=by omega
      simp only[h3,h4,h5,decide_false,fG,if_false,beq_iff_eq,ih]
   .simp only[h1,h2,Aq,kZ,fG,if_false,ih]
  .simp only[h1,kZ,fG,if_false,ih]
def Y8(w:ah)(t:ax)(d i:Nat):vT w t d (λk=>decide (k<=i))=vT w t d (λk=>decide (k<i+1)):=by
 have:(λk=>decide (k<=i))=(λk=>decide (k<i+1)):=by funext k;show decide_eq_decide.mpr Nat.lt_succ_iff.symm
 rw[this]
def FB(l:List Nat):(ly l).all mG=true:=by rw[bB];intro x hx;rintro n _ rfl:bM<|List.mem_map.mp hx;rfl
theorem EJ(i:Int):∀l:List Nat,Pc (.int i) (ly l)=l.any λn=>(n:Int)==i
 |[]=>rfl
 |n::l=>by
  have ih:=EJ i l;change ((n:Int)==i||Pc (.int i) (ly l))=_;rw[ih];rfl
def Tf(ds:List Bool)(j:Nat)(hj:j<7):((iZ ds).any λn=>(n:Int)==(j:Int))=ds.getD j false:=by
 unfold iZ;cases e:ds.getD j false with
 |true=>rw[jE];show #[ia,j,eO.mpr ⟨gV.mpr hj,e⟩,by simp]
 |false=>
  rw[Uu];intro x hx;rintro _ h2:fo<|List.mem_filter.mp hx;intro z;have z':(x:Int)=(j:Int):=by simpa using z
  have:x=j:=by omega
  subst this;rw[e] at h2;cases h2
def ac4(ds:List Bool){d:Int}(h:0<=d):Pc (.int (d%7)) (ly (iZ ds))=ds.getD (d.toNat%7) false:=by rw[EJ,show d%7=((d.toNat%7:Nat):Int) by omega];show Tf ds _ (Nat.mod_lt _ (by decide))
def Y0{l:List Nat}{i:Nat}{n:Nat}(h:l[i]? = some n):(ly l)[i]? = some (iv n):=by unfold ly;rw[aF,h];rfl
def nT{α:Type}{n i:Nat}(f:Nat->α)(h:i<n):((ay n).map f)[i]? = some (f i):=by rw[aF,f9 h];rfl
def nH(w:ah)(no d j:Nat):Nat:=dw ((w.delays.filter λx=>x.no==no&&(x.day==d&&decide (x.at_<j))).map λx=>x.minutes)
def DC(w:ah)(no d j:Nat):nH w no d (j+1)=nH w no d j+jT w no d j:=D8 no d j w.delays
def NP(w:ah)(no d:Nat):nH w no d 0=0:=by
 unfold nH;have:(w.delays.filter λx=>x.no==no&&(x.day==d&&decide (x.at_<0)))=[]:=by apply vN.mpr;intro x _;simp
 rw[this];rfl
def Ve(w:ah)(t:ax)(d j:Nat){s:eE}(h:t.stops[j]? = some s):d8 w t d j=1440*d+s.arr+nH w t.no d j:=by unfold d8;rw[h];rfl
def Vz(w:ah)(t:ax)(d j:Nat){s:eE}(h:t.stops[j]? = some s):bE w t d j=1440*d+s.dep+nH w t.no d (j+1):=by unfold bE;rw[h,Y8];rfl
structure qW(t:ax):Prop where
 days:t.days.length=7
 last:t.last<=13
 room:∃a b,t.room=[a,b]
 two:2<=t.stops.length
 lw:t.stops.length<=5
 off:∀s∈t.stops,s.office<6/\s.arr<=s.dep/\s.dep<2880
 up:t.stops.Pairwise λa b=>a.dep<b.arr
structure ED(b:eT):Prop where
 mins:b.mins.length=6
 six:b.trips.length<=6
 ok:∀t∈b.trips,qW t
 nos:(b.trips.map λt=>t.no).Nodup
def mF{α:Type}(f:Nat->List α)(i:Nat):(ay (i+1)).flatMap f=(ay i).flatMap f++f i:=by rw[l9,f8];simp
theorem dH{α β:Type}{f:α->List β}{c:Nat}:∀{l:List α},(∀x∈l,(f x).length<=c)->(l.flatMap f).length<=l.length*c
 |[],_=>by simp
 |a::l,h=>by
  rw[js,ap,aP];have h1:=h a (aJ ..);have h2:=dH (l:=l) λx hx=>h x (au _ hx);have h3:(l.length+1)*c=l.length*c+c:=OY _ _;omega
def oG(W:ah)(t:ax)(l:dP):bZ:=
 { leg:=l,from_:=dX t l.i,by_:=(bE W t l.day l.i:Int) - (t.cut:Int),to_:=dX t l.j,ready:=d8 W t l.day l.j+Ki W (dX t l.j) }
def Cw{W:ah}{t:ax}{l:dP}(h:cI W l.trip=some t):nO W l=some (oG W t l):=by unfold nO;rw[h];rfl
def yg{t:ax}(o:qW t){i:Nat}(h:i<t.stops.length):dX t i<6:=by unfold dX;rw[bb h];show (o.off _ (tX h)).1
def DD(k d n i:Nat):List dP:=(ay (n - (i+1))).map λm=>{ trip:=k,day:=d,i:=i,j:=i+1+m }
theorem Jl(i:Nat):∀n,(ay n).filter (λj=>decide (i<j))=(ay (n - (i+1))).map λm=>i+1+m
 |0=>by simp
 |n+1=>by
  rw[l9,cr,Jl i n];by_cases h:i<n;.rw[show n+1 - (i+1)=(n - (i+1))+1 by omega,l9,aj];simp[h];omega
  .rw[show n+1 - (i+1)=0 by omega,show n - (i+1)=0 by omega];simp[h]
def Wj(k d n i:Nat):(((ay n).filter λj=>decide (i<j)).map λj=>({ trip:=k,day:=d,i:=i,j:=j }:dP))=DD k d n i:=by rw[Jl,dJ];rfl
def JG(k d n i:Nat):(DD k d n i).length<=n:=by unfold DD;rw[ab,bQ];omega
def DE(k d n:Nat):List dP:=(ay n).flatMap λi=>DD k d n i
def JH{k d n:Nat}(h:n<=5):(DE k d n).length<=25:=by have:=dH (l:=ay n) (f:=λi=>DD k d n i) (c:=n) λx _=>JG ..;rw[bQ] at this;show aE this (ZZ h h)
def nJ(W:ah)(k:Nat)(t:ax)(d:Nat):List bZ:=if c9 W t d=true then (DE k d t.stops.length).map (oG W t) else []
def pZ(W:ah)(k:Nat):List bZ:=match cI W k with
 |none=>[]
 |some t=>(ay 14).flatMap λd=>nJ W k t d
theorem yK{W:ah}{t:ax}:∀{l:List dP},(∀g∈l,cI W g.trip=some t)->l.filterMap (nO W)=l.map (oG W t)
 |[],_=>rfl
 |g::l,h=>by
  rw[pw,Cw (h g (aJ ..)),bD,yK λx hx=>h x (au _ hx)]
def FV{k d n:Nat}{g:dP}(h:g∈DE k d n):g.trip=k/\g.day=d/\g.i<g.j/\g.j<n:=by rintro i hi hg:bM<|List.mem_flatMap.mp h;rintro m hm rfl:bM<|List.mem_map.mp hg;rw[gV] at hi hm;show #[ij,rfl,rfl,by change i<i+1+m;omega,by change i+1+m<n;omega]
def GJ(W:ah):eh W=(ay W.table.trips.length).flatMap λk=>pZ W k:=by
 unfold eh Vbpoaf.legs;rw[MG];congr 1;funext k;unfold pZ;cases e:cI W k with
 |none=>rfl
 |some t=>
  change List.filterMap _ (List.flatMap _ (ay 14))=_;rw[MG];congr 1;funext d;unfold nJ;by_cases h:c9 W t d=true
  .rw[if_neg (by rw[h];decide),if_pos h];have e1:((ay t.stops.length).flatMap λi=>((ay t.stops.length).filter λj=>decide (i<j)).map λj=>({ trip:=k,day:=d,i:=i,j:=j }:dP))=DE k d t.stops.length:=by
    unfold DE;congr 1;funext i;show Wj ..
   rw[e1];show yK λg hg=>by rw[(FV hg).1];show e
  .have h':c9 W t d=false:=by cases q:c9 W t d with|true=>show absurd q h|false=>rfl
   rw[if_pos h',if_neg h];rfl
def GG{W:ah}{k d:Nat}{t:ax}(o:qW t):(nJ W k t d).length<=25:=by
 unfold nJ;split;.rw[ab];show JH o.lw
 .simp
def gl{W:ah}{k:Nat}{t:ax}(h:cI W k=some t):t∈W.table.trips:=aZ h
def GH{W:ah}(o:ED W.table)(k:Nat):(pZ W k).length<=350:=by
 unfold pZ;cases e:cI W k with
 |none=>simp
 |some t=>have:=dH (l:=ay 14) (f:=λd=>nJ W k t d) (c:=25) λx _=>GG (o.ok t (gl e));rw[bQ] at this;show this
def tz{W:ah}(o:ED W.table):(eh W).length<=2100:=by rw[GJ];have:=dH (l:=ay W.table.trips.length) (f:=λk=>pZ W k) (c:=350) λx _=>GH o x;rw[bQ] at this;have h:=o.six;omega
def lE(w:ah)(t:ax)(d:Int):Bool:=decide (0<=d)&&c9 w t d.toNat
theorem NC{α:Type}(p:α->Bool):∀(l:List α)(n:Nat),(l.zipIdx n).find? (λx=>p x.1)=none/\(∀x∈l,p x=false)\/∃i a,l[i]? = some a/\p a=true/\(l.zipIdx n).find? (λx=>p x.1)=some (a,n+i)
 |[],n=>.inl ⟨rfl,λx h=>by simp at h⟩
 |a::l,n=>by
  rw[List.zipIdx_cons,jo];cases e:p a with
  |true=>show .inr #[ib,0,a,rfl,e,by simp]
  |false=>
   rcases NC p l (n+1) with⟨h1,h2⟩|⟨i,b,h1,h2,h3⟩
   .show .inl ⟨h1,λx hx=>?_⟩;rcases aD.mp hx with rfl|hx;.show e
    .show h2 x hx
   .show .inr #[ib,i+1,b,by simpa using h1,h2,by rw[h3];simp;omega]
def mU(W:ah)(n:Int):(HI W n=none/\∀t∈W.table.trips,¬(t.no:Int)=n)\/∃k t,cI W k=some t/\(t.no:Int)=n/\HI W n=some (k,t):=by
 unfold HI;rcases NC (λt:ax=>(t.no:Int)==n) W.table.trips 0 with⟨h1,h2⟩|⟨i,a,h1,h2,h3⟩;.show .inl ⟨by rw[h1];rfl,λt ht=>?_⟩;have:=h2 t ht;simpa using this
 .show .inr #[ib,i,a,h1,by simpa using h2,by rw[h3];simp]
def To{W:ah}{t:ax}{d:Nat}(h:c9 W t d=true):d<=t.last:=by unfold c9 wg at h;simp only[ak,decide_eq_true_eq] at h;show h.1.2.1
def QZ{W:ah}{n d:Int}(h:∀t∈W.table.trips,¬((t.no:Int)=n/\lE W t d=true)):jN W n d=none:=by
 unfold jN;rcases mU W n with⟨h1,_⟩|⟨k,t,h1,h2,h3⟩;.rw[h1]
 .rw[h3];change (if _ then _ else _)=_;rw[if_neg];rintro cG;rintro q1 q2:fo cG;show h t (gl h1) ⟨h2,?_⟩;unfold aH at q1;simp only[ak,decide_eq_true_eq] at q1;unfold lE;rw[show c9 W t d.toNat=true from q2,decide_eq_true (show 0<=d by omega)];rfl
def uM{b:eT}(o:ED b){i j:Nat}{s t:ax}(hi:b.trips[i]? = some s)(hj:b.trips[j]? = some t)(e:s.no=t.no):i=j:=by
 have h1:(b.trips.map λt=>t.no)[i]? = some s.no:=by rw[aF,hi];rfl
 have h2:(b.trips.map λt=>t.no)[j]? = some s.no:=by rw[aF,hj,e];rfl
 rintro l1 e1:bW<|List.getElem?_eq_some_iff.mp h1;rintro l2 e2:bW<|List.getElem?_eq_some_iff.mp h2;show (tV o.nos).mp (e1.trans e2.symm)
def GN{W:ah}(o:ED W.table){n d:Int}{k:Nat}{t:ax}(h:cI W k=some t)(hn:(t.no:Int)=n)(hd:lE W t d=true):jN W n d=some (k,t):=by
 unfold jN;rcases mU W n with⟨_,h2⟩|⟨k',t',h1,h2,h3⟩;.show absurd hn (h2 t (gl h))
 .have e:k'=k:=uM o h1 h (by omega);subst e;rw[h] at h1;cases h1;rw[h3];unfold lE at hd;simp only[ak,decide_eq_true_eq] at hd;have hl:=To hd.2;have h13:=(o.ok t (gl h)).last;change (if _ then _ else _)=_;rw[if_pos ⟨by unfold aH gT;simp only[ak,decide_eq_true_eq];omega,hd.2⟩]
def PY{W:ah}{no d k:Nat}(h:∀x∈W.delays,¬(x.no=no/\x.day=d)):dw ((W.delays.filter λx=>x.no==no&&(x.day==d&&x.at_==k)).map λx=>x.minutes)=0:=by
 have:(W.delays.filter λx=>x.no==no&&(x.day==d&&x.at_==k))=[]:=by apply vN.mpr;intro x hx z;simp only[ak,beq_iff_eq] at z;show h x hx ⟨z.1,z.2.1⟩
 rw[this];rfl
end TT
section
namespace TT
open Vbpoaf
def ON(old new:List cn)(r:bZ):(cO old new r).length=new.length:=by
 unfold cO;split;.rfl
 .split;.rfl
  .split;.show jp
   .split;.show jp
    .rfl
theorem FD(old:List cn):∀(rs:List bZ)(new:List cn),(rs.foldl (cO old) new).length=new.length
 |[],new=>rfl
 |r::rs,new=>by rw[iD,FD old rs,ON]
def JS(rs:List bZ)(l:List cn):(round rs l).length=l.length:=FD l rs l
theorem GM(rs:List bZ):∀n l,(cB rs n l).length=l.length
 |0,l=>rfl
 |n+1,l=>by unfold cB;rw[GM rs n,JS]
theorem mj(rs:List bZ):∀n l,cB rs (n+1) l=round rs (cB rs n l)
 |0,l=>rfl
 |n+1,l=>by
  change cB rs (n+1) (round rs l)=round rs (cB rs (n+1) l);rw[mj rs n];rfl
theorem GL{rs:List bZ}{l:List cn}(h:round rs l=l):∀n,cB rs n l=l
 |0=>rfl
 |n+1=>by unfold cB;rw[h,GL h n]
theorem GK(rs:List bZ)(l:List cn)(m:Nat):∀n,cB rs (m+n) l=cB rs n (cB rs m l)
 |0=>rfl
 |n+1=>by
  rw[<-Mv,mj,GK rs l m n,mj]
def Jn(o t:Nat):(dY o t).length=6:=by unfold dY;rw[jp,gt];rfl
def vx(k:Nat)(l:List cn):Prop:=∀(o:Nat)(x:Nat×List dP),(l[o]?).join=some x->x.2.length<=k
def qf{α:Type}{l:List (Option α)}{i o:Nat}{v:Option α}(hi:i<l.length):((l.set i v)[o]?).join=if o=i then v else (l[o]?).join:=by
 by_cases h:o=i;.subst h;rw[if_pos rfl,iM hi];rfl
 .rw[if_neg h,lc (cA h)]
def T9{k:Nat}{old new:List cn}{r:bZ}(h1:vx k old)(h2:vx (k+1) new):vx (k+1) (cO old new r):=by
 unfold cO;cases e:(old[r.from_]?).join with
 |none=>show h2
 |some x=>
  change vx (k+1) (if r.by_<(x.1:Int) then new else _);split;.show h2
  .have hs:vx (k+1) (new.set r.to_ (some (r.ready,x.2++[r.leg]))):=by
    intro o y hy;by_cases hl:r.to_<new.length
    .rw[qf hl] at hy;split at hy;.cases hy;change (x.2++[r.leg]).length<=k+1;rw[ap];have:=h1 _ _ e;change x.2.length+1<=k+1;omega
     .show h2 o y hy
    .rw[su (by omega)] at hy;show h2 o y hy
   split;.show hs
   .split;.show hs
    .show h2
theorem G2{k:Nat}{old:List cn}(h1:vx k old):∀(rs:List bZ)(new:List cn),vx (k+1) new->vx (k+1) (rs.foldl (cO old) new)
 |[],new,h=>h
 |r::rs,new,h=>by rw[iD];show G2 h1 rs _ (T9 h1 h)
theorem o9{rs:List bZ}{l:List cn}(h:vx 0 l):∀n,vx n (cB rs n l)
 |0=>h
 |n+1=>by
  rw[mj];show G2 (o9 h n) rs _ λo x hx=>Nat.le_succ_of_le (o9 h n o x hx)
def xU(o t:Nat):vx 0 (dY o t):=by
 intro q x h;unfold dY at h;by_cases ho:o<(fY mY (none:cn)).length
 .rw[qf ho] at h;split at h;.cases h;show aA _
  .exfalso;cases e:(fY mY (none:cn))[q]? with
   |none=>rw[e] at h;cases h
   |some z=>rw[e] at h;have:=aZ e;rw[lR this] at h;cases h
 .rw[su (by omega)] at h;exfalso;cases e:(fY mY (none:cn))[q]? with
  |none=>rw[e] at h;cases h
  |some z=>rw[e] at h;have:=aZ e;rw[lR this] at h;cases h
def mE{rs:List bZ}{o t q:Nat}{x:Nat×List dP}(h:dQ rs o t q=some x):x.2.length<=5:=o9 (xU o t) 5 q x h
def B_{rs:List bZ}{o t q m:Nat}(h:round rs (cB rs m (dY o t))=cB rs m (dY o t)):∀n,m<=n->cB rs n (dY o t)=cB rs m (dY o t):=by intro n hn;rintro k rfl:bW (⟨n - m,by omega⟩:∃k,n=m+k);rw[GK,GL h]
def lq(rs:List bZ)(o t q n:Nat):Option (Nat×Nat):=match gj rs n o t q with
 |none=>none
 |some x=>if n=0 then some (0,x.1) else match gj rs (n - 1) o t q with
  |none=>some (n,x.1)
  |some y=>if x.1<y.1 then some (n,x.1) else none
def M4(rs:List bZ)(o t q:Nat):pD rs o t q=(ay 6).filterMap (lq rs o t q):=rfl
def PN{rs:List bZ}{o t q n:Nat}(h:cB rs (n+1) (dY o t)=cB rs n (dY o t)):lq rs o t q (n+1)=none:=by
 unfold lq gj;rw[h];cases e:((cB rs n (dY o t))[q]?).join with
 |none=>rfl
 |some x=>
  change (if n+1=0 then _ else match ((cB rs (n+1 - 1) (dY o t))[q]?).join with
   |none=>some (n+1,x.1)
   |some y=>if x.1<y.1 then some (n+1,x.1) else none)=none
  rw[if_neg (by omega),Nat.add_sub_cancel,e];change (if x.1<x.1 then _ else _)=none;rw[if_neg (fZ _)]
def wG{β:Type}(f:Nat->Option β)(n:Nat):(ay (n+1)).filterMap f=(ay n).filterMap f++(f n).toList:=by
 rw[l9,List.filterMap_append];cases e:f n with
 |none=>simp[e]
 |some z=>simp[e]
theorem Jo{rs:List bZ}{o t q m:Nat}(h:round rs (cB rs m (dY o t))=cB rs m (dY o t)):∀k,(ay (m+1+k)).filterMap (lq rs o t q)=(ay (m+1)).filterMap (lq rs o t q)
 |0=>rfl
 |k+1=>by
  rw[<-Mv,wG,Jo h k];have e:lq rs o t q (m+1+k)=none:=by rw[show m+1+k=(m+k)+1 by omega];apply PN;rw[B_ (t:=t) (q:=q) h (m+k+1) (by omega),B_ (t:=t) (q:=q) h (m+k) (by omega)]
  rw[e];simp
theorem Fi(rs:List bZ):∀n l,Z_ rs (n+1) l=(Z_ rs n l |> λx=>rs.foldl (df x) x)
 |0,l=>rfl
 |n+1,l=>by
  change Z_ rs (n+1) (rs.foldl (df l) l)=_;rw[Fi rs n];rfl
end TT
end
section
namespace TT
open Vbpoaf
theorem DZ{α:Type}{R:α->α->Prop}:∀{l m:List α},(∀a b,a∈l->b∈l->R a b->R b a->a=b)->l.Perm m->l.Pairwise R->m.Pairwise R->l=m
 |[],m,_,hp,_,_=>by rw[List.nil_perm.mp hp]
 |a::l,[],_,hp,_,_=>by have:=hp.length_eq;simp at this
 |a::l,b::m,has,hp,h1,h2=>by
  rw[ja] at h1 h2;have e:a=b:=by
   have hb:b∈a::l:=hp.mem_iff.mpr (aJ ..);have ha:a∈b::m:=hp.mem_iff.mp (aJ ..);rcases aD.mp hb with e|Tr;.show e.symm
   rcases aD.mp ha with e|ha';.show e
   show has a b (aJ ..) hb (h1.1 b Tr) (h2.1 a ha')
  subst e;rw[DZ (λx y hx hy=>has x y (au _ hx) (au _ hy)) (axs hp) h1.2 h2.2]
def j4(x y:Load):Prop:=EB y x=false
def zG(a b:Load):EB a b=true↔a.rank<b.rank\/(a.rank=b.rank/\(a.ready<b.ready\/(a.ready=b.ready/\a.id<b.id))):=by unfold EB;simp only[E1,ak,decide_eq_true_eq,beq_iff_eq]
def rC(x y:Load):j4 x y↔¬(y.rank<x.rank\/(y.rank=x.rank/\(y.ready<x.ready\/(y.ready=x.ready/\y.id<x.id)))):=by unfold j4;rw[<-zG,Bool.not_eq_true]
theorem Gy(x:Load):∀l,(BY x l).Perm (x::l)
 |[]=>vp _
 |y::r=>by
  unfold BY;split;.show vp _
  .show ((Gy x r).cons y).trans (Rq _ _ _)
theorem Gz(x:Load):∀{l},l.Pairwise j4->(BY x l).Pairwise j4
 |[],_=>by unfold BY;show Mu _ _
 |y::r,h=>by
  rw[ja] at h;unfold BY;split
  .rename_i hb;rw[zG] at hb;show ja.mpr ⟨λz hz=>?_,ja.mpr h⟩;rw[rC];rcases aD.mp hz with rfl|hz;.omega
   .have:=h.1 z hz;rw[rC] at this;omega
  .rename_i hb;show ja.mpr ⟨λz hz=>?_,Gz x h.2⟩;rcases aD.mp ((Gy x r).mem_iff.mp hz) with rfl|hz
   .change EB _ _=false;cases e:EB z y with
    |false=>rfl
    |true=>show absurd e hb
   .show h.1 z hz
theorem zI:∀(l acc:List Load),acc.Pairwise j4->(l.foldl (λa x=>BY x a) acc).Perm (l++acc)/\(l.foldl (λa x=>BY x a) acc).Pairwise j4
 |[],acc,h=>⟨vp _,h⟩
 |x::l,acc,h=>by
  rintro h1 h2:fo<|zI l (BY x acc) (Gz x h);show⟨?_,h2⟩;rw[iD];show h1.trans ((axq l (Gy x acc)).trans List.perm_middle)
def iK(l:List Load):(cp l).Perm l:=by have:=(zI l [] Hw).1;rw[b9] at this;show this
def HS(l:List Load):(cp l).Pairwise j4:=(zI l [] Hw).2
def YZ{l:List Load}(h:(l.map λx=>x.id).Nodup){a b:Load}(ha:a∈l)(hb:b∈l)(e:a.id=b.id):a=b:=by
 rintro i hi rfl:bW 1 bW<|List.getElem_of_mem ha;rintro j hj rfl:bW 1 bW<|List.getElem_of_mem hb;have h1:(l.map λx=>x.id)[i]? = some l[i].id:=by rw[aF,bb hi];rfl
 have h2:(l.map λx=>x.id)[j]? = some l[i].id:=by rw[aF,bb hj,e];rfl
 rintro l1 e1:bW<|List.getElem?_eq_some_iff.mp h1;rintro l2 e2:bW<|List.getElem?_eq_some_iff.mp h2;have:i=j:=(tV h).mp (e1.trans e2.symm);subst this;rfl
def qX{l ys:List Load}(hid:(l.map λx=>x.id).Nodup)(hp:ys.Perm l)(hs:ys.Pairwise j4):ys=cp l:=by show DZ (λa b ha hb h1 h2=>?_) (hp.trans (iK l).symm) hs (HS l);rw[rC] at h1 h2;show YZ hid (hp.mem_iff.mp ha) (hp.mem_iff.mp hb) (by omega)
def tP(L M:eR)(j d k i:Nat):cU (L++M) j d k i=cU L j d k i+cU M j d k i:=by unfold cU;rw[cr,aj,pH]
def BJ(g:dP)(kd am j d k i:Nat):cU [(g,kd,am)] j d k i=if g.trip=j/\g.day=d/\kd=k/\g.i<=i/\i<g.j then am else 0:=by
 unfold cU;by_cases h:g.trip=j/\g.day=d/\kd=k/\g.i<=i/\i<g.j;.rw[if_pos h,cz,if_pos (by simp[h])];rfl
 .rw[if_neg h,cz,if_neg (by simpa using h)];rfl
def qL(x:Load)(l m:List dP):bU x (l++m)=bU x l++bU x m:=aj
def Oy{W:ah}{L:eR}{g:dP}{kd am:Nat}{t:ax}(h:cI W g.trip=some t):qr W L g kd am=true↔∀k,k<t.stops.length->g.i<=k->k<g.j->cU L g.trip g.day kd k+am<=t.room.getD kd 0:=by
 unfold qr;rw[h];change ((ay t.stops.length).all λk=>!(decide (g.i<=k)&&decide (k<g.j))||decide (cU L g.trip g.day kd k+am<=t.room.getD kd 0))=true↔_;rw[bB];constructor;.intro q k hk h1 h2;have:=q k (gV.mpr hk);simpa [h1,h2] using this
 .intro q k hk;have hk:=gV.mp hk;by_cases h1:g.i<=k
  .by_cases h2:k<g.j;.rw[decide_eq_true h1,decide_eq_true h2,decide_eq_true (q k hk h1 h2)];rfl
   .simp[h2]
  .simp[h1]
structure aab(W:ah)(now:Nat)(g:dP):Prop where
 ex:∃t,cI W g.trip=some t/\goes W t g.day=true/\g.i<g.j/\g.j<t.stops.length/\bE W t g.day g.i<now
structure Pw(W:ah)(now n:Nat)(x:Load):Prop where
 kind:x.kind<2
 from_:x.from_<6
 to_:x.to_<6
 legs:∀g∈x.begun,aab W now g
 many:x.begun.length<=n
structure SOk(n:Nat)(S:aO):Prop where
 tok:ED S.world.table
 Mo:S.loads.length<=10
 ids:(S.loads.map λx=>x.id).Nodup
 ld:∀x∈S.loads,Pw S.world S.now n x
 few:n<=2000
end TT
end
section
namespace TT
open Vbpoaf
def Vc(L:eR)(x:Load)(b:cn):eR:=match b with
 |none=>L
 |some y=>L++bU x y.2
def oX(S:aO)(rs:List bZ)(L:eR)(x:Load)(r:List Load):jt S rs L (x::r)=(x,zt S rs L x)::jt S rs (Vc L x (zt S rs L x)) r:=by
 change (x,zt S rs L x)::jt S rs (match zt S rs L x with
  |none=>L
  |some y=>L++bU x y.2) r=_
 rfl
theorem Ds(S:aO)(rs:List bZ):∀(l:List Load)(L:eR),(jt S rs L l).map (λp=>p.1)=l
 |[],L=>rfl
 |x::l,L=>by rw[oX,bD,Ds S rs l]
def zH(S:aO):(pK S).map (λp=>p.1)=cp S.loads:=Ds S _ _ _
def Yw{l:List (Load×cn)}(hn:((l.map λp=>p.1).map λx=>x.id).Nodup){p:Load×cn}(hp:p∈l):(l.find? λx=>x.1.id==p.1.id)=some p:=by
 induction l with
 |nil=>simp at hp
 |cons a l ih=>
  have hn':(a.1.id::((l.map λp=>p.1).map λx=>x.id)).Nodup:=hn;rintro h1 h2:fo<|List.nodup_cons.mp hn';rw[jo];rcases aD.mp hp with rfl|MB;.simp
  .have nS:¬a.1.id=p.1.id:=λz=>h1 (by rw[z];show aY.mpr #[ia,p.1,aY.mpr #[ia,p,MB,rfl],rfl]);rw[show (a.1.id==p.1.id)=false by simpa using nS];show ih h2 MB
def Om{l m:List Load}(h:l.Perm m)(hn:(m.map λx=>x.id).Nodup):(l.map λx=>x.id).Nodup:=(h.map _).nodup_iff.mpr hn
def PP{S:aO}(hn:(S.loads.map λx=>x.id).Nodup):(((pK S).map λp=>p.1).map λx=>x.id).Nodup:=by rw[zH];show Om (iK _) hn
def eI(S:aO)(x:Load):cn:=(XA S x.id).bind λy=>y.2
def TR{S:aO}(hn:(S.loads.map λx=>x.id).Nodup){p:Load×cn}(hp:p∈pK S):eI S p.1=p.2:=by unfold eI XA;rw[Yw (PP hn) hp];rfl
def Ca{S:aO}(hn:(S.loads.map λx=>x.id).Nodup):pK S=(cp S.loads).map λx=>(x,eI S x):=by
 rw[<-zH,dJ];have:(pK S).map ((λx=>(x,eI S x))∘λp=>p.1)=(pK S).map id:=by apply cJ;intro p hp;change (p.1,eI S p.1)=p;rw[TR hn hp]
 rw[this,Pi]
def mh{S:aO}{x:Load}{y:Nat×List dP}(h:eI S x=some y):y.2.length<=5:=by
 have gen:∀(rs:List bZ)(l:List Load)(L:eR)(p:Load×cn)(y:Nat×List dP),p∈jt S rs L l->p.2=some y->y.2.length<=5:=by
  intro rs l;induction l with
  |nil=>intro L p y hp;simp[jt] at hp
  |cons a l ih=>
   intro L p y hp hy;rw[oX] at hp;rcases aD.mp hp with rfl|hp
   .show mE hy
   .show ih _ p y hp hy
 unfold eI XA at h;cases e:(pK S).find? λz=>z.1.id==x.id with
 |none=>rw[e] at h;cases h
 |some p=>rw[e] at h;show gen _ _ _ p y (qQ e) h
def B'{S:aO}(o:ED S.world.table):(dF S).length<=2100:=aE (bK ..) (tz o)
def HR(l:List Load)(x:Load):((l++[x]).flatMap λx=>bU x x.begun)=(l.flatMap λx=>bU x x.begun)++bU x x.begun:=by rw[f8];simp
def qM(x:Load)(l:List dP):(bU x l).length=l.length:=ab ..
def S5{n:Nat}{l:List Load}(h:∀x∈l,x.begun.length<=n):(l.flatMap λx=>bU x x.begun).length<=l.length*n:=dH λx hx=>by rw[qM];show h x hx
end TT
end
namespace TT
section
variable{K:ad}{σ:L2.St}{H:Hp}{Q:VK}{D:qO}{tl te:TE}{ta:TA}{g:TG}{tb:TS}{tt:TT}{x:V}{xs:List V}{a:af}{vs:List Nat}
abbrev kF(g:TG)(tb:TS)(D:qO)(σ:L2.St)(J:It)(H1:Hp):Prop:=∃W:Nat->Nat->L2.St->Hp->Prop,(∃m,W 0 m σ H1)/\∀i m σ H,W i m σ H->
 (J.stop i H/\D.nx σ H)\/(J.go i H/\∃N:L2.St->Hp->Prop,(∀σ' H',N σ' H'->∃m',m'<m/\W (i+1) m' σ' H')/\∀x H',J.ZX i H x H'->g x σ H' λσ2 H2=>tb { D with nx:=N,ct:=N,bk:=D.nx } σ2 H2)
def kFL(K:ad)(g:TG)(tb:TS)(D:qO)(σ:L2.St)(x:V)(H1:Hp):Prop:=∃a,x=.ref a/\(∃xs,cf K H1 a xs)/\kF g tb D σ (XC K a) H1
def ae1(g:TG)(tb:TS)(D:qO)(σ:L2.St)(vs:List V)(H1:Hp):Prop:=∃j:Int,vs=[.int j]/\-(2 ^ 62)<=j/\j<2 ^ 62/\kF g tb D σ (Yi 0 j.toNat) H1
def ae2(g:TG)(tb:TS)(D:qO)(σ:L2.St)(vs:List V)(H1:Hp):Prop:=∃i j:Int,vs=[.int i,.int j]/\(-(2 ^ 62)<=i/\i<2 ^ 62/\-(2 ^ 62)<=j/\j<2 ^ 62)/\kF g tb D σ (Yi i (j - i).toNat) H1
def kFE(K:ad)(g:TG)(tb:TS)(D:qO)(σ:L2.St)(vs:List V)(H1:Hp):Prop:=∃a xs,vs=[.ref a]/\cf K H1 a xs/\kF g tb D σ (Ite K a) H1
def anm(h:tl σ H (kFL K g tb D σ)):I_ (NM K tl) g tb D σ H:=h
instance:RdS (I_ (NM K tl) g tb D σ H) (tl σ H (kFL K g tb D σ)):=⟨anm⟩
def ano(h:ta σ H (ae1 g tb D σ)):I_ (V' ta) g tb D σ H:=h
instance:RdS (I_ (V' ta) g tb D σ H) (ta σ H (ae1 g tb D σ)):=⟨ano⟩
def abl(h:ta σ H (ae2 g tb D σ)):I_ (R7 ta) g tb D σ H:=h
instance:RdS (I_ (R7 ta) g tb D σ H) (ta σ H (ae2 g tb D σ)):=⟨abl⟩
def awt(h:ta σ H (kFE K g tb D σ)):I_ (V9 K ta) g tb D σ H:=h
instance:RdS (I_ (V9 K ta) g tb D σ H) (ta σ H (kFE K g tb D σ)):=⟨awt⟩
def WR(Pv:Nat->L2.St->Hp->Prop)(hq:cf K H a xs)(h0:Pv 0 σ H)(hl:∀i σ H,i<=xs.length->Pv i σ H->cf K H a xs)
 (hs:∀i x σ H,xs[i]? = some x->Pv i σ H->g x σ H λσ2 H2=>tb { D with nx:=Pv (i+1),ct:=Pv (i+1),bk:=D.nx } σ2 H2) (hd:∀σ H,Pv xs.length σ H->D.nx σ H):kFL K g tb D σ (.ref a) H:=
 #[ie,a,rfl,⟨xs,hq⟩,VE Pv h0 hl hs hd]
def L4{j:Int}(Pv:Nat->L2.St->Hp->Prop)(h1:-(2 ^ 62)<=j)(h2:j<2 ^ 62)(h0:Pv 0 σ H)
 (hs:∀i σ H,i<j.toNat->Pv i σ H->g (.int (0+i)) σ H λσ2 H2=>tb { D with nx:=Pv (i+1),ct:=Pv (i+1),bk:=D.nx } σ2 H2) (hd:∀σ H,Pv j.toNat σ H->D.nx σ H):ae1 g tb D σ [.int j] H:=
 #[ie,j,rfl,h1,⟨h2,Jv Pv h0 hs hd⟩]
def WS{lo j:Int}(Pv:Nat->L2.St->Hp->Prop)(h1:-(2 ^ 62)<=lo)(h2:lo<2 ^ 62)(h3:-(2 ^ 62)<=j)(h4:j<2 ^ 62)(h0:Pv 0 σ H)
 (hs:∀i σ H,i<(j - lo).toNat->Pv i σ H->g (.int (lo+i)) σ H λσ2 H2=>tb { D with nx:=Pv (i+1),ct:=Pv (i+1),bk:=D.nx } σ2 H2) (hd:∀σ H,Pv (j - lo).toNat σ H->D.nx σ H):ae2 g tb D σ [.int lo,.int j] H:=
 #[ib,lo,j,rfl,#[ij,h1,h2,h3,h4],Jv Pv h0 hs hd]
def Sx{i1 i2:Nat}(Pv:Nat->L2.St->Hp->Prop)(hq:cf K H a xs)(h0:Pv 0 σ H)(hl:∀i σ H,i<=xs.length->Pv i σ H->cf K H a xs)
 (hs:∀i x σ H H',xs[i]? = some x->Pv i σ H->aq H H'->tb { D with nx:=Pv (i+1),ct:=Pv (i+1),bk:=D.nx } ((σ.set i1 (some (.int (i:Nat)))).set i2 (some x)) H') (hd:∀σ H,Pv xs.length σ H->D.nx σ H):
 kFE K (Yy K 2 (FH (qD i1) (FH (qD i2) Yx))) tb D σ [.ref a] H:=by
 show #[ib,a,xs,rfl,hq,#[ia,λi m σ H=>m=xs.length - i/\i<=xs.length/\Pv i σ H,#[ie,xs.length,by simp,bV _,h0],?_]];rintro i m σ H cG;rintro rfl hi p:lB cG;have q:=hl i σ H hi p;by_cases lr:i<xs.length;.show .inr #[io,#[im,xs,xs[i],q,by simp[lr]],Pv (i+1),λσ' H' p'=>#[ie,xs.length - (i+1),by omega,rfl,⟨lr,p'⟩],λx H' y=>?_];rintro T x' rfl hT rfl y:lA y;have hx:=y xs q;show #[ib,T,_,rfl,ox.of aT,#[iz,rfl,_,_,rfl,#[ib,_,_,rfl,rfl,hs i x' σ H _ hx p (cq hT)]]]
 .have e:i=xs.length:=by omega
  subst e;show .inl ⟨#[ia,xs,q,aA _],hd σ H p⟩
abbrev kL(g:TG)(tt:TT)(te:TE)(vs:List Nat)(σ:L2.St)(Q:VK)(J:It)(H1:Hp):Prop:=∀D,H1 D=none->∃W:Nat->Nat->Hp->Prop,(∃m,W 0 m (upd H1 D (.lst [])))/\∀i m H,W i m H->
 (J.stop i H/\Q (.ref D) H)\/(J.go i H/\∃Nx:Hp->Prop,(∀H',Nx H'->∃m',m'<m/\W (i+1) m' H')/\∀x H',J.ZX i H x H'->g x (ji σ vs) H' λσ2 H2=>ji σ2 vs=ji σ vs/\tt σ2 H2 λb H3=>if b=true then te σ2 H3 λy H4=>∃acc,H4 D=some (.lst acc)/\acc.length<sizeLine/\Nx (upd H4 D (.lst (acc++[y]))) else Nx H3)
def kLL(K:ad)(g:TG)(tt:TT)(te:TE)(vs:List Nat)(σ:L2.St)(Q:VK)(x:V)(H1:Hp):Prop:=∃a,x=.ref a/\(∃xs,cf K H1 a xs)/\kL g tt te vs σ Q (XC K a) H1
def kLT(K:ad)(g:TG)(tt:TT)(te:TE)(vs:List Nat)(σ:L2.St)(Q:VK)(x:V)(H1:Hp):Prop:=∃a,x=.ref a/\(∃xs,ox K H1 a xs)/\kL g tt te vs σ Q (Itt K a) H1
def kLS(g:TG)(tt:TT)(te:TE)(vs:List Nat)(σ:L2.St)(Q:VK)(v:V)(H1:Hp):Prop:=∃x,v=.str x/\kL g tt te vs σ Q (Its x) H1
def awx(h:tl σ H (kLL K g tt te vs σ Q)):XY (NM K tl) g tt te vs σ H Q:=h
instance:RdS (XY (NM K tl) g tt te vs σ H Q) (tl σ H (kLL K g tt te vs σ Q)):=⟨awx⟩
def awz(h:tl σ H (kLT K g tt te vs σ Q)):XY (aey K tl) g tt te vs σ H Q:=h
instance:RdS (XY (aey K tl) g tt te vs σ H Q) (tl σ H (kLT K g tt te vs σ Q)):=⟨awz⟩
def awy(h:tl σ H (kLS g tt te vs σ Q)):XY (aex tl) g tt te vs σ H Q:=h
instance:RdS (XY (aex tl) g tt te vs σ H Q) (tl σ H (kLS g tt te vs σ Q)):=⟨awy⟩
def Ql(d:af)(Nx:Hp->Prop)(y:V)(H4:Hp):Prop:=∃acc,H4 d=some (.lst acc)/\acc.length<sizeLine/\Nx (upd H4 d (.lst (acc++[y])))
def jv{d:af}{Nx:Hp->Prop}{y:V}{acc:List V}(h:H d=some (.lst acc))(hl:acc.length<sizeLine)(q:∀H',H' d=some (.lst (acc++[y]))->eA H H' d->Nx H'):Ql d Nx y H:=#[ie,acc,h,hl,q _ aT eA.upd]
def Bj(Pv:af->Nat->Hp->Prop)(hq:cf K H a xs)(h0:∀d H',H d=none->H' d=some (.lst [])->aq H H'->Pv d 0 H')(hl:∀d i H',H d=none->i<=xs.length->Pv d i H'->cf K H' a xs)
 (hs:∀d i x H',H d=none->xs[i]? = some x->Pv d i H'->g x (ji σ vs) H' λσ2 H2=>ji σ2 vs=ji σ vs/\tt σ2 H2 λb H3=>if b=true then te σ2 H3 (Ql d (Pv d (i+1))) else Pv d (i+1) H3)
 (hd:∀d H',H d=none->Pv d xs.length H'->Q (.ref d) H'):kLL K g tt te vs σ Q (.ref a) H:=
 #[ie,a,rfl,⟨xs,hq⟩,λd Ik=>Y9 (Pv d) (h0 d _ Ik aT (cq Ik)) (λi H'=>hl d i H' Ik) (λi x H'=>hs d i x H' Ik) (λH'=>hd d H' Ik)]
def ant(Pv:af->Nat->Hp->Prop)(hq:ox K H a xs)(h0:∀d H',H d=none->H' d=some (.lst [])->aq H H'->Pv d 0 H')(hl:∀d i H',H d=none->i<=xs.length->Pv d i H'->ox K H' a xs)
 (hs:∀d i x H',H d=none->xs[i]? = some x->Pv d i H'->g x (ji σ vs) H' λσ2 H2=>ji σ2 vs=ji σ vs/\tt σ2 H2 λb H3=>if b=true then te σ2 H3 (Ql d (Pv d (i+1))) else Pv d (i+1) H3)
 (hd:∀d H',H d=none->Pv d xs.length H'->Q (.ref d) H'):kLT K g tt te vs σ Q (.ref a) H:=
 #[ie,a,rfl,⟨xs,hq⟩,λd Ik=>ae9 (Pv d) (h0 d _ Ik aT (cq Ik)) (λi H'=>hl d i H' Ik) (λi x H'=>hs d i x H' Ik) (λH'=>hd d H' Ik)]
def Sy{z:Str}(Pv:af->Nat->Hp->Prop)(h0:∀d H',H d=none->H' d=some (.lst [])->aq H H'->Pv d 0 H')
 (hs:∀d i c H',H d=none->z.cps.toList[i]? = some c->Pv d i H'->g (.str ⟨#[c]⟩) (ji σ vs) H' λσ2 H2=>ji σ2 vs=ji σ vs/\tt σ2 H2 λb H3=>if b=true then te σ2 H3 (Ql d (Pv d (i+1))) else Pv d (i+1) H3)
 (hd:∀d H',H d=none->Pv d z.cps.toList.length H'->Q (.ref d) H'):kLS g tt te vs σ Q (.str z) H:=by
 show #[ia,z,rfl,λd Ik=>?_];have hsz:z.cps.toList.length=z.cps.size:=fX;show #[ia,λi m H=>m=z.cps.size - i/\i<=z.cps.size/\Pv d i H,#[ie,z.cps.size,by simp,bV _,h0 d _ Ik aT (cq Ik)],?_];rintro i m H' cG;rintro rfl hi p:lB cG;by_cases lr:i<z.cps.size;.show .inr #[io,lr,Pv d (i+1),λUF p'=>#[ie,z.cps.size - (i+1),by omega,rfl,⟨lr,p'⟩],λx UF y=>?_];rintro rfl c hc rfl:EQ y;show hs d i c _ Ik (by rw[Array.getElem?_toList];show hc) p
 .have e:i=z.cps.size:=by omega
  subst e;show .inl ⟨aA _,hd d H' Ik (by rw[hsz];show p)⟩
end
theorem bR{α:Type}:∀{l:List α}{i:Nat}{x:α},l[i]? = some x->l.take (i+1)=l.take i++[x]
 |[],i,x,h=>by simp at h
 |a::l,0,x,h=>by simp at h;subst h;rfl
 |a::l,i+1,x,h=>by
  have ih:=bR (l:=l) (i:=i) (x:=x) (by simpa using h);rw[Rs,Rs,ih];rfl
def uQ(n:Nat):ay (n+1)=ay n++[n]:=l9
theorem Op{f:Str}{v:V}:∀{fs:List (Str×V)},(fs.any λp=>decide (p.1=f))=false->jV f v fs=fs++[(f,v)]
 |[],_=>rfl
 |(g,x)::r,h=>by
  have h':(decide (g=f)||(r.any λp=>decide (p.1=f)))=false:=h;rw[Bool.or_eq_false_iff] at h';have hg:¬g=f:=of_decide_eq_false h'.1;change (if g=f then (g,v)::r else (g,x)::jV f v r)=_;rw[if_neg hg,Op h'.2];rfl
section
variable{K:ad}{σ:L2.St}{H H1 H2 H3:Hp}{Q:VK}{D:qO}{ta tb tc te tl tx th:TE}{x0:TA}{v x y:V}{xs ys:List V}{a b:af}{i j:Int}
def dL{f:Str}{C dx:af}{fs:List (Str×V)}{gs:List Str}(e:H a=some (.ins C dx fs))(c:CF K C gs)(q:∀H',H' a=some (.ins C dx (fs++[(f,y)]))->eA H H' a->D.nx σ H')
 (h1:Nat.ble fs.length 998=true:=by kernel_rfl) (h2:(fs.any λp=>decide (p.1=f))=false:=by kernel_rfl) (m:f∈gs:=by decide +kernel):TJ K D f y σ (.ref a) H:=by
 show QV e c.cl (c.no _ m) (qv (dB h1) (by decide)) λH' h k=>q H' ?_ k;rw[h,Op h2]
def CI{f:Str}{C dx:af}{fs fs':List (Str×V)}{gs:List Str}(e:H a=some (.ins C dx fs))(c:CF K C gs)(q:∀H',H' a=some (.ins C dx fs')->eA H H' a->D.nx σ H')
 (h1:Nat.ble fs.length 998=true:=by kernel_rfl) (h2:jV f y fs=fs':=by kernel_rfl) (m:f∈gs:=by decide +kernel):TJ K D f y σ (.ref a) H:=by
 show QV e c.cl (c.no _ m) (qv (dB h1) (by decide)) λH' h k=>q H' ?_ k;rw[h,h2]
def c8{f:Str}{C dx:af}{fs:List (Str×V)}{gs:List Str}(e:H a=some (.ins C dx fs))(c:CF K C gs)(q:Q v H)(l:fs.lookup f=some v:=by kernel_rfl)(m:f∈gs:=by decide +kernel):fQ K f Q (.ref a) H:=QU e c.cl (c.no _ m) l q
def CJ{f:Str}{C dx:af}{fs:List (Str×V)}{gs:List Str}(e:H a=some (.ins C dx fs))(c:CF K C gs)(hl:fs.length<1000)(q:∀H',H' a=some (.ins C dx (jV f y fs))->eA H H' a->D.nx σ H')(m:f∈gs:=by decide +kernel):TJ K D f y σ (.ref a) H:=QV e c.cl (c.no _ m) hl q
def Bi{l:af}{T:String}(h:H a=some (.lst xs))(hb:H b=some (.lst ys))(hl:xs.length+ys.length<=sizeLine)(q:∀H',H' a=some (.lst (xs++ys))->eA H H' a->Q .non H'):LZ (.ref a) [.ref b] H Q:=
 #[il,a,b,xs,ys,rfl,rfl,h,hb,⟨hl,q _ aT eA.upd⟩]
def JR(h:H a=some (.lst xs))(hb:H b=some (.lst ys))(hl:xs.length+ys.length<=sizeLine)(q:∀p H',H p=none->H' p=some (.lst (xs++ys))->aq H H'->Q (.ref p) H'):afw (.ref a) (.ref b) H Q:=
 #[il,a,b,xs,ys,rfl,rfl,h,hb,⟨hl,λp hp=>q p _ hp aT (cq hp)⟩]
def L6{n:Nat}{Qh:Hp->Prop}(h:H a=some (.lst xs))(hn:n<xs.length)(q:∀H',H' a=some (.lst (xs.set n v))->eA H H' a->Qh H'):Su (.ref a) (.int (n:Nat)) v H Qh:=
 #[il,a,xs,n,n,rfl,rfl,h,by unfold Y1;simp[hn],q _ aT eA.upd]
end
def j1{z:Int}{n:Nat}(h:z=(n:Int)):V.int z=iv n:=by rw[h]
def o7{as:List af}{i:Nat}{y:V}(hi:(as.map V.ref)[i]? = some y):∃b,as[i]? = some b/\y=V.ref b:=by
 rw[aF] at hi;cases e:as[i]? with
 |none=>rw[e] at hi;cases hi
 |some z=>rw[e] at hi;show #[ia,z,rfl,(bp hi).symm]
section
variable{K:ad}{σ:L2.St}{H H0:Hp}{Q:VK}{D:qO}{tl te:TE}{ta:TA}{g:TG}{tb:TS}{tt:TT}{a:af}{vs:List Nat}{α:Type}{P:Hp->af->α->Prop}{zs:List α}{z:α}{i:Nat}
def dA.sq(h:dA P H0 a zs)(s:aq H0 H):∃as:List af,cf K H a (as.map V.ref)/\as.length=zs.length/\cg (P H0) as zs:=by rintro as e p:bM h;show #[ie,as,cf.of (s _ _ e),p.length,p]
def abm(h:dA P H0 a zs)(s:aq H0 H)(e:zs[i]? = some z)(q:∀b,P H0 b z->Q (.ref b) H):L1 K (.ref a) (iv i) H Q:=by rintro as hs _ p:gF<|dA.sq (K:=K) h s;rintro b hb hp:bM<|oe p e;show bY hs (aV (by rw[aF,hb];rfl)) (q b hp)
def KO{xs:List V}{v:V}(h:xs.getLast? = some v):XD xs (-1)=some v:=by
 have hn:xs≠[]:=λe=>by rw[e] at h;cases h
 have hl:0<xs.length:=Rr.mpr hn;unfold XD Y1;rw[if_neg (by decide),if_pos (by omega)];change xs[(-1+(xs.length:Int)).toNat]? = some v;rw[show (-1+(xs.length:Int)).toNat=xs.length - 1 by omega,<-jj];show h
def Sz(h:dA P H0 a zs)(s:aq H0 H)(e:zs.getLast? = some z)(q:∀b,P H0 b z->Q (.ref b) H):L1 K (.ref a) (.int (-1)) H Q:=by rintro as hs hl p:gF<|dA.sq (K:=K) h s;rw[jj] at e;rintro b hb hp:bM<|oe p e;show bY hs (KO ?_) (q b hp);rw[jj,ab,hl,aF,hb];rfl
def rG(h:dA P H0 a zs)(s:aq H0 H)(q:Q (iv zs.length) H):Y5 K Q [V.ref a] H:=by rintro as hs hl p:gF<|dA.sq (K:=K) h s;show #[ib,a,_,rfl,.inl hs,by rw[ab,hl];show q]
def oP(Pv:Nat->L2.St->Hp->Prop)(hq:dA P H0 a zs)(h0:Pv 0 σ H)(hl:∀i σ H,Pv i σ H->aq H0 H)
 (hs:∀i z b σ H,zs[i]? = some z->P H0 b z->Pv i σ H->g (.ref b) σ H λσ2 H2=>tb { D with nx:=Pv (i+1),ct:=Pv (i+1),bk:=D.nx } σ2 H2) (hd:∀σ H,Pv zs.length σ H->D.nx σ H):kFL K g tb D σ (.ref a) H:=by
 rintro as e p:bM hq;have len:=p.length;show WR (xs:=as.map V.ref) Pv (cf.of (hl _ _ _ h0 _ _ e)) h0 (λi σ H _ h=>cf.of (hl _ _ _ h _ _ e)) (λi x σ H hx h=>?_) (λσ H h=>hd σ H (by rw[ab,len] at h;show h));rintro b hb rfl:bM<|o7 hx;rintro z hz hp:bM<|fE p hb;show hs i z b σ H hz hp h
def QT{i1 i2:Nat}(Pv:Nat->L2.St->Hp->Prop)(hq:dA P H0 a zs)(h0:Pv 0 σ H)(hl:∀i σ H,Pv i σ H->aq H0 H)
 (hs:∀i z b σ H H',zs[i]? = some z->P H0 b z->Pv i σ H->aq H H'->tb { D with nx:=Pv (i+1),ct:=Pv (i+1),bk:=D.nx } ((σ.set i1 (some (iv i))).set i2 (some (.ref b))) H') (hd:∀σ H,Pv zs.length σ H->D.nx σ H):
 kFE K (Yy K 2 (FH (qD i1) (FH (qD i2) Yx))) tb D σ [.ref a] H:=by
 rintro as e p:bM hq;have len:=p.length;show Sx (xs:=as.map V.ref) Pv (cf.of (hl _ _ _ h0 _ _ e)) h0 (λi σ H _ h=>cf.of (hl _ _ _ h _ _ e)) (λi x σ H H' hx h s=>?_) (λσ H h=>hd σ H (by rw[ab,len] at h;show h));rintro b hb rfl:bM<|o7 hx;rintro z hz hp:bM<|fE p hb;show hs i z b σ H H' hz hp h s
def DN(Pv:af->Nat->Hp->Prop)(hq:dA P H0 a zs)(sH:aq H0 H)(h0:∀d H',H d=none->H' d=some (.lst [])->aq H H'->Pv d 0 H')(hl:∀d i H',H d=none->Pv d i H'->aq H0 H')
 (hs:∀d i z b H',H d=none->zs[i]? = some z->P H0 b z->Pv d i H'->g (.ref b) (ji σ vs) H' λσ2 H2=>ji σ2 vs=ji σ vs/\tt σ2 H2 λb H3=>if b=true then te σ2 H3 (Ql d (Pv d (i+1))) else Pv d (i+1) H3)
 (hd:∀d H',H d=none->Pv d zs.length H'->Q (.ref d) H'):kLL K g tt te vs σ Q (.ref a) H:=by
 rintro as e p:bM hq;have len:=p.length;show Bj (xs:=as.map V.ref) Pv (cf.of (sH _ _ e)) h0 (λd i H' hn _ h=>cf.of (hl _ _ _ hn h _ _ e)) (λd i x H' hn hx h=>?_) (λd H' hn h=>hd d H' hn (by rw[ab,len] at h;show h));rintro b hb rfl:bM<|o7 hx;rintro z hz hp:bM<|fE p hb;show hs d i z b H' hn hz hp h
end
structure en(F H F' H':Hp):Prop where
 ff:aq F F'
 fh:aq F' H'
 hh:aq H H'
 nw:∀b o,H b=some o->F b=none->F' b=none
structure dE(x:af)(F H F' H':Hp):Prop where
 ff:aq F F'
 fh:aq F' H'
 hh:eA H H' x
 nw:∀b o,H b=some o->b≠x->F b=none->F' b=none
section
variable{F F1 F2 H H1 H2:Hp}{p q x:af}{o:HO}
def en.fH(g:en F H F1 H1):aq F H1:=g.ff.trans g.fh
def dE.fH(g:dE x F H F1 H1):aq F H1:=g.ff.trans g.fh
def en.same(s:aq F H)(e:aq H H1):en F H F H1:=⟨aq.refl _,s.trans e,e,λ_ _ _ n=>n⟩
theorem en.trans(a:en F H F1 H1)(b:en F1 H1 F2 H2):en F H F2 H2:=
 ⟨a.ff.trans b.ff,b.fh,a.hh.trans b.hh,λc o e n=>b.nw c o (a.hh _ _ e) (a.nw c o e n)⟩
def en.add(g:en F H F1 H1)(e:H1 p=some o)(n:H p=none)(n1:F1 p=none):en F H (upd F1 p o) H1:=
 ⟨g.ff.trans (cq n1),λb u h=>by
  by_cases z:b=p;.subst z;rw[aT] at h;cases h;show e
  .rw[aR z] at h;show g.fh _ _ h,g.hh,λb u h m=>by
  by_cases z:b=p;.subst z;rw[n] at h;cases h
  .rw[aR z];show g.nw b u h m⟩
def en.keep(g:en F H F1 H1)(k:eA H1 H2 p)(n:H p=none)(n1:F1 p=none):en F H F1 H2:=
 ⟨g.ff,aB g.fh k n1,aB g.hh k n,g.nw⟩
def en.more(g:en F H F1 H1)(s:aq H1 H2):en F H F1 H2:=⟨g.ff,g.fh.trans s,g.hh.trans s,g.nw⟩
def dE.start(s:aq F H):dE x F H F H:=⟨aq.refl _,s,λ_ _ e _=>e,λ_ _ _ _ n=>n⟩
def dE.add(g:dE x F H F1 H1)(e:H1 p=some o)(n:H p=none\/p=x)(n1:F1 p=none):dE x F H (upd F1 p o) H1:=
 ⟨g.ff.trans (cq n1),λb u h=>by
  by_cases z:b=p;.subst z;rw[aT] at h;cases h;show e
  .rw[aR z] at h;show g.fh _ _ h,g.hh,λb u h hb m=>by
  by_cases z:b=p
  .subst z;rcases n with n|n;.rw[n] at h;cases h
   .show absurd n hb
  .rw[aR z];show g.nw b u h hb m⟩
def dE.keep(g:dE x F H F1 H1)(k:eA H1 H2 p)(n:H p=none\/p=x)(n1:F1 p=none):dE x F H F1 H2:=
 ⟨g.ff,aB g.fh k n1,λb o e hb=>k b o (g.hh b o e hb) (by
  rcases n with n|n;.show aI e n
  .rw[n];show hb),g.nw⟩
def dE.more(g:dE x F H F1 H1)(s:aq H1 H2):dE x F H F1 H2:=⟨g.ff,g.fh.trans s,λb o e hb=>s _ _ (g.hh b o e hb),g.nw⟩
def dE.made{G:Hp}(g:dE x F H F1 H1)(n:G x=none)(s:aq G H):en F G F1 H1:=
 ⟨g.ff,g.fh,λb o e=>g.hh b o (s _ _ e) (aI e n),λb o e m=>g.nw b o (s _ _ e) (aI e n) m⟩
end
def aw6{σ σ2:L2.St}{vs:List Nat}{R:Prop}(h:R)(e:ji σ2 vs=ji σ vs:=by rfl):ji σ2 vs=ji σ vs/\R:=⟨e,h⟩
def an4{σ:L2.St}{H:Hp}{Q:Bool->Hp->Prop}(h:Q true H):ag0 σ H Q:=h
instance{σ:L2.St}{H:Hp}{Q:Bool->Hp->Prop}:RdS (ag0 σ H Q) (Q true H):=⟨an4⟩
def jU{X:Cx}{K:ad}{e:Expr}{ta:TE}{f:Str}{pos:km}(he:PE X e ta)(hb:attributeBase e f X.env (eval e X.env)=eval e X.env)(hK:X.K=K:=by rfl):PE X (.Attribute e f pos) (Et K ta f):=by subst hK;show LU he hb
def af9{a:af}{A B:Prop}(h:A):if (!decide (V.ref a=V.non))=true then A else B:=by rw[if_pos (by simp)];show h
instance{a:af}{A B:Prop}:RdS (if (!decide (V.ref a=V.non))=true then A else B) A:=⟨af9⟩
def aga{a:af}{A B:Prop}(h:B):if decide (V.ref a=V.non)=true then A else B:=by rw[if_neg (by simp)];show h
instance{a:af}{A B:Prop}:RdS (if decide (V.ref a=V.non)=true then A else B) B:=⟨aga⟩
def af7{A B:Prop}(h:B):if (!decide (V.non=V.non))=true then A else B:=by rw[if_neg (by simp)];show h
instance{A B:Prop}:RdS (if (!decide (V.non=V.non))=true then A else B) B:=⟨af7⟩
def af8{A B:Prop}(h:A):if decide (V.non=V.non)=true then A else B:=by rw[if_pos (by simp)];show h
instance{A B:Prop}:RdS (if decide (V.non=V.non)=true then A else B) A:=⟨af8⟩
def af6{a:Int}{A B:Prop}(h:B):if decide (V.int a=V.non)=true then A else B:=by rw[if_neg (by simp)];show h
instance{a:Int}{A B:Prop}:RdS (if decide (V.int a=V.non)=true then A else B) B:=⟨af6⟩
def pY{C:af}{sp:Sp}{H:Hp}{Q:VK}{vs:List V}{E:XK}(h:∀x dx H2,H x=none->H2 x=some (.ins C dx [])->aq H H2->sp (.ref x::(vs++[])) H2 (λv H3=>v=.non/\Q (.ref x) H3) E):
 kMk C sp [] E Q vs H:=
 ZC λx dx H2 h1 h2 h3 _=>h x dx H2 h1 h2 h3
section
variable{X:Cx}{o e:Expr}{to te td:TE}{apos oB:km}
def Vv{pins:List (af×iG)}{σ:L2.St}{H:Hp}{s:ao}{a b:af}{aQ more:List (ez×V)}{A:dD}{E:ag->ao->Prop}{Q:ag->ao->Prop}(I:Inv X pins σ H s)(e:H a=some (.dK aQ))(eb:H b=some (.dK more))(nS:a≠b)(hl:aQ.length+more.length<=sizeLine)
 (h:∀s',Inv X pins σ (upd H a (.dK (i0 aQ more))) s'->Q .none s'):wpAny (model X.prog X.w) A (call (.builtin "dict.update") [.ref a,.ref b]) Q E s:=by
 rintro z hd vs rel dd:vW<|RP I.eU e;rintro z2 hd2 vs2 an5 dd2:vW<|RP I.eU eb;show ou Hm dd.typeIs PySem.F.entry_dict_update (PySem.F.args_dict_update_2 _ _) (meets_dict_update (d6 X.prog X.w) a b nS hd2) #[ib,vs,vs2,dd,dd2,⟨by rw[<-rel.length,<-an5.length];show hl,λh' UG _ hs=>h _ ?_⟩];have he:∃q,h'.get? a=some q:=N2 UG λq _ _ hq _=>⟨q,hq⟩;show EI (t':=s.toks) I (by rw[e];show eZ) hs he (KZ (aE (lG more aQ) hl) hd (an5.merge rel) UG)
def ae3(Q:VK)(x y:V)(H2:Hp):Prop:=∃a b aQ more,x=.ref a/\y=.ref b/\H2 a=some (.dK aQ)/\H2 b=some (.dK more)/\a≠b/\aQ.length+more.length<=sizeLine/\Q .non (upd H2 a (.dK (i0 aQ more)))
def Sa(te:TE)(σ:L2.St)(Q:VK)(x:V)(H1:Hp):Prop:=∃a,x=.ref a/\U8 H1 a/\te σ H1 (ae3 Q x)
def agy(to te:TE):TE:=λσ H Q=>to σ H (Sa te σ Q)
def Zn(ho:PE X o to)(he:PE X e te)(m:M1 X o "update" apos e oB):PE X (.Call (.Attribute o "update" apos) [e] [] oB) (agy to te):=by
 intro pins s σ H Q I h;show Hs m.base m.few m.line sh Hm PySem.F.type_dict_update (gQ (ho pins s σ H _ I h) λu s1 cG=>fD cG λx H1 I1 rx w'=>gF w' λa ex d q1=>?_);subst ex;obtain rfl:u=bn a:=rx;rintro t1 t2 _:lB<|Qi I1 d
 show #[ic,t1,t2,?_];rw[m.trees];show iJ rfl (kO (jX (gQ (he pins s1 σ H1 _ I1 q1) λiv s2 cG=>fD cG λy H2 I2 ry w'=>xf w' λa' b aQ more ea w'=>Iw w' λey h1 h2 h3 h4 q2=>mX ?_)));cases ea;subst ey;obtain rfl:iv=bn b:=ry;show Vv I2 h1 h2 h3 h4 λs3 I3=>#[ib,.non,_,I3,rfl,q2]
def NX:U9 X "str.zfill" (λx xs H Q=>∃a i,x=.str a/\xs=[.int i]/\PySem.PadOk i=true/\Q (.str (ML a i)) H):=by
 intro pins s σ H x xs v us Q I rx rs h;rintro a i rfl rfl hp h:lA h;rintro t rfl:bW rx;cases rs with
 |cons r1 rs=>cases rs;rintro u rfl:bW r1;show PySem.SC.zfill hp λt' k=>#[ib,.str (ML a i),H,I.tok k,⟨t',rfl⟩,h]
def jS:me X (.type "str") (λxs H Q=>∃a:Int,xs=[.int a]/\a.natAbs.log2<1920/\Q (.str (BP a)) H):=by
 intro pins s σ H xs us Q I rs h;rintro a rfl hl h:gF h;cases rs with
 |cons r1 rs=>cases rs;rintro t rfl:bW r1;show PySem.P.str_of_int hl #[ib,.str (BP a),H,I.tok _,⟨_,rfl⟩,h]
def M7:me X (.builtin "ord") (λxs H Q=>∃c:Nat,xs=[.str ⟨#[c]⟩]/\Q (.int c) H):=by
 intro pins s σ H xs us Q I rs h;rintro c rfl h:bM h;cases rs with
 |cons r1 rs=>cases rs;rintro t rfl:bW r1;show PySem.P.ord_of_char #[ib,.int c,H,I.tok _,⟨_,rfl⟩,h]
def TF:=L2.St->Hp->(Str->Hp->Prop)->Prop
def PF(X:Cx)(e:Expr)(t:TF):Prop:=∀(pins:List (af×iG))(s:ao)(σ:L2.St)(H:Hp)(Q:Str->Hp->Prop),Inv X pins σ H s->t σ H Q->
 wpAny (model X.prog X.w) X.A (eval e X.env) (λu s'=>∃z t' H',u=yr z t'/\Inv X pins σ H' s'/\Q z H') X.xe s
def abt(z:Str):TF:=λ_ H Q=>Q z H
def abr(te:TE):TF:=λσ H Q=>te σ H λv H1=>∃a:Int,v=.int a/\a.natAbs.log2<1920/\Q (BP a) H1
def abv(te:TE):TF:=λσ H Q=>te σ H λv H1=>∃a:Str,v=.str a/\a.length<=sizeLine/\Q a H1
def Aa{z:Str}{j pos}:PF X (.Constant (.str z) j pos) (abt z):=λpins s σ H Q I h=>Rw #[ii,z,_,H,rfl,I.tok _,h]
def QN{pos:km}(he:PE X e te):PF X (.FormattedValue e (-1) none pos) (abr te):=by intro pins s σ H Q I h;show v7 (gQ (he pins s σ H _ I h) λu s1 cG=>fD cG λx H1 I1 rx w'=>gF w' λa ea hl q=>?_);subst ea;rintro t rfl:bW rx;show wpAny_formatField_int hl #[ii,_,_,H1,rfl,I1.tok _,q]
def Gw{pos:km}(he:PE X e te):PF X (.FormattedValue e (-1) none pos) (abv te):=by intro pins s σ H Q I h;show v7 (gQ (he pins s σ H _ I h) λu s1 cG=>fD cG λx H1 I1 rx w'=>gF w' λa ea hl q=>?_);subst ea;rintro t rfl:bW rx;show aiq (λt' tk=>#[ii,_,_,H1,rfl,I1.tok tk,q]) hl
def PFs(X:Cx)(es:List Expr)(t:Str->TF):Prop:=∀(acc:Str)(pins:List (af×iG))(s:ao)(σ:L2.St)(H:Hp)(Q:Str->Hp->Prop),Inv X pins σ H s->t acc σ H Q->
 Joins (model X.prog X.w) X.A X.xe (evalEach es X.env) acc (λz s'=>∃H',Inv X pins σ H' s'/\Q z H') s
def abu:Str->TF:=λacc _ H Q=>Q acc H
def Xf(t:TF)(u:Str->TF):Str->TF:=λacc σ H Q=>t σ H λz H1=>(acc++z).length<=sizeLine/\u (acc++z) σ H1 Q
def ET:PFs X [] abu:=λacc pins s σ H Q I h=>#[ia,H,I,h]
def i4{e:Expr}{es:List Expr}{t:TF}{u:Str->TF}(h1:PF X e t)(h2:PFs X es u):PFs X (e::es) (Xf t u):=λacc pins s σ H Q I h=>show wpAny _ _ _ _ _ _ from gQ (h1 pins s σ H _ I h) λv s1 cG=>rD cG λz t' H1 e1 I1 w'=>fo w' λq1 q2=>#[ib,z,t',e1,q1,h2 _ pins s1 σ H1 Q I1 q2]
def abw(u:Str->TF):TE:=λσ H Q=>u zo σ H λz H1=>z.length<=sizeLine/\Q (.str z) H1
def ER{e1 e2:Expr}{es:List Expr}{u:Str->TF}{pos:km}(h:PFs X (e1::e2::es) u):PE X (.JoinedStr (e1::e2::es) pos) (abw u):=by
 intro pins s σ H Q I q;show wpAny_JoinedStr ?_;have j:=h zo pins s σ H _ I q;have mono:∀(ps:List (Xx ag))(acc:Str)(Q1 Q2:Str->ao->Prop)(s:ao),(∀z s,Q1 z s->Q2 z s)->Joins (model X.prog X.w) X.A X.xe ps acc Q1 s->Joins (model X.prog X.w) X.A X.xe ps acc Q2 s:=by
  intro ps;induction ps with
  |nil=>intro acc Q1 Q2 s m h;show m _ _ h
  |cons p ps ih=>intro acc Q1 Q2 s m h;show gQ h λv s1 cG=>fD cG λy t e l r=>#[ib,y,t,e,l,ih _ _ _ _ m r]
 show mono _ _ _ _ _ (λz s1⟨H1,I1,l,q1⟩=>#[iz,l,.str z,H1,I1.tok _,⟨⟨_,rfl⟩,q1⟩]) j
end
def Hb{prog:aS}{w:bL}(t:af)(ob:iG)(items:Array ag)(n:Nat)(x:ag)(e:ag->Bool)(j:Nat)(hj:j<items.size)(hit:e items[j]=true)(FO:∀m(hm:m<items.size),m<j->e items[m]=false):
 MeetsIn prog w (Builtin.«tuple.index» ⟨[.ref t,x],[]⟩) (λA R s=>s.heap.get? t=some ob/\ob.data=.seq items n/\(∀y,y∈items->BO A.in1 s y x (e y))/\R (.ok (.ret (.int j s.toks))) { s with toks:=s.toks+1 }):=
 .of_wp λA R s cG=>Cz cG λho hd he h=>by
  unfold Builtin.«tuple.index»;show wpAny_bind ?_;change wpAny _ _ (pure (bn t,[x])) _ _ s;show wpAny_pure ?_;show wpAny_bind (wpAny_tupleItemsOf ho hd ?_);show wpAny_bind (wpAny_pure ?_);show wpAny_bind (wpAny_pure ?_);show wpAny_bind ?_;rw[OX,X9];have hsz:([0:items.size]:MP).size=items.size:=by simp[X']
  change wpAny _ _ (forIn (ag5 0 ([0:items.size]:MP).size 1) _ _) _ _ _;rw[hsz];show wpAny_forIn_list _ (λl b s'=>b=(none,())/\s'=s/\∃i,i<=j/\l=ag5 i (items.size - i) 1) _ ?_ ?_ _ _ #[iA,rfl,rfl,0,bV _,rfl]
  .rintro z rest b s' cG;rintro rfl rfl i hi hl:vW cG;rintro k hk:bW (⟨items.size - i - 1,by omega⟩:∃k,items.size - i=k+1);rw[hk,U0] at hl;rintro rfl rfl:fo<|List.cons.inj hl;have lr:z<items.size:=by omega
   rw[Hv lr];show wpAny_bind (he _ (Array.getElem_mem lr) prog w _ _ ?_);by_cases hz:z=j;.subst hz;rw[hit];show wpAny_bind (wpAny_bind (wpAny_mkInt ?_));show wpAny_pure (wpAny_pure (wpAny_pure #[ia,_,rfl,h]))
   .rw[FO z lr (by omega)];show wpAny_pure #[iA,rfl,rfl,z+1,by omega,by rw[show items.size - (z+1)=k by omega]]
  .rintro b s' cG;rintro rfl rfl i hi hl:vW cG;rintro k hk:bW (⟨items.size - i - 1,by omega⟩:∃k,items.size - i=k+1);rw[hk,U0] at hl;cases hl
section
variable{X:Cx}
def Zv(K:ad):V->List V->Hp->VK->Prop:=λx xs H Q=>∃(a:af)(ys:List V)(y:V)(j:Nat)(z:V),x=V.ref a/\xs=[y]/\ox K H a ys/\mG y=true/\ys.all mG=true/\ys[j]? = some z/\RS z y=true/\
 (∀(m:Nat)(z':V),m<j->ys[m]? = some z'->RS z' y=false)/\Q (.int (j:Nat)) H
def JI:U9 X "tuple.index" (Zv X.K):=by
 intro pins s σ H x xs v us Q I rx rxs h;rintro a ys y j z rfl rfl hs fy fys hz hzj FO q:DL 9 EO h;cases rx;cases rxs with
 |cons ry rt=>
  rename_i uy ut;cases rt;rintro its rv ht hlen:gF<|I.tuple hs;rintro ob ho hc n hd:gF 3 bW ht;rintro u hu ru:bM<|rv.get hz;rintro hjl hje:bW<|List.getElem?_eq_some_iff.mp hu;have hj:j<its.toArray.size:=by simpa using hjl
  show ou qw #[ia,_,ho,hc] PySem.F.entry_tuple_index (PySem.F.args_tuple_index_2 _ _)
   (Hb a ob its.toArray n uy (O7 y) j hj ?_ ?_) #[ij,ho,hd,λu' hu'=>tj ry fy rv fys u' (by simpa using hu'),?_]
  .have e1:its.toArray[j]=u:=by simpa using hje
   rw[e1,K2 ru (RT fys hz)];show hzj
  .intro m hm hmj;have hvl:=rv.length;have hml:m<its.length:=by simpa using hm
   have hmy:m<ys.length:=by omega
   have hy':ys[m]? = some ys[m]:=bb hmy;rintro u2 hu2 ru2:bM<|rv.get hy';rintro _ hme:bW<|List.getElem?_eq_some_iff.mp hu2;have e1:its.toArray[m]=u2:=by simpa using hme
   rw[e1,K2 ru2 (RT fys hy')];show FO m _ hmj hy'
  .show #[ib,.int (j:Nat),H,I.tok _,⟨_,rfl⟩,q]
end
section
variable{κ:Type}[DecidableEq κ]
def afe(aQ:List (κ×V))(k:κ)(v:V)(h:(aQ.map (·.1)).Nodup):((k_ aQ k v).map (·.1)).Nodup:=by
 cases e:dy aQ k with
 |none=>show Ze v h e
 |some z=>
  have q:(aQ.any λkv=>decide (kv.1=k))=true:=by rw[mW,e];rfl
  unfold k_;rw[if_pos q,dJ];have:(aQ.map ((·.1)∘λkv=>if kv.1=k then (kv.1,v) else kv))=aQ.map (·.1):=by apply cJ;intro p _;change (if p.1=k then (p.1,v) else p).1=p.1;split<;>rfl
  rw[this];show h
theorem JZ:∀(more aQ:List (κ×V))(j:κ),(more.map (·.1)).Nodup->dy (more.foldl (λacc kv=>k_ acc kv.1 kv.2) aQ) j=(dy more j).orElse λ_=>dy aQ j
 |[],aQ,j,_=>by rfl
 |p::r,aQ,j,h=>by
  have h':(p.1::r.map (·.1)).Nodup:=h;rintro h1 h2:fo<|List.nodup_cons.mp h';rw[iD,JZ r _ j h2,kM];by_cases e:p.1=j
  .subst e;rw[i7 rfl,if_pos rfl];cases q:dy r p.1 with
   |none=>rfl
   |some z=>show absurd (ZW q) h1
  .rw[i6 e,if_neg (cA e)]
end
def Hf{aQ more:List (ez×V)}{j:ez}(h:(more.map (·.1)).Nodup):dy (i0 aQ more) j=(dy more j).orElse λ_=>dy aQ j:=JZ more aQ j h
section
variable{σ:L2.St}{H:Hp}{Q:VK}{to te tk tv:TE}{a b:af}{aQ more:List (ez×V)}{x:V}
def abn(h:to σ H (Sa te σ Q)):agy to te σ H Q:=h
instance:RdS (agy to te σ H Q) (to σ H (Sa te σ Q)):=⟨abn⟩
def ZB(d:U8 H a)(h:te σ H (ae3 Q (.ref a))):Sa te σ Q (.ref a) H:=#[ie,a,rfl,d,h]
def agd(h1:H a=some (.dK aQ))(h2:H b=some (.dK more))(ne:a≠b)(hl:aQ.length+more.length<=sizeLine)(q:∀H',H' a=some (.dK (i0 aQ more))->eA H H' a->Q .non H'):ae3 Q (.ref a) (.ref b) H:=
 #[il,a,b,aQ,more,rfl,rfl,h1,h2,#[ic,ne,hl,q _ aT eA.upd]]
def Qm(p:af)(Q:VK)(x y:V)(H3:Hp):Prop:=H3 p=some (.dK [])/\∃k:ez,x=kV k/\Q (.ref p) (upd H3 p (.dK [(k,y)]))
def Os{p:af}{i:Int}{y:V}(h:H p=some (.dK []))(q:∀H',H' p=some (.dK [(.inl i,y)])->eA H H' p->Q (.ref p) H'):Qm p Q (.int i) y H:=#[io,h,.inl i,rfl,q _ aT eA.upd]
def Sv(h:∀p H1,H p=none->H1 p=some (.dK [])->aq H H1->tk σ H1 λx H2=>tv σ H2 (Qm p Q x)):abq [(tk,tv)] σ H Q:=by
 intro p hp;have mono:=h p _ hp aT (cq hp);unfold Qm at mono;change tk σ _ λx H1=>tv σ H1 λy H2=>H2 p=some (.dK [])/\∃aQ:List (ez×V),[(x,y)]=aQ.map (λkv=>(kV kv.1,kv.2))/\aQ.length<=15/\Q (.ref p) (upd H2 p (.dK (i0 [] aQ)));have e:(λ(x:V)(H1:Hp)=>tv σ H1 λy H2=>H2 p=some (.dK [])/\∃k:ez,x=kV k/\Q (.ref p) (upd H2 p (.dK [(k,y)])))=λx H1=>tv σ H1 λy H2=>H2 p=some (.dK [])/\∃aQ:List (ez×V),[(x,y)]=aQ.map (λkv=>(kV kv.1,kv.2))/\aQ.length<=15/\Q (.ref p) (upd H2 p (.dK (i0 [] aQ))):=by
  funext x H1;congr 1;funext y H2;apply propext;constructor;.rintro cG;rintro h1 k rfl h2:EQ cG;show #[io,h1,[(k,y)],rfl,⟨(by change 1<=15;decide),h2⟩]
  .rintro cG;rintro h1 aQ h2 _ h3:EQ 3 fo cG;rcases aQ with _|⟨⟨k,z⟩,_|⟨_,_⟩⟩;.simp at h2
   .simp at h2;rintro rfl rfl:fo h2;show #[io,h1,k,rfl,h3]
   .simp at h2
 rw[<-e];show mono
end
section
variable{X:Cx}{a b c d e o:Expr}{ta tb tc td te to:TE}{pos:km}
def eM(h:PE X a ta)(s:bi [a] X.env=[(false,eval a X.env)]:=by rfl):PA X [a] (mn ta vY):=dS h jf s
def mz(h:PE X a ta)(h2:PE X b tb)(s:bi [a,b] X.env=(false,eval a X.env)::bi [b] X.env:=by rfl)(s2:bi [b] X.env=[(false,eval b X.env)]:=by rfl):PA X [a,b] (mn ta (mn tb vY)):=dS h (eM h2 s2) s
def qu(h:PE X a ta)(h2:PE X b tb)(h3:PE X c tc)(s:bi [a,b,c] X.env=(false,eval a X.env)::bi [b,c] X.env:=by rfl)(s2:bi [b,c] X.env=(false,eval b X.env)::bi [c] X.env:=by rfl)(s3:bi [c] X.env=[(false,eval c X.env)]:=by rfl):PA X [a,b,c] (mn ta (mn tb (mn tc vY))):=dS h (mz h2 h3 s2 s3) s
def xL(h:PE X a ta)(h2:PE X b tb)(s:KC b:=by show λ_ _=>rfl):PE X (.Subscript a b pos) (Ub (L1 X.K) ta tb):=abe Y2 h h2 s
def xT(h:PE X a ta)(h2:PE X b tb)(s:KC b:=by show λ_ _=>rfl):PE X (.Subscript a b pos) (Ub (afy X.K) ta tb):=abe ae0 h h2 s
def vC{f:Str}(h:PE X e ta)(s:attributeBase e f X.env (eval e X.env)=eval e X.env:=by rfl):PE X (.Attribute e f pos) (Et X.K ta f):=LU h s
def du(i:Nat){x f:Str}{p:km}(hN:X.N[i]? = some x:=by rfl)(hv:Vis X.env.scope x:=by first|show J9 rfl|show BT (J9 rfl)|show BT (BT rfl))(hd:(x==("__debug__":Str))=false:=by decide)(Tt:(x==("__classdict__":Str))=false:=by decide)
 (s:attributeBase (.Name x p) f X.env (eval (.Name x p) X.env)=eval (.Name x p) X.env:=by rfl):PE X (.Attribute (.Name x p) f pos) (Et X.K (rZ i) f):=LU (pv i hN hv hd Tt) s
def sv(i:Nat){x:Str}{p:km}(hN:X.N.Nodup)(h:PE X e te)(hi:X.N[i]? = some x:=by rfl)(hx:Loc X.env.scope x:=by first|show J9 rfl|show BT rfl)(hs:sD e (some (.Name x p)) pos.line X.env=pure false:=by rfl)(hf:X.fn x=true\/X.env.scope.names.lookup x=some .local:=by first|show .inl rfl|show .inr rfl|assumption):PS X (.Assign [.Name x p] e pos) (OI te (qD i)):=afv hN hi hx h hs hf
def gv(i:Nat){x:Str}(hN:X.N.Nodup)(hi:X.N[i]? = some x:=by rfl)(hx:Loc X.env.scope x:=by first|show J9 rfl|show BT rfl)(hf:X.fn x=true\/X.env.scope.names.lookup x=some .local:=by first|show .inl rfl|show .inr rfl|assumption):PG X (.Name x pos) (qD i):=Zq hN hi hx hf
def kq{op:Hk}{r:R2}(ho:yI X (compareOp op) r)(h:PE X a ta)(h2:PE X b tb)(hm:jd op b=false:=by first|show Wr _|with_unfolding_all rfl):PT X (.Compare a [op] [b] pos) (OK (Ub r ta tb)):=Zr ho h h2 hm
def cmE{op:Hk}{r:R2}(ho:yI X (compareOp op) r)(h:PE X a ta)(h2:PE X b tb)(hm:jd op b=false:=by first|show Wr _|with_unfolding_all rfl):PE X (.Compare a [op] [b] pos) (Ub r ta tb):=Zm ho h h2 hm
def kY{p:km}(h:PE X e te):Pz X [.Return (some e) p] (Rh te):=bA (WG h)
def kW{c:Expr}{tc:TT}{p:km}(hc:PT X c tc)(h:PE X e te):PS X (.If c [.Return (some e) p] [] pos) (Xg tc (Rh te) SQ):=kG hc (kY h) fU
def xb{p:km}(hm:X.mg "len"=none)(h:PE X e te)(hg:Gl X "len":=by rfl)(s:bi [e] X.env=[(false,eval e X.env)]:=by rfl)(yu:(iU pos (bi [] X.env)).any (·.1)=false:=by rfl):PE X (.Call (.Name "len" p) [e] [] pos) (tCB (λxs H Q=>∃p ys,xs=[.ref p]/\(cf X.K H p ys\/ox X.K H p ys)/\Q (.int ys.length) H) (mn te vY)):=i3 KU hg hm jD (eM h s) (by decide) (by decide) s yu
def Mx{apos:km}(ho:PE X o to)(h:PE X e te)(sY:attributeBase o "append" X.env (eval o X.env)=eval o X.env:=by rfl)(VW:((iU pos (bi [e] X.env)).all (λx=>!x.1)&&(tS pos (lM [] X.env)).all (λx=>x.1.isSome)
 &&decide ([e].length+([]:List vP).length+(if ([]:List vP).isEmpty then 0 else 1)<30))=true:=by rfl) (n9:(apos.endLine==pos.line)=true:=by rfl) (s:bi [e] X.env=[(false,eval e X.env)]:=by rfl) (hp:(iU pos (bi [] X.env)).any (·.1)=false:=by rfl):PE X (.Call (.Attribute o "append" apos) [e] [] pos) (tBM X.K "list" EU to (mn te vY)):=
 Sk HD O1 PySem.F.type_list_append T1 ho (eM h s) sY VW n9 s hp
def exE{apos:km}(ho:PE X o to)(h:PE X e te)(sY:attributeBase o "extend" X.env (eval o X.env)=eval o X.env:=by rfl)(VW:((iU pos (bi [e] X.env)).all (λx=>!x.1)&&(tS pos (lM [] X.env)).all (λx=>x.1.isSome)
 &&decide ([e].length+([]:List vP).length+(if ([]:List vP).isEmpty then 0 else 1)<30))=true:=by rfl) (n9:(apos.endLine==pos.line)=true:=by rfl) (s:bi [e] X.env=[(false,eval e X.env)]:=by rfl) (hp:(iU pos (bi [] X.env)).any (·.1)=false:=by rfl):PE X (.Call (.Attribute o "extend" apos) [e] [] pos) (tBM X.K "list" LZ to (mn te vY)):=
 Sk HD O2 PySem.F.type_list_extend T2 ho (eM h s) sY VW n9 s hp
end
def Y7{P:aS}{w:bL}{K:ad}{mg:Str->Option ag}{base:cE}{A:dD}{outer:List Kb}{s:ao}{H:Hp}{k:Nat}{q c':af}{Fn pm:ag}{name qual:Str}{params:pz}{body:Expr}{scope:jq}{N ps:List Str}{us:List ag}{vs:List V}{Q:VK}{t:TE}
 (ho:s.heap.get? q=some (jY name qual params body scope [] pm c' Fn)) (Io:s.heap.CodeRec (.ref c') qual) (S:aU N ps scope) (hr:jA (k+1) A) (e0:KB P w K mg base A outer s H)
 (hb:yb (pC name qual params body scope [] pm (.ref c') Fn) ⟨us,[]⟩=pure (ps.zip us)) (r:eV vs us) (hl:vs.length=ps.length)
 (pV:PE (dj gW P w K mg base N qual scope q (.ref c') A outer s H E0) body t) (hq:t (start N vs) H Q):
 vR (model P w) A (.call (.ref q) ⟨us,[]⟩) (CR gW outer P w H s Q E0) s:=by
 have lim:s.heap.NoLimit:=e0.mod.nolimit.keeps λb o e=>(e0.bs b o e).1;have V1:∀y∈ps.zip us,scope.names.lookup y.1=some .local\/(scope.names.lookup y.1=some .cell/\((eQ (s.heap.objs.size+1) scope.names []).lookup y.1).isSome=true):=λ⟨n,v⟩hy=>by
  rcases S.par n (oR hy).1 with q|q;.show .inl q
  .show .inr ⟨q,tR _ _ _ (.inl q)⟩
 show PySem.W.kla_callFunE hr.depth ho rfl S.co S.gen rfl Io ?_;rw[hb];show wpAny_pure ?_;show O6 S.kind V1 λenv he s1 x=>?_;subst he;show⟨lim.keeps x.toInCall.keep,PySem.W.kla_codeExpr ?_⟩;have I:Inv (dj gW P w K mg base N qual scope q (.ref c') A outer s H E0) [] (start N vs) H s1:=JC S hr.hd e0 hl r x;show gp (pV [] s1 (start N vs) H _ I hq) (λu s' hs=>?_) λe s' hs=>hs;rintro v H' J rv q:fD hs;show #[ik,v,H',J.os,J.bare,J.base,J.eU,⟨rv,q⟩]
def LI{P:aS}{w:bL}{H:Hp}{h:cE}{a:af}{o:iG}(e:h.get? a=some o):iY P w H h a (.oO o (.own 0)):=#[iB,e,o,e]
def eP(H:Hp)(T:af)(pos:km)(qual:Str):Prop:=∃ps:Array ag,H T=some (.Az ps)/\(ps=#[]\/∃(c:af)(oc:iG)(vs:Array ag)(t:X7),ps=#[Jk pos.line,Jk pos.col,.ref c]/\H c=some (.oO oc (.own 0))/\oc.data=.fields vs/\vs[1]? = some (.str qual t))
structure Yk(T:af)(pos:km)(qual:Str)(H H':Hp):Prop where
 keep:eA H H' T
 tab:eP H' T pos qual
section
variable{X:Cx}{pins:List (af×iG)}{σ:L2.St}{H:Hp}{s:ao}{T c:af}{pos:km}{params:pz}{body:Expr}{scope:jq}
def Wi{qual:Str}{Q:ag->ao->Prop}{E:ag->ao->Prop}(I:Inv X pins σ H s)(t:eP H T pos qual)(C:nk X.K c T=true)(R1:X.env.code=.ref c)(O9:O5 scope X.env=pure [])(hB:X.base.BuiltinsAt X.mg T)
 (adv:defaultsOf params X.env=([],[])) (V4:X.env.qual++"<lambda>"=qual)
 (h:∀(q c':af)(pm Fn:ag)(s':ao)(H':Hp),Inv X pins σ H' s'->Yk T pos qual H H'->H q=none->H' q=some (.oO (jY "<lambda>" qual params body scope [] pm c' Fn) (.own 0))->s'.heap.CodeRec (.ref c') qual->
  (∃oc vs t,H' c'=some (.oO oc (.own 0))/\oc.data=.fields vs/\vs[1]? = some (.str qual t))->Q (.ref q) s'):
 wpAny (model X.prog X.w) X.A (eval (.Lambda params body scope pos) X.env) Q E s:=by
 rw[arm_eval_Lambda,adv];change wpAny _ _ (do let dv <-evalAll [];let kdv <-holding dv (evalAllOpt []);makeFunction "<lambda>" (X.env.qual++"<lambda>") params (.expr body) scope X.env dv kdv [] pos pos.line) _ _ _;show wpAny_bind (wpAny_pure ?_);show wpAny_bind (wpAny_holding (wpAny_pure ?_));rw[V4];rintro ps hT XN:bM t;have hTh:s.heap.get? T=some (PySem.W.tabObj ps):=I.eU T _ hT;have hgl:s.heap.Ns bS X.mg:=I.mod.glob.keeps I.bk;have C':=MN I.ME C;rintro bm ob b1 b2 b3 b4 b5 b6:lA 5 lB hB;have hB':s.heap.BuiltinsAt X.mg T:=#[ik,bm,ob,b1,b2,b3,b4,⟨I.bk _ _ b5,b6⟩];rcases XN with rfl|⟨c0,oc,vs,tk0,rfl,VS,YG,hv0⟩
 .have hgT:bS≠T:=λz=>by
   rintro o _ _ e _:N2 I.mod.glob;have:=(I.bs _ _ e).2;rw[z,hT] at this;cases this
  show PySem.W.kla_makeFunction O9 I.ok.glob hgl R1 C' hTh trivial rfl hgT hB' λc' Fn h' tk hx hge lr Io htb=>?_;rintro c2 oc vs tv e2 hoc hd hv:xf 5 lB Io;cases e2;have hq:h'.objs.size≠c':=ng lr;have fresh:∀a,s.heap.objs.size<=a->H a=none:=λa ha=>I.eU.fresh ha;have akj:T<s.heap.objs.size:=bf hTh;have hcT:c'≠T:=ng (bg akj hge);have hqT:h'.objs.size≠T:=ng (qj (bg akj hge) lr);have hqs:s.heap.objs.size<=h'.objs.size:=Dc (qv hge lr);let ob':=jY "<lambda>" qual params body scope [] ((X.mg "__name__").getD .none) c' Fn;let H1:Hp:=upd (upd (upd H T (.Az (#[]++#[Jk pos.line,Jk pos.col,.ref c']))) c' (.oO oc (.own 0))) h'.objs.size (.oO ob' (.own 0));have g1:H1 h'.objs.size=some (.oO ob' (.own 0)):=aT;have g2:H1 c'=some (.oO oc (.own 0)):=by change upd _ _ _ c'=_;rw[aR hq.symm,aT]
  have g3:H1 T=some (.Az (#[]++#[Jk pos.line,Jk pos.col,.ref c'])):=by change upd _ _ _ T=_;rw[aR hqT.symm,aR hcT.symm,aT]
  have g4:∀b,b≠T->b≠c'->b≠h'.objs.size->H1 b=H b:=λb n1 n2 n3=>by change upd _ _ _ b=_;rw[aR n3,aR n2,aR n1]
  have old:∀b o,b≠T->s.heap.get? b=some o->(h'.push ob').get? b=some o:=λb o n e=>aC _ (hx b o n e);have ne1:∀b o,s.heap.get? b=some o->b≠c'/\b≠h'.objs.size:=λb o e=>⟨bw (bg (bf e) hge),bw (bg (bf e) hqs)⟩;have ne2:∀b o,H b=some o->b≠c'/\b≠h'.objs.size:=λb o e=>⟨λz=>(by rw[z,fresh _ hge] at e;cases e),λz=>(by rw[z,fresh _ hqs] at e;cases e)⟩;have u:Un X.fs [] H H1 s.heap (h'.push ob'):=by
   show⟨λb o e n _ _=>old b o (λz=>by rw[z,hT] at n;cases n) e,λb o e n _ _=>⟨o.slots,old b o (λz=>by rw[z,hT] at n;cases n) e⟩,λb o e n _=>?_,λb o e _=>?_,λb xs e=>?_,λb o u e=>?_,λb qs e=>?_⟩;.rw[g4 b (λz=>by rw[z,hT] at n;cases n) (ne1 b o e).1 (ne1 b o e).2];show n
   .by_cases z:b=T;.rw[z];show⟨_,aC _ htb⟩
    .show⟨o,old b o z e⟩
   .rw[g4 b (λz=>by rw[z,hT] at e;cases e) (ne2 b _ e).1 (ne2 b _ e).2];show e
   .rw[g4 b (λz=>by rw[z,hT] at e;cases e) (ne2 b _ e).1 (ne2 b _ e).2];show e
   .by_cases z:b=T;.rw[z,hT] at e;cases e;show⟨_,by rw[z,g3]⟩
    .show⟨#[],by rw[g4 b z (ne2 b _ e).1 (ne2 b _ e).2,e];simp⟩
  have eU:vA X.prog X.w H1 (h'.push ob'):=by
   intro a o e;by_cases z1:a=h'.objs.size;.rw[z1,g1] at e;cases e;rw[z1];show LI (bq _ rfl)
   by_cases z2:a=c';.rw[z2,g2] at e;cases e;rw[z2];show LI (aC _ hoc)
   by_cases z3:a=T;.rw[z3,g3] at e;cases e;rw[z3];show aC _ htb
   rw[g4 a z3 z2 z1] at e;show (I.eU a o e).yA (λb u hb q=>old b u ?_ q) (λb q=>?_) λb xs q=>u.Jb b xs q
   .rcases hb with hb|hb;.rw[hb];show z3
    .intro z;rw[z,hT] at hb;cases hb
   .rw[g4 b (λz=>by rw[z,hT] at q;cases q) (ne2 b _ q).1 (ne2 b _ q).2];show q
  show h h'.objs.size c' _ Fn _ H1 (I.un (t':=tk) u eU) ⟨λb o e n=>?_,_,g3,.inr #[iy,c',oc,vs,tv,#[ij,rfl,g2,hd,hv]]⟩ (fresh _ hqs) g1 #[iy,c',oc,vs,tv,#[ij,rfl,aC _ hoc,hd,hv]] #[ii,oc,vs,tv,g2,hd,hv];rw[g4 b n (ne2 b _ e).1 (ne2 b _ e).2];show e
 .show PySem.W.kla_makeFunctionHit (cv:=.ref c0) O9 I.ok.glob hgl R1 C' hTh trivial (by simp[codeAmong,Jk]) hB' λFn h' tk hk hsz=>?_;have hn:H h'.objs.size=none:=I.eU.fresh hsz;have asy:s.heap.get? c0=some oc:=(I.eU c0 _ VS).1;show h h'.objs.size c0 _ Fn _ _ (I.laid (a:=h'.objs.size) (o:=.oO (jY "<lambda>" qual params body scope [] ((X.mg "__name__").getD .none) c0 Fn) (.own 0)) (t':=tk) (λb u e=>aC _ (hk b u e)) hsz (LI (bq _ rfl)))
   ⟨λb o e n=>by rw[aR (aI e hn)];show e,_,by rw[aR (aI hT hn)];show hT,.inr #[iy,c0,oc,vs,tk0,#[ij,rfl,by rw[aR (aI VS hn)];show VS,YG,hv0]]⟩ hn aT
   #[iy,c0,oc,vs,tk0,#[ij,rfl,aC _ (hk _ _ asy),YG,hv0]] #[ii,oc,vs,tk0,by rw[aR (aI VS hn)];show VS,YG,hv0]
end
end TT
section
namespace TT
open PySem PySem.Spec PyProof.Rows PyProof.Rows.G L2
abbrev UW:Nat->Bool:=λ_=>false
section
variable{prog:aS}{w:bL}{A:dD}{E:ag->ao->Prop}{s:ao}{a kS:af}{keys:Array ag}{vs:List ag}{e e1:Nat}{P:aji->ao->Prop}
def OE{st:SortSt}(hk:s.heap.get? kS=some (iT "list" keys e))(ha:s.heap.get? a=some (iT "list" #[] e1))(Hu:kS≠a)(hsz:keys.size=vs.length)(hZ:vs.length<=1000)(hp:(arrOf st).Perm (keys.zip vs.toArray))(VX:failedOf st=none)
 (h:P (.done (.ret .none)) { s with heap:=(s.heap.update kS (dZ λ_=>(#[]:Array ag))).update a (dZ λ_=>(arrOf st).map (·.2)) }):
 wpAny (model prog w) A (ksk_tail a false e1 (.ref kS) st) P E s:=by
 have YX:(arrOf st).size=vs.length:=by rw[hp.size_eq,Xp,hsz,ba,OX]
 have s1:=Hr s.heap kS (dZ λ_=>(#[]:Array ag));have na1:(s.heap.update kS (dZ λ_=>(#[]:Array ag))).get? a=some (iT "list" #[] e1):=(s1.2 a Hu.symm).trans ha;unfold ksk_tail;try dsimp only
 show wpAny_bind (Ea hk rfl ?_ (by rw[hsz,fV];omega) (bV _));show wpAny_bind (wpAny_letGo ?_);show wpAny_bind (seqEpoch_at na1 rfl ?_);show wpAny_bind (Ea na1 rfl ?_ (bV _) (by simp only[fG,if_false,Array.size_map];rw[YX,fV];omega));rw[VX];simp only[bne_self_eq_false,fG,if_false];show wpAny_pure h
def ZN{fs:List ag}(hk:s.heap.get? kS=some (iT "list" keys e))(ha:s.heap.get? a=some (iT "list" #[] e1))(Hu:kS≠a)(hsz:keys.size=vs.length)(hZ:vs.length<=1000)
 (ht:TupsOf s.heap UW keys.toList fs) (Jz:∀v,v∈keys.toList->∃l,ab3 s.heap UW v=some l)
 (h:∀arr:Array Keyed,arr.Perm (keys.zip vs.toArray)->SortedToK (O0 s.heap UW) arr arr.size->P (.done (.ret .none)) { s with heap:=(s.heap.update kS (dZ λ_=>(#[]:Array ag))).update a (dZ λ_=>arr.map (·.2)) }):
 wpAny (model prog w) A (ksk_end a false vs.toArray e1 (.ref kS) keys) P E s:=by
 have hzs:(keys.zip vs.toArray).size=vs.length:=by rw[Xp,hsz,ba,OX]
 unfold ksk_end;simp only[fG,if_false];by_cases h2:vs.toArray.size<2
 .rw[if_pos h2,if_pos h2];show wpAny_bind (wpAny_pure ?_);rw[StateT.run_pure];show wpAny_bind (wpAny_pure ?_);try dsimp only
  show OE (st:=ab5 general' (keys.zip vs.toArray) #[] 7 none) hk ha Hu hsz hZ (AA _) rfl (h _ (AA _) ?_);intro i j hij hj;have hj2:j<(keys.zip vs.toArray).size:=hj;rw[hzs] at hj2;rw[ba] at h2;have:i=j:=by omega
  subst this;show KeyOrd.kle_refl _
 .rw[if_neg h2,if_neg h2];rw[ba] at h2;have hk0:KeysOf (O0 s.heap UW) (keys.zip vs.toArray):=by
   intro p hp;rw[ksk_zip] at hp;show Jz p.1 (oR hp).1
  have hfs:0<fs.length:=by rw[TupsOf.length ht,fX];omega
  have YI:∀{Q:SortKind->ao->Prop},Q (tuples' true) s->wpAny (model prog w) A (keyKind' keys) Q E s:=λ{Q}hq=>by
   have:=tup_kind (M:=model prog w) (A:=A) (E:=E) (s:=s) (vs:=keys.toList) hfs ht hq;rw[Array.toArray_toList] at this;show this
  show wpAny_bind (YI ?_);try dsimp only
  show wpAny_bind (gp (wpS_sortRunsSt (κ:=O0 s.heap UW) (kd:=tuples' true) (a₀:=keys.zip vs.toArray) (st:=ab5 (tuples' true) (keys.zip vs.toArray) #[] 7 none)
   (Q:=λ_ OG=>(arrOf OG).Perm (keys.zip vs.toArray)/\failedOf OG=none/\SortedToK (O0 s.heap UW) (arrOf OG) (keys.zip vs.toArray).size)
   (tupC_ltAt true (axv _)) hk0 ⟨AA _,rfl,rfl⟩ rfl (Stable.refl _) (by rw[hzs];omega) λOG a1 a2 a3 _=>#[ic,a1,a2,a3]) ?_ λ_ _ e=>e)
  rintro⟨⟨⟩,OG⟩ s' j';rintro rfl hp hf hs:Cz j';try dsimp only
  show OE hk ha Hu hsz hZ hp hf (h _ hp (by rw[hp.size_eq];show hs))
end
end TT
end
section
namespace TT
open PySem PySem.Spec PyProof.Rows PyProof.Rows.G L2
section
variable{X:Cx}{pins:List (af×iG)}{σ:L2.St}{H H':Hp}{s:ao}{h':cE}{t':Nat}
def Wa(I:Inv X pins σ H s)(k:∀b u,s.heap.get? b=some u->h'.get? b=some u)(hs:aq H H')(hn:∀b o,H' b=some o->H b=some o\/(s.heap.objs.size<=b/\iY X.prog X.w H' h' b o)):Inv X pins σ H' { s with heap:=h',toks:=t' }:=by
 show I.un (h':=h') (t':=t') ⟨λb o e _ _ _=>k b o e,λb o e _ _ _=>⟨o.slots,k b o e⟩,λb o e n _=>?_,λb o e _=>⟨o,k b o e⟩,λb xs e=>hs _ _ e,λb o u e=>hs _ _ e,λb ps e=>⟨#[],by rw[hs _ _ e];simp⟩⟩ λa o e=>?_
 .cases q:H' b with
  |none=>rfl
  |some u=>
   rcases hn b u q with z|⟨z,_⟩;.rw[n] at z;cases z
   .show absurd (bf e) (Nat.not_lt.mpr z)
 .rcases hn a o e with z|⟨_,z⟩;.show (I.eU a o z).yA (λb u _ q=>k b u q) (λb q=>hs _ _ q) λb xs q=>hs _ _ q
  .show z
def Wg{A':dD}{k:Nat}{q c' a:af}{Fn pm:ag}{name qual:Str}{params:pz}{body:Expr}{scope:jq}{N ps:List Str}{Q:VK}{t:TE}{E:ag->ao->Prop}(I:Inv X pins σ H s)
 (ho:H q=some (.oO (jY name qual params body scope [] pm c' Fn) (.own 0))) (Io:∃oc vs t,H c'=some (.oO oc (.own 0))/\oc.data=.fields vs/\vs[1]? = some (.str qual t)) (S:aU N ps scope) (hr:jA (k+1) A') (hA:A'.frames=X.A.frames)
 (hb:yb (pC name qual params body scope [] pm (.ref c') Fn) ⟨[.ref a],[]⟩=pure (ps.zip [.ref a])) (hl:ps.length=1)
 (pV:PE (dj gW X.prog X.w X.K X.mg X.base N qual scope q (.ref c') A' X.stack s H E0) body t) (hq:t (start N [.ref a]) H Q):
 wpAny (model X.prog X.w) A' (call (.ref q) [.ref a]) (EP X pins σ Q) E s:=by
 rintro oc vs tk h1 h2 h3:rD Io;have e:=I.ac8;have e0:KB X.prog X.w X.K X.mg X.base A' X.stack s H:=⟨by rw[hA];show e.frames,e.mod,e.bs,e.XF,e.Ch,e.frf,e.eU,e.bare⟩;show wpAny_call (ow (Y7 (us:=[.ref a]) (vs:=[.ref a]) (I.eU q _ ho).1 #[iy,c',oc,vs,tk,#[ij,rfl,(I.eU c' _ h1).1,h2,h3]] S hr e0 hb (.cons rfl .nil) hl.symm pV hq) λr s' hq=>?_);cases r with
 |error e=>show hq.elim
 |ok fl=>
  cases fl with
  |ret u=>show I.after hq
  |next=>show ee hq
  |brk=>show ee hq
  |cont=>show ee hq
end
abbrev K3:=Int×Int×Int
def kv(k:K3):List V:=[.int k.1,.int k.2.1,.int k.2.2]
def kl(k:K3):List (Int ⊕ List Nat):=[.inl k.1,.inl k.2.1,.inl k.2.2]
def Le3(a b:K3):Prop:=(listOrd itemOrd).blt (kl b) (kl a)=false
theorem yn:∀{as:List af}{us:List ag},eV (as.map V.ref) us->us=as.map bn
 |[],_,r=>by cases r;rfl
 |a::as,_,r=>by
  cases r with
  |cons h t=>rw[show _=bn a from h,yn t];rfl
theorem CK:∀as:List af,eV (as.map V.ref) (as.map bn)
 |[]=>.nil
 |a::as=>.cons rfl (CK as)
def Xl{P:aS}{w:bL}{H:Hp}{h:cE}{t:af}{k:K3}(ok:vA P w H h)(e:H t=some (.tup (kv k))):(∃f,TupOf h UW (.ref t) f)/\ab3 h UW (.ref t)=some (kl k):=by
 rintro _ its rv ob ho hc n hd:EQ 3 gF 3 bW<|ok t _ e;cases rv with
 |cons r1 rv=>
  cases rv with
  |cons r2 rv=>
   cases rv with
   |cons r3 rv=>cases rv;rintro t1 rfl:bW r1;rintro t2 rfl:bW r2;rintro t3 rfl:bW r3;show⟨#[ig,.int k.1 t1,t,ob,_,n,#[iu,rfl,ho,hc,hd,rfl,λ_=>#[ir,_,_,rfl],λz=>by cases z]],?_⟩;show tupKeyC_of ho hc hd rfl
def aow:ag->af
 |.ref a=>a
 |_=>0
section
variable{X:Cx}{pins:List (af×iG)}{σ:L2.St}{H H0:Hp}{s:ao}
def W3{A':dD}{E:ag->ao->Prop}{P:aji->ao->Prop}{k:Nat}{q c' D kS:af}{Fn pm:ag}{name qual:Str}{params:pz}{body:Expr}{scope:jq}{N ps:List Str}{t:TE}{e1:Nat}{as:List af}{ks:af->K3}(I:Inv X pins σ H s)
 (s0:aq H0 H) (hD0:H0 D=none) (hk0:H0 kS=none) (hkD:kS≠D) (hD:H D=some (.oO (iT "list" #[] e1) (.lst []))) (hnf:∀o' u',X.H_0 D≠some (.oO o' u')) (hk:H kS=some (.lst [])) (hlen:as.length<=1000)
 (ho:H0 q=some (.oO (jY name qual params body scope [] pm c' Fn) (.own 0))) (Io:∃oc vs t,H0 c'=some (.oO oc (.own 0))/\oc.data=.fields vs/\vs[1]? = some (.str qual t)) (S:aU N ps scope) (hr:jA (k+1) A') (hA:A'.frames=X.A.frames)
 (hb:∀a,yb (pC name qual params body scope [] pm (.ref c') Fn) ⟨[.ref a],[]⟩=pure (ps.zip [.ref a])) (hl:ps.length=1)
 (pV:∀s' H',PE (dj gW X.prog X.w X.K X.mg X.base N qual scope q (.ref c') A' X.stack s' H' E0) body t)
 (Qa:∀a∈as,∀H1,aq H0 H1->∀Q:VK,(∀p,H1 p=none->Q (.ref p) (upd H1 p (.tup (kv (ks a)))))->t (start N [.ref a]) H1 Q)
 (fin:∀(out:List af)s' H',Inv X pins σ H' s'->aq H0 H'->H' D=some (.lst (out.map V.ref))->out.Perm as->out.Pairwise (λa b=>Le3 (ks a) (ks b))->P (.done (.ret .none)) s'):
 wpAny (model X.prog X.w) A' (aok D (.ref q) false (as.map bn).toArray e1 (.ref kS)) P E s:=by
 unfold aok;show wpAny_bind (wpAny_rule ?_);first
  |rw[List.forIn_toArray]
  |(rw[<-Ro];simp only[lC])
  |rw[<-Ro]
 show wpAny_bind (ksk_fold (λi s'=>∃(Hi:Hp)(ts:List af),Inv X pins σ Hi s'/\aq H0 Hi/\Hi D=some (.oO (iT "list" #[] e1) (.lst []))/\Hi kS=some (.lst (ts.map V.ref))/\cg (λt a=>Hi t=some (.tup (kv (ks a)))) ts (as.take i)) (as.map bn) 0 s
  #[ik,H,[],I,s0,hD,hk,.nil] ?step ?done)
 case step=>
  rintro j x s' hx cG;rintro Hi ts Ii s1 hDi hki hp:lA 5 fo cG;simp only[lz] at hp ⊢;obtain⟨a,ha,rfl⟩:∃a,as[j]? = some a/\x=bn a:=by
   rw[aF] at hx;cases e:as[j]? with
   |none=>rw[e] at hx;cases hx
   |some z=>rw[e] at hx;show #[ia,z,rfl,(bp hx).symm]
  have hj:j<as.length:=(ai.mp ha).1;have hts:ts.length=j:=by rw[hp.length,aM];omega
  rintro oc vs' tk r1 r2 r3:rD Io;show wpAny_bind (wpAny_attempt (gp (Wg (E:=λ_ _=>False) (Q:=λv H2=>∃p,v=.ref p/\Hi p=none/\H2=upd Hi p (.tup (kv (ks a)))) Ii (s1 _ _ ho) #[ii,oc,vs',tk,s1 _ _ r1,r2,r3] S hr hA (hb a) hl (pV _ _) (Qa a (aZ ha) Hi s1 _ λp hpn=>#[ie,p,rfl,hpn,rfl])) (λv s'' he=>?_) λ_ _ hF=>hF.elim));rintro v0 H2 I2 rv p rfl hpn rfl:fD 4 gF he;obtain rfl:v=bn p:=rv;try dsimp only
  have npk:kS≠p:=aI hki hpn;have npD:D≠p:=aI hDi hpn;have UL:(upd Hi p (.tup (kv (ks a)))) kS=some (.lst (ts.map V.ref)):=by rw[aR npk];show hki
  rintro hz its n rvs hln hg:N3 4 fo<|I2.NT UL;obtain rfl:=yn rvs;have I3:=I2.Wl (f:=(·.push (.ref p))) (its':=(ts++[p]).map bn) (t':=s''.toks) (ys:=(ts++[p]).map V.ref) UL hg (by simp) (CK _) (by rw[ab,ap,hts];change j+1<=sizeLine;rw[fV];omega);show wpAny_bind (Ea hg rfl ?_ (by simp[hts];rw[fV];omega) (by simp[hts];rw[fV];omega));show wpAny_pure #[iz,rfl,_,ts++[p],I3,#[ij,?_,?_,aT,?_]];.intro b o e;rw[aR (aI e hk0),aR (aI (s1 _ _ e) hpn)];show s1 _ _ e
  .rw[aR hkD.symm,aR npD];show hDi
  .rw[List.take_add_one,ha];show jM ?_ ?_;.rw[aR npk.symm,aT]
   .show bF (λt' a' q=>?_) hp;have n1:t'≠kS:=oy q hki;rw[aR n1,aR (aI q hpn)];show q
 case done=>
  rintro s' cG;rintro Hi ts Ii s1 hDi hki hp:lA 5 fo cG;rw[lz,ab,aK] at hp;have hts:=hp.length;rintro hz its n rvs hln hg:N3 4 fo<|Ii.NT hki;obtain rfl:=yn rvs;have hgD:s'.heap.get? D=some (iT "list" #[] e1):=(Ii.eU D _ hDi).1;try dsimp only
  show wpAny_bind (listItems_at hg rfl ?_);have nG:∀{ts as:List af},cg (λt a=>Hi t=some (.tup (kv (ks a)))) ts as->(∃fs,TupsOf s'.heap UW (ts.map bn) fs)/\∀v,v∈ts.map bn->∃l,ab3 s'.heap UW v=some l:=by
   intro ts as hp;induction hp with
   |nil=>show⟨⟨[],.nil⟩,λv hv=>by simp at hv⟩
   |@cons t a ts as h r ih=>
    rintro⟨f,hf⟩ Jz:fo<|Xl Ii.eU h;rintro⟨fs,hfs⟩ h2:fo ih;show⟨⟨f::fs,.cons hf hfs⟩,λv hv=>?_⟩;rcases aD.mp hv with rfl|hv;.show⟨_,Jz⟩
    .show h2 v hv
  rintro⟨fs,hfs⟩ Jz:fo<|nG hp;show ZN (keys:=(ts.map bn).toArray) (vs:=as.map bn) (fs:=fs) hg hgD hkD (by simp[hts]) (by rw[ab];show hlen) (by simpa using hfs) (by simpa using Jz) λarr n_ A8=>?_;have hL:arr.toList.Perm ((ts.zip as).map λp=>((bn p.1,bn p.2):Keyed)):=by have e:=Array.perm_iff_toList_perm.mp n_;rw[ksk_zip,lC,List.zip_map] at e;show e
  have Im:∀p∈arr.toList,∃t a,p=((bn t,bn a):Keyed)/\(t,a)∈ts.zip as:=λp MB=>by
   rintro⟨t,a⟩ h1 h2:bM<|List.mem_map.mp (hL.mem_iff.mp MB);show #[im,t,a,h2.symm,h1]
  have hpm:∀{ts as:List af},cg (λt a=>Hi t=some (.tup (kv (ks a)))) ts as->∀t a,(t,a)∈ts.zip as->Hi t=some (.tup (kv (ks a))):=by
   intro ts as hp;induction hp with
   |nil=>intro t a h;simp at h
   |@cons t0 a0 ts as h r ih=>
    intro t a hm;rw[List.zip_cons_cons] at hm;rcases aD.mp hm with e|hm
    .cases e;show h
    .show ih t a hm
  let out:=arr.toList.map λp=>aow p.2;have asp:arr.map (·.2)=(out.map bn).toArray:=by apply Array.ext';rw[Array.toList_map,lC,dJ];apply cJ;intro p MB;rintro t a rfl _:rE<|Im p MB;rfl
  have alo:out.Perm as:=by
   have e:=hL.map λp=>aow p.2;rw[dJ] at e;have e2:(ts.zip as).map ((λp:Keyed=>aow p.2)∘λp=>((bn p.1,bn p.2):Keyed))=as:=by change (ts.zip as).map (λp=>p.2)=as;show List.map_snd_zip (by omega)
   rw[e2] at e;show e
  have aln:out.length=as.length:=alo.length_eq;have I1:=Ii.Wl (f:=λ_=>(#[]:Array ag)) (its':=[]) (ys:=[]) (t':=s'.toks) hki hg rfl .nil (bV _);have I2:=I1.unlock (d:=D) (od:=iT "list" #[] e1) (u:=.lst []) (by rw[aR hkD.symm];show hDi) hnf;have gD2:(s'.heap.update kS (dZ λ_=>(#[]:Array ag))).get? D=some (iT "list" #[] e1):=((Hr s'.heap kS (dZ λ_=>(#[]:Array ag))).2 D hkD.symm).trans hgD;have I3:=I2.Wl (l:=D) (xs:=[]) (its:=[]) (n:=e1) (f:=λ_=>arr.map (·.2)) (its':=out.map bn) (ys:=out.map V.ref) (t':=s'.toks) aT gD2 asp (CK _) (by rw[ab,aln,fV];omega);show fin out _ _ I3 (λb o e=>?_) aT alo ?_;.rw[aR (aI e hD0),aR (aI e hD0),aR (aI e hk0)];show s1 _ _ e
  .rw[Jf];intro i j hi hj hij;have hi':i<arr.size:=by simpa [out] using hi
   have hj':j<arr.size:=by simpa [out] using hj
   have key:∀m(hm:m<arr.size)(Lg:m<out.length),KK (O0 s'.heap UW) arr m=kl (ks out[m]):=by
    intro m hm Lg;rintro t a e1' e2':rE<|Im arr[m] (by rw[<-OU];show tX _)
    have e3:out[m]=a:=by change (arr.toList.map λp=>aow p.2)[m]=a;rw[List.getElem_map,OU,e1'];rfl
    unfold KK;rw[Hv hm,e1',e3];change (ab3 s'.heap UW (.ref t)).getD []=_;rw[(Xl Ii.eU (hpm hp t a e2')).2];rfl
   have hs:=A8 i j (by omega) hj';unfold KeyOrd.kle at hs;rw[key i hi' hi,key j hj' hj] at hs;show hs
end
end TT
end
section
namespace TT
open PySem PySem.Spec PyProof.Rows PyProof.Rows.G L2
section
variable{X:Cx}{pins:List (af×iG)}{σ:L2.St}{H:Hp}{s:ao}
def Q6{E:ag->ao->Prop}{Q:ag->ao->Prop}{k:Nat}{q c' l:af}{Fn pm:ag}{name qual:Str}{params:pz}{body:Expr}{scope:jq}{N ps:List Str}{t:TE}{as:List af}{ks:af->K3}(I:Inv X pins σ H s)
 (hl:H l=some (.lst (as.map V.ref))) (hlen:as.length<=1000)
 (ho:H q=some (.oO (jY name qual params body scope [] pm c' Fn) (.own 0))) (Io:∃oc vs t,H c'=some (.oO oc (.own 0))/\oc.data=.fields vs/\vs[1]? = some (.str qual t)) (S:aU N ps scope) (hr:jA (k+3) X.A)
 (hb:∀a,yb (pC name qual params body scope [] pm (.ref c') Fn) ⟨[.ref a],[]⟩=pure (ps.zip [.ref a])) (XN:ps.length=1)
 (pV:∀s' H',PE (dj gW X.prog X.w X.K X.mg X.base N qual scope q (.ref c') X.A.in1.in1 X.stack s' H' E0) body t)
 (Qa:∀a∈as,∀H1,aq H H1->∀Q:VK,(∀p,H1 p=none->Q (.ref p) (upd H1 p (.tup (kv (ks a)))))->t (start N [.ref a]) H1 Q)
 (fin:∀(D:af)(out:List af)s' H',Inv X pins σ H' s'->aq H H'->H D=none->H' D=some (.lst (out.map V.ref))->out.Perm as->out.Pairwise (λa b=>Le3 (ks a) (ks b))->Q (.ref D) s'):
 wpAny (model X.prog X.w) X.A (call (.builtin "sorted") [.ref l] [(bo "key",.ref q)]) Q E s:=by
 rintro hz its n rvs hln hg:N3 4 fo<|I.NT hl;obtain rfl:=yn rvs;have aaw:s.heap.IsList l (as.map bn).toArray:=#[ie,_,hg,rfl,⟨_,rfl⟩];have hv:(as.map bn).length<=1000:=by rw[ab];show hlen
 show call_function_entry_kw kind_sorted plain_sorted entry_sorted (ksk_s1 _ _) ?_;unfold ax0;show wpAny_bind (m:=checkCount "sorted" 1 1 _) (wpAny_pure ?_);show wpAny_bind (collect_list aaw ?_ (by rw[fV];omega));show wpAny_bind (aq3 ?_ (by rw[fV];omega));generalize hvs:as.map bn=vs at hv hg aaw ⊢;have hsz:((s.heap.push (iT "list" #[] 0)).update s.heap.objs.size (dZ (·++vs.toArray))).objs.size=s.heap.objs.size+1:=by rw[U1,Z4]
 have hoL:(((s.heap.push (iT "list" #[] 0)).update s.heap.objs.size (dZ (·++vs.toArray))).push (iT "list" vs.toArray 0)).get? (s.heap.objs.size+1)=some (iT "list" vs.toArray 0):=by rw[<-hsz];show bq _ rfl
 have keep:∀b o,s.heap.get? b=some o->(((s.heap.push (iT "list" #[] 0)).update s.heap.objs.size (dZ (·++vs.toArray))).push (iT "list" vs.toArray 0)).get? b=some o:=λb o q=>by
  have lr:b<s.heap.objs.size:=bf q;rw[kj _ _ _ (by rw[hsz];show bw (nc lr)),Rx _ _ _ _ (bw lr),kj _ _ _ (bw lr)];show q
 change wpAny _ _ _ _ _ { s with heap:=((s.heap.push (iT "list" #[] 0)).update s.heap.objs.size (dZ (·++vs.toArray))).push (iT "list" vs.toArray 0) };rw[hsz];have YX:(((s.heap.push (iT "list" #[] 0)).update s.heap.objs.size (dZ (·++vs.toArray))).push (iT "list" vs.toArray 0)).objs.size=s.heap.objs.size+2:=by rw[Z4,hsz]
 generalize hh:((s.heap.push (iT "list" #[] 0)).update s.heap.objs.size (dZ (·++vs.toArray))).push (iT "list" vs.toArray 0)=h2 at hoL keep YX ⊢;show wpAny_bind (wpAny_holding (wpAny_call_entry_kw slot_list_sort #[ia,_,hoL,rfl] entry_list_sort ?body (ksk_l1 _ _)));case body=>
  change wpAny (model X.prog X.w) X.A.in1.in1 (Builtin.«list.sort» ⟨[.ref (s.heap.objs.size+1)],[(bo "key",.ref q)]⟩) _ _ _;rw[ksk_t1];unfold ksk_tree;show wpAny_bind (listItems_at hoL rfl ?_);show wpAny_bind (Ea hoL rfl ?_ (by rw[ba,fV];omega) (bV _));rintro e1 ho1:bW (⟨_,get?_update_seq hoL (λ_=>#[])⟩:∃e1,(h2.update (s.heap.objs.size+1) (dZ λ_=>#[])).get? (s.heap.objs.size+1)=some (iT "list" #[] e1));show wpAny_bind (seqEpoch_at ho1 rfl ?_);show wpAny_bind (wpAny_newTuple ?_);show wpAny_bind (aq3 ?_);show wpAny_holding ?_;generalize hD:s.heap.objs.size+1=D at hoL ho1 ⊢;let h3:=h2.update D (dZ λ_=>(#[]:Array ag));let oT:iG:={ cls:=kP "tuple",data:=X6 vs.toArray.toList.toArray };let h4:=h3.push oT;let h5:=h4.push (iT "list" #[] 0);have z3:h3.objs.size=s.heap.objs.size+2:=by change (h2.update _ _).objs.size=_;rw[U1,YX]
  have z4:h4.objs.size=s.heap.objs.size+3:=by change (h3.push _).objs.size=_;rw[Z4,z3]
  change wpAny (model X.prog X.w) X.A.in1.in1 (aok D (.ref q) false vs.toArray e1 (.ref h4.objs.size)) _ _ { s with heap:=h5 };generalize hkS:h4.objs.size=kS;have hkD:kS≠D:=by omega
  have g5D:h5.get? D=some (iT "list" #[] e1):=by change (h4.push _).get? D=_;rw[kj _ _ _ (show D≠h4.objs.size by omega)];change (h3.push _).get? D=_;rw[kj _ _ _ (show D≠h3.objs.size by omega)];show ho1
  have g5k:h5.get? kS=some (iT "list" #[] 0):=by rw[<-hkS];show bq _ rfl
  have amj:∀b o,s.heap.get? b=some o->h5.get? b=some o:=λb o e=>by
   have lr:b<s.heap.objs.size:=bf e;change (h4.push _).get? b=_;rw[kj _ _ _ (bw (bg lr (show s.heap.objs.size<=h4.objs.size by omega)))];change (h3.push _).get? b=_;rw[kj _ _ _ (bw (bg lr (show s.heap.objs.size<=h3.objs.size by omega)))];change (h2.update _ _).get? b=_;rw[Rx _ _ _ _ (bw (bg lr (show s.heap.objs.size<=D by omega)))];show keep b o e
  have hDn:H D=none:=I.eU.fresh (by omega);have YJ:H kS=none:=I.eU.fresh (by omega);let H1:Hp:=upd (upd H D (.lst [])) kS (.lst []);have e1D:H1 D=some (.lst []):=by change upd _ _ _ D=_;rw[aR hkD.symm,aT]
  have e1k:H1 kS=some (.lst []):=aT;have s01:aq H H1:=λb o e=>by change upd _ _ _ b=_;rw[aR (aI e YJ),aR (aI e hDn)];show e
  have I1:Inv X pins σ H1 { s with heap:=h5,toks:=s.toks }:=Wa I amj s01 λb o e=>by
   by_cases z1:b=kS;.subst z1;rw[e1k] at e;cases e;show .inr #[ic,by omega,bV _,#[im,[],0,.nil,g5k]]
   by_cases z2:b=D;.subst z2;rw[e1D] at e;cases e;show .inr #[ic,by omega,bV _,#[im,[],e1,.nil,g5D]]
   show .inl (by have e':upd (upd H D (.lst [])) kS (.lst []) b=some o:=e;rw[aR z1,aR z2] at e';show e')
  have hnf:=I1.amu e1D eZ;rintro od I2:bW<|I1.lock e1D eZ;have hod:od=iT "list" #[] e1:=by have:=(I2.eU D _ aT).1;rw[show h5.get? D=some od from this] at g5D;show bp g5D
  subst hod;subst hvs;rintro oc vs' tk r1 r2 r3:rD Io;show W3 (k:=k) (H0:=H) (ks:=ks) I2 (λb o e=>by rw[aR (aI e hDn)];show s01 _ _ e) hDn YJ hkD aT hnf (by rw[aR hkD];show e1k) hlen ho #[ii,oc,vs',tk,r1,r2,r3] S hr.in1.in1 rfl hb XN (λs' H'=>pV s' H') Qa λout s' H' I' s' hD' hp Lg=>?_;show #[ia,_,rfl,wpAny_pure #[ia,_,rfl,fin D out _ H' I' s' hDn hD' hp Lg]]
end
end TT
end
section
namespace TT
open PySem PySem.Spec PyProof.Rows PyProof.Rows.G L2
def eP.mono{H H':Hp}{T:af}{pos:km}{qual:Str}(s:aq H H')(h:eP H T pos qual):eP H' T pos qual:=by rintro ps h1 h2:bM h;show #[ia,ps,s _ _ h1,h2.imp id λ⟨c,oc,vs,t,q1,q2,q3⟩=>#[iy,c,oc,vs,t,#[ic,q1,s _ _ q2,q3]]]
def eP.keep{H H':Hp}{T a:af}{pos:km}{qual:Str}(k:eA H H' a)(hm:Mut (H a))(h:eP H T pos qual):eP H' T pos qual:=by
 rintro ps h1 h2:bM h;have n1:T≠a:=λz=>by subst z;rw[h1] at hm;show hm
 show #[ia,ps,k _ _ h1 n1,h2.imp id λ⟨c,oc,vs,t,q1,q2,q3⟩=>#[iy,c,oc,vs,t,#[ic,q1,k _ _ q2 λz=>by subst z;rw[q2] at hm;show hm,q3]]]
def Ln(T:af)(Ek:km)(qual:Str)(N:List Str)(t:TE)(Q:VK)(x:V)(H1:Hp):Prop:=∃(l:af)(as:List af)(ks:af->K3),x=.ref l/\H1 l=some (.lst (as.map V.ref))/\as.length<=1000/\eP H1 T Ek qual/\
 (∀a∈as,∀H2,eA H1 H2 T->∀Q:VK,(∀p,H2 p=none->Q (.ref p) (upd H2 p (.tup (kv (ks a)))))->t (start N [.ref a]) H2 Q)/\
 ∀(D:af)(out:List af)(H':Hp),eA H1 H' T->eP H' T Ek qual->H1 D=none->H' D=some (.lst (out.map V.ref))->out.Perm as->out.Pairwise (λa b=>Le3 (ks a) (ks b))->Q (.ref D) H'
def Xi(ta:TE)(T:af)(Ek:km)(qual:Str)(N:List Str)(t:TE):TE:=λσ H Q=>ta σ H (Ln T Ek qual N t Q)
def ZD{ta t:TE}{T:af}{Ek:km}{qual:Str}{N:List Str}{σ:L2.St}{H:Hp}{Q:VK}(h:ta σ H (Ln T Ek qual N t Q)):Xi ta T Ek qual N t σ H Q:=h
def WB{X:Cx}{e:Expr}{ta t:TE}{k:Nat}{T c:af}{params:pz}{body:Expr}{scope:jq}{Ek kp p pos:km}{qual:Str}{N ps:List Str}(hg:Gl X "sorted")(hm:X.mg "sorted"=none)(ha:PE X e ta)(C:nk X.K c T=true)(R1:X.env.code=.ref c)(O9:O5 scope X.env=pure [])(hB:X.base.BuiltinsAt X.mg T)
 (adv:defaultsOf params X.env=([],[])) (V4:X.env.qual++"<lambda>"=qual) (S:aU N ps scope) (hr:jA (k+3) X.A) (XN:ps.length=1)
 (hb:∀pm c' Fn a,yb (pC "<lambda>" qual params body scope [] pm (.ref c') Fn) ⟨[.ref a],[]⟩=pure (ps.zip [.ref a]))
 (pV:∀q c' s' H',PE (dj gW X.prog X.w X.K X.mg X.base N qual scope q (.ref c') X.A.in1.in1 X.stack s' H' E0) body t)
 (hse:bi [e] X.env=[(false,eval e X.env)]:=by rfl):
 PE X (.Call (.Name "sorted" p) [e] [⟨some "key",.Lambda params body scope Ek,kp⟩] pos) (Xi ta T Ek qual N t):=by
 intro pins s σ H Q I h;show jr (Cu I hg hm boot_sorted ?_);show callWith_kw (gQ (dS ha jf (by rw[hse];rfl) pos pins s σ H (λvs H1=>match vs with|[x]=>Ln T Ek qual N t Q x H1|_=>False) I ?_) λus s1 hp=>?_) (by rw[hse];rfl) (by rw[hse];rfl);.show h
 .rintro vs H1 I1 r1 hx:fD hp;obtain⟨x,rfl,hx⟩:∃x,vs=[x]/\Ln T Ek qual N t Q x H1:=by
   match vs,hx with
   |[x],hx=>show #[ia,x,rfl,hx]
  rintro l as ks rfl hl hlen hT Qa fin:rD 5 Cz hx;cases r1 with
  |cons r1 r2=>
   cases r2;obtain rfl:_=bn l:=r1;show kws_cons ?_;show Wi I1 hT C R1 O9 hB adv V4 λq c' pm Fn s2 H2 I2 ts hq UO Io hoc=>?_;show kws_nil ?_;have hlT:l≠T:=λz=>by
    rintro ps e _:bM hT;rw[<-z,hl] at e;cases e
   show Q6 (k:=k) (ks:=ks) (t:=t) I2 (ts.keep _ _ hl hlT) hlen UO hoc S hr (hb pm c' Fn) XN (pV q c') (λa ha H3 s3 Q' hQ=>Qa a ha H3 (JF ts.keep s3) Q' hQ) λD out s' H' I' s' hD hD' hp ho=>?_;have hDH:H1 D=none:=by
    cases e:H1 D with
    |none=>rfl
    |some o=>
     by_cases z:D=T;.rintro ps e2 _:bM ts.tab;rw[<-z,hD] at e2;cases e2
     .rw[ts.keep _ _ e z] at hD;cases hD
   show #[ib,.ref D,H',I',rfl,fin D out H' (JF ts.keep s') (ts.tab.mono s') hDH hD' hp ho]
end TT
end
set_option hygiene false
local macro_rules|`(tactic| walk_at "sm")=>`(tactic| first|assumption|exact aq.refl _|exact aq.trans ‹_› ‹_›)
local macro_rules|`(tactic| walk_at "fld")=>`(tactic| ((with_reducible refine TT.r_gk ?_);first|((with_reducible refine Ic (eX.toTX ‹_›) (by assumption) (by walk_at "sm") ?_))|((with_reducible refine K8 (eX.toTX ‹_›) (by assumption) (by walk_at "sm") ?_))|((with_reducible refine NB (eX.toTX ‹_›) (by assumption) (by walk_at "sm") ?_))|((with_reducible refine Ih (eX.toTX ‹_›) (by assumption) (by walk_at "sm") ?_))|((with_reducible refine Ej (eX.toTX ‹_›) (by assumption) (by walk_at "sm") ?_);intro _ _)|((with_reducible refine Cg (eX.toTX ‹_›) (by assumption) (by walk_at "sm") ?_))|((with_reducible refine Ei (eX.toTX ‹_›) (by assumption) (by walk_at "sm") ?_))|((with_reducible refine La (eX.toTX ‹_›) (by assumption) (by walk_at "sm") ?_);intro _ _)|((with_reducible refine P5 (eX.toTX ‹_›) (by assumption) (by walk_at "sm") ?_))|((with_reducible refine Lb (eX.toTX ‹_›) (by assumption) (by walk_at "sm") ?_);intro _ _)|((with_reducible refine Eg (eX.toTX ‹_›) (by assumption) (by walk_at "sm") ?_);intro _ _)|((with_reducible refine Id (eX.toTX ‹_›) (by assumption) (by walk_at "sm") ?_);intro _ _)|((with_reducible refine P4 (eX.toTX ‹_›) (by assumption) (by walk_at "sm") ?_);intro _ _)|((with_reducible refine Tk (eX.toTX ‹_›) (by assumption) (by walk_at "sm") ?_))|((with_reducible refine Tl (eX.toTX ‹_›) (by assumption) (by walk_at "sm") ?_);intro _ _)|((with_reducible refine Nz (eX.toTX ‹_›) (by assumption) (by walk_at "sm") ?_);intro _ _)|((with_reducible refine P0 (eX.toTX ‹_›) (by assumption) (by walk_at "sm") ?_);intro _ _)|((with_reducible refine PZ (eX.toTX ‹_›) (by assumption) (by walk_at "sm") ?_);intro _ _)|((with_reducible refine K5 (eX.toTX ‹_›) (by assumption) (by walk_at "sm") ?_))|((with_reducible refine K6 (eX.toTX ‹_›) (by assumption) (by walk_at "sm") ?_))|((with_reducible refine Ia (eX.toTX ‹_›) (by assumption) (by walk_at "sm") ?_))|((with_reducible refine Nw (eX.toTX ‹_›) (by assumption) (by walk_at "sm") ?_))|((with_reducible refine Ny (eX.toTX ‹_›) (by assumption) (by walk_at "sm") ?_))|((with_reducible refine K4 (eX.toTX ‹_›) (by assumption) (by walk_at "sm") ?_))|((with_reducible refine Ft (eX.toTX ‹_›) (by assumption) (by walk_at "sm") ?_))|((with_reducible refine K7 (eX.toTX ‹_›) (by assumption) (by walk_at "sm") ?_))|((with_reducible refine Fx (eX.toTX ‹_›) (by assumption) (by walk_at "sm") ?_))|((with_reducible refine Fy (eX.toTX ‹_›) (by assumption) (by walk_at "sm") ?_))|((with_reducible refine K9 (eX.toTX ‹_›) (by assumption) (by walk_at "sm") ?_))|((with_reducible refine K' (eX.toTX ‹_›) (by assumption) (by walk_at "sm") ?_))|((with_reducible refine Fw (eX.toTX ‹_›) (by assumption) (by walk_at "sm") ?_))|((with_reducible refine K_ (eX.toTX ‹_›) (by assumption) (by walk_at "sm") ?_))|((with_reducible refine Ig (eX.toTX ‹_›) (by assumption) (by walk_at "sm") ?_))|((with_reducible refine Eh (eX.toTX ‹_›) (by assumption) (by walk_at "sm") ?_))|((with_reducible refine Ie (eX.toTX ‹_›) (by assumption) (by walk_at "sm") ?_))|((with_reducible refine Ib (eX.toTX ‹_›) (by assumption) (by walk_at "sm") ?_);intro _ _)|((with_reducible refine AZ (eX.toTX ‹_›) (by assumption) (by walk_at "sm") ?_);intro _ _)|((with_reducible refine Fu (eX.toTX ‹_›) (by assumption) (by walk_at "sm") ?_);intro _ _)|((with_reducible refine yt (eX.toTX ‹_›) (by assumption) (by walk_at "sm") ?_))|((with_reducible refine NA (eX.toTX ‹_›) (by assumption) (by walk_at "sm") ?_))|((with_reducible refine Fv (eX.toTX ‹_›) (by assumption) (by walk_at "sm") ?_);intro _ _)|((with_reducible refine HZ (eX.toTX ‹_›) (by assumption) (by walk_at "sm") ?_))|((with_reducible refine H_ (eX.toTX ‹_›) (by assumption) (by walk_at "sm") ?_);intro _ _)))
local macro_rules|`(tactic| walk_at "rd1")=>`(tactic| first|with_reducible refine TT.RdS.h ?_|((with_reducible apply an3);case e=>rfl)|with_reducible refine L5 ?_|((with_reducible apply aw6);case e=>rfl))
local macro_rules|`(tactic| walk_at "rd")=>`(tactic| repeat (first|walk_at "rd1"|walk_at "fld"))
local macro_rules|`(tactic| walk_at "rdp")=>`(tactic| repeat ((fail_if_success (with_reducible refine anj ?_));(first|walk_at "rd1"|walk_at "fld")))
local macro_rules|`(tactic| walk_at "ln")=>`(tactic| (intro vs H Q E h;(repeat (rintro _ _ _ _ _ _ h:EN h));first|exact l'0 rfl h|exact l'1 (λ_=>rfl) h|exact l'2 (λ_ _=>rfl) h|exact l'3 (λ_ _ _=>rfl) h|exact l'4 (λ_ _ _ _=>rfl) h|exact l'5 (λ_ _ _ _ _=>rfl) h))
local macro_rules|`(tactic| left)=>`(tactic| walk_at "rd")
local macro_rules|`(tactic| exists $t)=>`(tactic| (walk_at "rd";refine $t))|`(tactic| exists $a,$b)=>`(tactic| refine L2.i9.jB $a $b λgq Ar outer s H vs Q E hr h=>?_)
namespace TT
def top(i:Nat):cK:=PySem.Challenge.pw_timetable_s01_answers.main.body.getD i (.Pass ⟨0,0,0,0⟩)
section
variable{P:aS}{w:bL}{K:ad}{mg:Str->Option ag}{base:cE}{A:dW}{f:af}{fd:b_}
abbrev CP:cK:=top 9
def GY:aU ["trip","day"] ["trip","day"] (aG CP):=jy
def vm(A:dW):Sp:=λvs H Q _=>∃(a:af)(t:ax)(d:Int),vs=[.ref a,.int d]/\gh A H a t/\∀p H',H p=none->H' p=some (.tup [iv t.no,.int d])->aq H H'->Q (.ref p) H'
def QD(F:i9 K "run_key" "run_key" CP f fd)(T:eX K mg A):cQ P w K mg base gW 1 f fd ["trip","day"] (vm A):=by exists F,GY;rintro a t d rfl ht k:rD h;have hu:=fJ hr;have nd:=GY.nd;show #[ia,_,(kY (Gv (mz (du 0) (pv 1)))),?_];dsimp only[dj];exists WU (by simp;decide) λp H' hp h1 h2=>?_;show k p H' hp h1 h2
abbrev Af:cK:=top 12
def DR:aU ["state","trip","day"] ["state","trip","day"] (aG Af):=jy
def qJ(A:dW):Sp:=λvs H Q _=>∃(s a:af)(S:aO)(t:ax)(d:Int),vs=[.ref s,.ref a,.int d]/\gN A H s S/\gh A H a t/\∀H',aq H H'->Q (.bl (lE S.world t d)) H'
def N7(F:i9 K "does_run" "does_run" Af f fd)(T:eX K mg A)(lj:fP P w K mg base 1 "run_key" ["trip","day"] (vm A)):cQ P w K mg base gW 2 f fd ["state","trip","day"] (qJ A):=by
 exists F,DR;rintro s a S t d rfl hs ht k:Wu 6 lB h;have hu:=fJ hr;have nd:=DR.nd;show #[ia,_,(ae (kW (PW.pt (kf (kq qH (pv 2) (du 1)) (kf (kq yR (pv 2) (du 1)) (jh (kq Bc (fB Wv (pv 2) aw) (du 1)))))) JM) (kY (afs (CH hu (bC lj hr (mz (pv 1) (pv 2))) (du 0))))),?_];dsimp only[dj];left;have no:lE S.world t d=false->Q (.bl false) H:=λe=>by rw[<-e];show k H (aq.refl H)
 show cY (λh1=>?_) (λh1=>?_)<;>left
 .show no ?_;unfold lE c9 wg;by_cases h0:0<=d;.rw[decide_eq_false (show ¬t.first<=d.toNat by omega)];simp
  .simp[h0]
 show cY (λh2=>?_) (λh2=>?_)<;>left;.show no ?_;unfold lE c9 wg;rw[decide_eq_false (show ¬d.toNat<=t.last by omega)];simp
 show QS (by decide) ?_;left;rename_i w' hw';show SA (.inl (cf.of hw')) rfl (FB _) ?_;left;have h0:0<=d:=by omega
 rw[ac4 t.days h0];show oj (λh3=>?_) (λh3=>?_)<;>left;.show no ?_;unfold lE c9 wg;rw[h3];simp
 show #[ii,a,t,d,rfl,ht,λp H' hp h4 h5=>?_];left;rename_i c VS;rintro aQ hc _ hv:gF VS;show WL (k:=rk t.no d.toNat) (h5 _ _ hc) (by rw[h4];change _=some (HO.tup [V.int t.no,V.int (d.toNat:Int)]);rw[show ((d.toNat:Nat):Int)=d by omega]) ?_;rw[hv];have e:(!(if (t.no,d.toNat)∈S.world.off then some (V.bl true) else none).isSome)=lE S.world t d:=by
  unfold lE c9 wg;rw[h3,decide_eq_true h0,decide_eq_true (show t.first<=d.toNat by omega),decide_eq_true (show d.toNat<=t.last by omega)];by_cases z:(t.no,d.toNat)∈S.world.off;.rw[if_pos z];simp[z]
  .rw[if_neg z];simp[z]
 rw[e];show k H' h5
end
def PX{W:ah}{t:ax}{d i:Nat}(h:i<t.stops.length):(iH W t d)[i]? = some (iv (jT W t.no d i)):=nT _ h
def Bk(n:Nat)(g:Nat->V):(ay (n+1)).map g=(ay n).map g++[g n]:=by rw[uQ,aj];rfl
def MZ(A:dW)(H F:Hp)(a:af)(w:ah)(t:ax)(d:Nat):Prop:=∃dx ta ka ca ga:af,F a=some (.ins A.run dx (Tj w t d ta ka ca ga))/\gh A F ta t/\F ka=some (.tup [iv t.no,iv d])/\F ca=some (.lst ((ay t.stops.length).map λj=>iv (d8 w t d j)))/\F ga=some (.lst ((ay t.stops.length).map λi=>iv (bE w t d i)))/\H ga=none
def MZ.at_{A:dW}{H F:Hp}{a:af}{w:ah}{t:ax}{d:Nat}(h:MZ A H F a w t d):n8 A F a w t d:=DL h λdx ta ka ca ga h1 h2 h3 h4 w'=>fo w' λh5 _=>#[ig,dx,ta,ka,ca,ga,#[iq,h1,h2,h3,h4,h5]]
def MZ.back{A:dW}{H H1 F:Hp}{a:af}{w:ah}{t:ax}{d:Nat}(s:aq H H1)(h:MZ A H1 F a w t d):MZ A H F a w t d:=DL h λdx ta ka ca ga h1 h2 h3 h4 w'=>fo w' λh5 h6=>#[ig,dx,ta,ka,ca,ga,#[ip,h1,h2,h3,h4,h5,s.free h6]]
section
variable{P:aS}{w:bL}{K:ad}{mg:Str->Option ag}{base:cE}{A:dW}{f:af}{fd:b_}
abbrev Ac:cK:=lK (top 10) 0
def DO:aU ["self","trip","day","delays","late","place","stop"] ["self","trip","day","delays"] (aG Ac):=jy
def xV(A:dW):Sp:=λvs H Q _=>∃(x dx ta da:af)(H0:Hp)(W:ah)(t:ax)(d:Nat),vs=[.ref x,.ref ta,iv d,.ref da]/\H x=some (.ins A.run dx [])/\aq H0 H/\H0 x=none/\gh A H0 ta t/\H da=some (.lst (iH W t d))/\t.stops.length<=5/\
 ∀F' H',dE x H0 H F' H'->MZ A H F' x W t d->Q .non H'
def N4(F:i9 K "__init__" "Run.__init__" Ac f fd)(T:eX K mg A)(lj:fP P w K mg base 1 "run_key" ["trip","day"] (vm A)):cQ P w K mg base gW 2 f fd ["self","trip","day","delays"] (xV A):=by
 exists F,DO;rintro x dx ta da H0 W t d rfl hx s0 n0 ht R4 h5 k:vV 8 wb 6 fo h;have hu:=fJ hr;have nd:=DO.nd;show #[ia,_,(ae (cF (pv 0) (pv 1) rfl) (ae (cF (pv 0) (pv 2) rfl) (ae (cF (pv 0) (bC lj hr (mz (pv 1) (pv 2))) rfl) (ae (cF (pv 0) (bI jf) rfl) (ae (cF (pv 0) (bI jf) rfl) (ae (sv 4 nd aw) (bA (fR bj rfl (yh rfl T.kz (eM (du 1))) (xi rfl (iE (gv 5 nd) (iE (gv 6 nd) qI))) (ae (dN (Mx (du 0) (fB iI (fB iI (fB QK (pv 2) (bG T.qY)) (du 6)) (pv 4)))) (ae (sv 4 nd (fB iI (pv 4) (xL (pv 3) (pv 5)))) (bA (dN (Mx (du 0) (fB iI (fB iI (fB QK (pv 2) (bG T.qY)) (du 6)) (pv 4))))))))))))))),?_];dsimp only[dj];exists dL hx T.run λH1 h1 k1=>?_;have s1:=aB s0 k1 n0;exists dL h1 T.run λH2 h2 k2=>?_;have s2:=aB s1 k2 n0;exists #[ii,ta,t,d,rfl,gh.mono s2 ht,λka H3 Hu hk3 e3=>?_];left;have s3:=s2.trans e3;show dL (e3 _ _ h2) T.run λH4 h4 k4=>?_;have s4:=aB s3 k4 n0;have hk4:=k4 _ _ hk3 (cA (aI h2 Hu));exists jw λca H5 zX hc5 e5=>?_;left;have s5:=s4.trans e5;show dL (e5 _ _ h4) T.run λH6 h6 k6=>?_;have s6:=aB s5 k6 n0;have Zd:ca≠x:=cA (aI h4 zX);have hk6:=k6 _ _ (e5 _ _ hk4) (cA (aI h2 Hu));have hc6:=k6 _ _ hc5 Zd;exists jw λga H7 UK hg7 e7=>?_;left;have s7:=s6.trans e7;show dL (e7 _ _ h6) T.run λH8 h8 k8=>?_;have s8:=aB s7 k8 n0;have nga:ga≠x:=cA (aI h6 UK);have ncg:ca≠ga:=aI hc6 UK;have hk8:=k8 _ _ (e7 _ _ hk6) (cA (aI h2 Hu));have hc8:=k8 _ _ (e7 _ _ hc6) Zd;have hg8:=k8 _ _ hg7 nga;have c0:H0 ca=none:=s4.free zX;have g0:H0 ga=none:=s6.free UK;have nkc:ka≠ca:=aI hk4 zX;have nkg:ka≠ga:=aI hk6 UK;have Zf:ka≠x:=cA (aI h2 Hu);have nda:da≠x:=oy R4 hx;have kH:H ka=none:=by
  cases q:H ka with
  |none=>rfl
  |some o=>rw[k2 _ _ (k1 _ _ q Zf) Zf] at Hu;cases Hu
 have cH:H ca=none:=by
  cases q:H ca with
  |none=>rfl
  |some o=>rw[k4 _ _ (e3 _ _ (k2 _ _ (k1 _ _ q Zd) Zd)) Zd] at zX;cases zX
 have gH:H ga=none:=by
  cases q:H ga with
  |none=>rfl
  |some o=>rw[k6 _ _ (e5 _ _ (k4 _ _ (e3 _ _ (k2 _ _ (k1 _ _ q nga) nga)) nga)) nga] at UK;cases UK
 have av5:ca≠da:=cA (aI R4 cH);left;rename_i sl Cr;rintro as Cr pa:bM Cr;have len:as.length=t.stops.length:=pa.length;show Sx (i1:=5) (i2:=6) (xs:=as.map V.ref) (λi σ H'=>∃u v:Option V,σ=[some (.ref x),some (.ref ta),some (iv d),some (.ref da),some (iv (nH W t.no d i)),u,v]/\aq H0 H'/\
  H' x=some (.ins A.run dx (Tj W t d ta ka ca ga))/\H' ka=some (.tup [iv t.no,iv d])/\H' ca=some (.lst ((ay i).map λj=>iv (d8 W t d j)))/\H' ga=some (.lst ((ay i).map λj=>iv (bE W t d j)))/\dE x H0 H H0 H')
  (cf.of (s8 _ _ Cr)) #[ik,none,none,by rw[NP];rfl,s8,h8,hk8,#[ic,hc8,hg8,((((((dE.start s0).keep k1 (.inr rfl) n0).keep k2 (.inr rfl) n0).more e3).keep k4 (.inr rfl) n0 |>.more e5).keep k6 (.inr rfl) n0 |>.more e7).keep k8 (.inr rfl) n0]] (λi σ H' _ cG=>fD cG λu v _ e _=>cf.of (e _ _ Cr)) ?_ ?_
 .rintro i y σ H' UF hi cG e6;rintro u v rfl e1 e2 e3 e4 e5 eg:lA 5 Cz cG;rintro b hb rfl:bM<|o7 hi;rintro st kE hb:bM<|fE pa hb;have lr:i<t.stops.length:=(ai.mp kE).1;have s9:=e1.trans e6;have e2':=e6 _ _ e2;have e4':=e6 _ _ e4;have e5':=e6 _ _ e5;exists c8 (v:=.ref ca) e2' T.run ?_;show jm (cf.of e4') ?_;exists QS (.inr ⟨by decide,by decide⟩) ?_;exists fL (T:="list") rfl e4' (by simp[sizeLine];omega) λH9 h9 k9=>?_;have s10:=aB s9 k9 c0;exists bY (cf.of (k9 _ _ ((eg.more e6).hh _ _ R4 nda) av5.symm)) (aV (PX lr)) ?_;exists c8 (v:=.ref ga) (k9 _ _ e2' Zd.symm) T.run ?_;show jm (cf.of (k9 _ _ e5' ncg.symm)) ?_;exists QS (.inr ⟨by decide,by decide⟩) ?_;exists fL (T:="list") rfl (k9 _ _ e5' ncg.symm) (by simp[sizeLine];omega) λYh RX k10=>?_;exists #[ik,some (iv i),some (.ref b),?_,aB s10 k10 g0,k10 _ _ (k9 _ _ e2' Zd.symm) nga.symm,k10 _ _ (k9 _ _ (e6 _ _ e3) nkc) nkg,#[ic,?_,?_,(((eg.more e6).keep k9 (.inl cH) c0).keep k10 (.inl gH) g0)]];.rw[j1 (show ((nH W t.no d i:Nat):Int)+(jT W t.no d i:Nat)=(nH W t.no d (i+1):Nat) by rw[DC];omega)];rfl
  .rw[k10 _ _ h9 ncg,Bk,Ve W t d i kE,j1 (show ((d:Nat):Int)*1440+(st.arr:Nat)+(nH W t.no d i:Nat)=((1440*d+st.arr+nH W t.no d i:Nat):Int) by omega)]
  .rw[RX,Bk,Vz W t d i kE,DC,j1 (show ((d:Nat):Int)*1440+(st.dep:Nat)+((nH W t.no d i:Nat)+(jT W t.no d i:Nat))=((1440*d+st.dep+(nH W t.no d i+jT W t.no d i):Nat):Int) by omega)]
 .rintro σ H' cG;rintro u v rfl e1 e2 e3 e4 e5 eg:lA 5 Cz cG;rw[ab,len] at e4 e5;have k0:H0 ka=none:=s2.free Hu;have g1:=eg.add e3 (.inl kH) k0;have g2:=g1.add e4 (.inl cH) (by rw[aR nkc.symm];show c0);have g3:=g2.add e5 (.inl gH) (by rw[aR ncg.symm,aR nkg.symm];show g0);have g4:=g3.add e2 (.inr rfl) (by rw[aR nga.symm,aR Zd.symm,aR Zf.symm];show n0);show k _ H' g4 #[ig,dx,ta,ka,ca,ga,#[ip,aT,gh.mono g4.ff ht,?_,?_,?_,gH]];.rw[aR Zf,aR nkg,aR nkc,aT]
  .rw[aR Zd,aR ncg,aT]
  .rw[aR nga,aT]
end
def T6{W:ah}{t:ax}{r:bZ}(h:Fg W t r):r.from_=dX t r.leg.i/\r.by_=(bE W t r.leg.day r.leg.i:Int) - (t.cut:Int)/\r.to_=dX t r.leg.j/\r.ready=d8 W t r.leg.day r.leg.j+Ki W (dX t r.leg.j):=by rintro h1 h2 _:lB h;unfold nO at h2;rw[h1] at h2;have e:=bp h2;rw[<-e];show #[ij,rfl,rfl,rfl,rfl]
def z6{t:ax}{i:Nat}{s:eE}(h:t.stops[i]? = some s):dX t i=s.office:=by unfold dX;rw[h];rfl
section
variable{P:aS}{w:bL}{K:ad}{mg:Str->Option ag}{base:cE}{A:dW}{f:af}{fd:b_}
abbrev xn:cK:=lK (top 11) 0
def Bl:aU ["self","run","first","later","minutes"] ["self","run","first","later","minutes"] (aG xn):=jy
def vk(A:dW):Sp:=λvs H Q _=>∃(x dx ra ma:af)(H0:Hp)(W:ah)(t:ax)(r:bZ),vs=[.ref x,.ref ra,iv r.leg.i,iv r.leg.j,.ref ma]/\H x=some (.ins A.mw dx [])/\aq H0 H/\H0 x=none/\n8 A H0 ra W t r.leg.day/\H0 ma=some (.lst (ly W.table.mins))/\W.table.mins.length=6/\Fg W t r/\
 ∀F' H',dE x H0 H F' H'->eG A W F' x r->Q .non H'
def Lv(F:i9 K "__init__" "Ride.__init__" xn f fd)(T:eX K mg A):cQ P w K mg base gW 1 f fd ["self","run","first","later","minutes"] (vk A):=by
 exists F,Bl;rintro x dx ra ma H0 W t r rfl hx s0 n0 hra hma h6 ok k:vV 8 wb 6 lB h;have hu:=fJ hr;have nd:=Bl.nd;have ok':=ok;rintro o1 o2 o3 o4:Cz<|T6 ok;rintro p1 p2 p3 p4 p5 p6:Iw ok;rintro si hsi:bW (⟨_,bb (by omega)⟩:∃z,t.stops[r.leg.i]? = some z);rintro sj hsj:bW (⟨_,bb p4⟩:∃z,t.stops[r.leg.j]? = some z);rw[z6 hsi] at o1;rw[z6 hsj] at o3 o4;show #[ia,_,(ae (cF (pv 0) (pv 1) rfl) (ae (cF (pv 0) (pv 2) rfl) (ae (cF (pv 0) (pv 3) rfl) (ae (cF (pv 0) (vC (xL (vC (du 1)) (pv 2))) rfl) (ae (cF (pv 0) (vC (xL (vC (du 1)) (pv 3))) rfl) (ae (cF (pv 0) (xL (du 1) (pv 2)) rfl) (ae (cF (pv 0) (xL (du 1) (pv 3)) rfl) (ae (cF (pv 0) (fB LS (du 0) (vC (du 1))) rfl) (bA (cF (pv 0) (fB iI (du 0) (xL (pv 4) (du 0))) rfl)))))))))),?_];dsimp only[dj];exists dL hx T.mw λH1 h1 k1=>?_;have s1:=aB s0 k1 n0;exists dL h1 T.mw λH2 h2 k2=>?_;have s2:=aB s1 k2 n0;exists dL h2 T.mw λH3 h3 k3=>?_;have s3:=aB s2 k3 n0;exists abm ‹_› s3 hsi λb hb=>?_;exists dL h3 T.mw λH4 h4 k4=>?_;have s4:=aB s3 k4 n0;exists abm ‹_› s4 hsj λb hb=>?_;exists dL h4 T.mw λH5 h5 k5=>?_;have s5:=aB s4 k5 n0;left;rename_i ga UK;show bY (cf.of (s5 _ _ UK)) (aV (nT _ (show r.leg.i<t.stops.length by omega))) ?_;exists dL h5 T.mw λH6 h6' k6=>?_;have s6:=aB s5 k6 n0;left;rename_i ca zX;show bY (cf.of (s6 _ _ zX)) (aV (nT _ p4)) ?_;exists dL h6' T.mw λH7 h7 k7=>?_;have s7:=aB s6 k7 n0;exists c8 (v:=iv (bE W t r.leg.day r.leg.i)) h7 T.mw ?_;exists dL h7 T.mw λH8 h8 k8=>?_;have s8:=aB s7 k8 n0;exists c8 (v:=iv (d8 W t r.leg.day r.leg.j)) h8 T.mw ?_;exists c8 (v:=iv sj.office) h8 T.mw ?_;rintro mi hmi:bW (⟨_,bb (by omega)⟩:∃z,W.table.mins[sj.office]? = some z);show bY (cf.of (s8 _ _ hma)) (aV (Y0 hmi)) ?_;exists dL h8 T.mw λH9 h9 k9=>?_;have g:=(((((((((dE.start s0).keep k1 (.inr rfl) n0).keep k2 (.inr rfl) n0).keep k3 (.inr rfl) n0).keep k4 (.inr rfl) n0).keep k5 (.inr rfl) n0).keep k6 (.inr rfl) n0).keep k7 (.inr rfl) n0).keep k8 (.inr rfl) n0).keep k9 (.inr rfl) n0;have e:H9 x=some (.ins A.mw dx (VD W t r ra)):=by rw[h9];unfold VD;rw[o1,o2,o3,o4];unfold Ki;rw[show W.table.mins.getD sj.office 0=mi by rw[qo,hmi];rfl];rw[j1 (show ((d8 W t r.leg.day r.leg.j:Nat):Int)+(mi:Nat)=((d8 W t r.leg.day r.leg.j+mi:Nat):Int) by omega)];rfl
 show k _ H9 (g.add e (.inr rfl) n0) #[ia,t,ok',#[im,dx,ra,aT,n8.mono (cq n0) hra]]
end
def Nk{W:ah}{t:ax}{d:Nat}(h:∀x∈W.delays,¬(x.no=t.no/\x.day=d)):iH W t d=(ay t.stops.length).map λ_=>V.int 0:=by unfold iH;apply cJ;intro k _;unfold jT;rw[PY h];rfl
section
variable{P:aS}{w:bL}{K:ad}{mg:Str->Option ag}{base:cE}{A:dW}{f:af}{fd:b_}
abbrev GQ:cK:=top 13
def JU:aU ["state","trip","day","no_delays","stop"] ["state","trip","day"] (aG GQ):=jy
def CW(A:dW):Sp:=λvs H Q _=>∃(s a:af)(F:Hp)(S:aO)(t:ax)(d:Nat),vs=[.ref s,.ref a,iv d]/\aq F H/\gN A F s S/\gh A F a t/\t∈S.world.table.trips/\t.stops.length<=5/\
 ∀x F' H',en F H F' H'->MZ A H F' x S.world t d->Q (.ref x) H'
def T4(F:i9 K "run_of" "run_of" GQ f fd)(T:eX K mg A)(lj:fP P w K mg base 1 "run_key" ["trip","day"] (vm A))(ajm:MY P w K mg base 2 "Run" A.run ["self","trip","day","delays"] (xV A)):cQ P w K mg base gW 4 f fd ["state","trip","day"] (CW A):=by
 exists F,JU;rintro s a F S t d rfl s0 hs ht hm h5 k:EN 6 wb h;have hu:=fJ hr;have nd:=JU.nd;show #[ia,_,(ae (Bg (i:=3) rfl nd rfl rfl (EY rfl rfl rfl rfl) (dM (du 1)) (fe (own:=[("stop",4)]) (by kernel_rfl)) (λ_ _ _ _ _=>(gv 4 nd)) (λ_ _ _ _ _=>jz) (λ_ _ _ _ _=>aw)) (kY (tu ajm hr (qu (pv 1) (pv 2) (Gr hu (du 0) (bC lj hr (mz (pv 1) (pv 2))) (pv 3) ⟨rfl,rfl,rfl,rfl⟩))))),?_];dsimp only[dj];exists DN (λz i H'=>H' z=some (.lst ((ay i).map λ_=>V.int 0))/\aq H H') ‹_› s0 (λz H' h1 h2 h3=>⟨h2,h3⟩) (λz i H' h1 h2=>s0.trans h2.2) ?_ ?_;.rintro z i st b H' hz hi hb cG;rintro e1 e2:fo cG;have lr:i<t.stops.length:=(ai.mp hi).1;exists jv e1 (by simp[sizeLine];omega) λH2 h2 k2=>⟨by rw[h2,Bk],aB e2 k2 hz⟩
 .rintro z H1 hz cG;rintro e1 e2:fo cG;have s1:=s0.trans e2;left;rename_i dl hdl;rintro aQ R3 _ hd3:gF hdl;show WQ (Wb (s1 _ _ R3)) ?_;exists #[ii,a,t,d,rfl,gh.mono s1 ht,λp H2 hp jH e3=>?_];have s2:=s1.trans e3;exists QP (k:=rk t.no d) (s2 _ _ R3) jH ?_;have fin:∀da,H2 da=some (.lst (iH S.world t d))->kMk A.run (xV A) [] E0 Q [V.ref a,iv d,.ref da] H2:=by
   intro da R4;show pY λx dx H3 h1 h2 h3=>?_;show #[iw,x,dx,a,da,F,S.world,t,d,#[iu,rfl,h2,s2.trans h3,s2.free h1,ht,h3 _ _ R4,⟨h5,λF' H' g hR=>⟨rfl,?_⟩⟩]];have g1:=g.made h1 h3;show k x F' H' ⟨g1.ff,g1.fh,(e2.trans e3).trans g1.hh,λb o hb hn=>g1.nw b o (e3 _ _ (e2 _ _ hb)) hn⟩ (hR.back ((e2.trans e3).trans h3))
  rcases hd3 t hm d with⟨q1,q2⟩|⟨da,q1,q2⟩;.rw[q1];exists fin z (by rw[e3 _ _ e1,Nk q2])
  .rw[q1];exists fin da (s2 _ _ q2)
abbrev Ag:cK:=top 14
def DS:aU ["state","number","day","trip"] ["state","number","day"] (aG Ag):=jy
def kK(A:dW):Sp:=λvs H Q _=>∃(s:af)(F:Hp)(S:aO)(n d:Int),vs=[.ref s,.int n,.int d]/\aq F H/\gN A F s S/\ED S.world.table/\
 (jN S.world n d=none->∀H',aq H H'->Q .non H')/\∀x j t F' H',0<=d->cI S.world j=some t->(t.no:Int)=n->c9 S.world t d.toNat=true->jN S.world n d=some (j,t)->en F H F' H'->MZ A H F' x S.world t d.toNat->Q (.ref x) H'
def N8(F:i9 K "find_run" "find_run" Ag f fd)(T:eX K mg A)(jO:fP P w K mg base 2 "does_run" ["state","trip","day"] (qJ A))(sI:fP P w K mg base 4 "run_of" ["state","trip","day"] (CW A)):cQ P w K mg base gW 5 f fd ["state","number","day"] (kK A):=by
 exists F,DS;rintro s F S n d rfl s0 hs ok kn ks:DL 9 fo h;have hu:=fJ hr;have nd:=DS.nd;show #[ia,_,(ae (fR bj rfl (dM (vC (du 0))) (gv 3 nd) (bA (kW (PW.pt (kI (kq lI (du 3) (pv 1)) (lp (fF (bC jO hr (qu (pv 0) (pv 3) (pv 2))))))) (bC sI hr (qu (pv 0) (pv 3) (pv 2)))))) (kY ju)),?_];dsimp only[dj];exists oP (λi σ H'=>∃u:Option V,σ=[some (.ref s),some (.int n),some (.int d),u]/\aq H H'/\∀j t,j<i->S.world.table.trips[j]? = some t->¬((t.no:Int)=n/\lE S.world t d=true))
  ‹_› #[ie,none,rfl,aq.refl _,λj t hj=>by omega] (λi σ H' h=>by rintro u _ e _:gF h;show s0.trans e) ?_ ?_
 .rintro i t b σ H' hi hb cG;rintro u rfl e1 e2:gF cG;have s1:=s0.trans e1;left;have XU:∀H2,aq H' H2->¬((t.no:Int)=n/\lE S.world t d=true)->∃u_1:Option V,[some (V.ref s),some (V.int n),some (V.int d),some (V.ref b)]=[some (.ref s),some (.int n),some (.int d),u_1]/\aq H H2/\∀j t,j<i+1->S.world.table.trips[j]? = some t->¬((t.no:Int)=n/\lE S.world t d=true):=λH2 e hn=>#[ie,some (.ref b),rfl,e1.trans e,λj t' hj ht'=>by
   rcases Nat.lt_succ_iff_lt_or_eq.mp hj with hj|rfl;.show e2 j t' hj ht'
   .rw[hi] at ht';cases ht';show hn]
  show cY (λh1=>?_) (λh1=>?_)<;>left
  .show #[ig,s,b,S,t,d,#[ij,rfl,gN.mono s1 hs,gh.mono s1 hb,λH2 e3=>?_]];exists oh (λh2=>?_) (λh2=>?_)<;>left;.have BQ:=h2;unfold lE at BQ;simp only[ak,decide_eq_true_eq] at BQ;have s2:=s1.trans e3;have hm:=gl (W:=S.world) hi;show #[iy,s,b,F,S,#[ik,t,d.toNat,by rw[<-j1 (show d=((d.toNat:Nat):Int) by omega)];rfl,s2,hs,hb,#[ic,hm,(ok.ok t hm).lw,λx F' H3 g hR=>?_]]];show ks x i t F' H3 BQ.1 hi h1 BQ.2 (GN ok hi h1 h2) ⟨g.ff,g.fh,(e1.trans e3).trans g.hh,λb o hb hn=>g.nw b o (e3 _ _ (e1 _ _ hb)) hn⟩ (hR.back (e1.trans e3))
   .show XU H2 e3 λz=>by rw[h2] at z;cases z.2
  .show XU H' (aq.refl _) λz=>h1 z.1
 .rintro σ H' cG;rintro u rfl e1 e2:gF cG;exists kn (QZ λt ht=>?_) H' e1;rintro j hj ej:bW 1 bW<|List.getElem_of_mem ht;show e2 j t hj (by rw[bb hj,ej])
end
def o5(as:List af)(b:af):as.map V.ref++[V.ref b]=(as++[b]).map V.ref:=by rw[aj];rfl
def WD{α β:Type}(pre:List α)(m:Nat)(f:Nat->α)(g:α->β):(pre++(ay (m+1)).map f).map g=(pre++(ay m).map f).map g++[g (f m)]:=by rw[uQ];simp
def zB{α:Type}(P:Hp->af->α->Prop)(F H F' H':Hp)(l:af)(xs:List α):Prop:=en F H F' H'/\F' l=none/\∃as:List af,H' l=some (.lst (as.map V.ref))/\cg (P F') as xs
theorem zB.nil{α:Type}{P:Hp->af->α->Prop}{F H H':Hp}{l:af}(s:aq F H)(n:H l=none)(e:H' l=some (.lst []))(q:aq H H'):zB P F H F H' l []:=#[iA,en.same s q,s.free n,[],e,.nil]
def zB.call{α:Type}{P:Hp->af->α->Prop}(m:HQ P){F H F1 H1 F2 H2:Hp}{l:af}{xs:List α}(g:zB P F H F1 H1 l xs)(c:en F1 H1 F2 H2):zB P F H F2 H2 l xs:=by rintro g1 g2 as g3 g4:vW g;show #[iA,g1.trans c,c.nw l _ g3 g2,as,c.hh _ _ g3,bF (λa b q=>m _ _ _ _ c.ff q) g4]
def zB.same{α:Type}{P:Hp->af->α->Prop}{F H F1 H1 H2:Hp}{l:af}{xs:List α}(g:zB P F H F1 H1 l xs)(c:aq H1 H2):zB P F H F1 H2 l xs:=by rintro g1 g2 as g3 g4:vW g;show #[iA,g1.more c,g2,as,c _ _ g3,g4]
def zB.add{α:Type}{P:Hp->af->α->Prop}{F H F1 H1 H2:Hp}{l b:af}{xs:List α}{x:α}{ys:List V}(n:H l=none)(g:zB P F H F1 H1 l xs)(hb:P F1 b x)(e:H1 l=some (.lst ys))(e2:H2 l=some (.lst (ys++[.ref b])))(k:eA H1 H2 l):zB P F H F1 H2 l (xs++[x]):=by rintro g1 g2 as g3 g4:vW g;rw[e] at g3;cases g3;show #[iA,g1.keep k n g2,g2,as++[b],by rw[e2,o5],jM hb g4]
def zB.ext{α:Type}{P:Hp->af->α->Prop}(m:HQ P){F H F1 H1 H2:Hp}{l m':af}{xs zs:List α}{ys us:List V}(n:H l=none)(g:zB P F H F1 H1 l xs)(hb:dA P F1 m' zs)(e:H1 l=some (.lst ys))(em:H1 m'=some (.lst us))(e2:H2 l=some (.lst (ys++us)))(k:eA H1 H2 l):zB P F H F1 H2 l (xs++zs):=by rintro g1 g2 as g3 g4:vW g;rintro bs b1 b2:bM hb;rw[e] at g3;rw[g1.fh _ _ b1] at em;cases g3;cases em;show #[iA,g1.keep k n g2,g2,as++bs,by rw[e2,aj],lW g4 b2]
def zB.done{α:Type}{P:Hp->af->α->Prop}(m:HQ P){F H F1 H1:Hp}{l:af}{xs:List α}(n:H l=none)(g:zB P F H F1 H1 l xs):∃F2,en F H F2 H1/\dA P F2 l xs:=by rintro g1 g2 as g3 g4:vW g;show #[ia,_,g1.add g3 n g2,#[ia,as,aT,bF (λa b q=>m _ _ _ _ (cq g2) q) g4]]
def zB.len{α:Type}{P:Hp->af->α->Prop}{F H F1 H1:Hp}{l:af}{xs:List α}(g:zB P F H F1 H1 l xs):∃ys:List V,H1 l=some (.lst ys)/\ys.length=xs.length:=by rintro g1 g2 as g3 g4:vW g;show #[ia,_,g3,by rw[ab];show g4.length]
section
variable{P:aS}{w:bL}{K:ad}{mg:Str->Option ag}{base:cE}{A:dW}{f:af}{fd:b_}
abbrev Ak:cK:=top 16
def DV:aU ["run","minutes","found","first","later"] ["run","minutes"] (aG Ak):=jy
def D3(A:dW):Sp:=λvs H Q _=>∃(ra ma:af)(F:Hp)(W:ah)(t:ax)(j d:Nat),vs=[.ref ra,.ref ma]/\aq F H/\n8 A F ra W t d/\F ma=some (.lst (ly W.table.mins))/\W.table.mins.length=6/\cI W j=some t/\qW t/\
 ∀l F' H',en F H F' H'->dA (eG A W) F' l ((DE j d t.stops.length).map (oG W t))->Q (.ref l) H'
def Oa(F:i9 K "rides_of" "rides_of" Ak f fd)(T:eX K mg A)(Po:MY P w K mg base 1 "Ride" A.mw ["self","run","first","later","minutes"] (vk A)):cQ P w K mg base gW 3 f fd ["run","minutes"] (D3 A):=by
 exists F,DV;rintro ra ma F W t j d rfl s0 hra hma h6 hj ok k:EN 6 Ix 5 Cz h;have hu:=fJ hr;have nd:=DV.nd;have lw:=ok.lw;show #[ia,_,(ae (sv 2 nd (bI jf)) (ae (fR bj rfl (yi rfl T.uf (eM (xb T.fb (vC (du 0))))) (gv 3 nd) (bA (fR bj rfl (JN rfl T.uf (mz (fB iI (pv 3) aw) (xb T.fb (vC (du 0))))) (gv 4 nd) (bA (dN (Mx (pv 2) (tu Po hr (dS (pv 0) (qu (pv 3) (pv 4) (pv 1)))))))))) (kY (pv 2)))),?_];dsimp only[dj];exists jw λl H1 hl Pa e1=>?_;have s1:=s0.trans e1;exists rG ‹_› s1 ?_;left;let n:=t.stops.length;show L4 (λi σ H'=>∃(u v:Option V)(F':Hp),σ=[some (.ref ra),some (.ref ma),some (.ref l),u,v]/\zB (eG A W) F H F' H' l (((ay i).flatMap λi=>DD j d n i).map (oG W t)))
  (by omega) (by omega) #[ir,none,none,#[ia,F,rfl,zB.nil s0 hl Pa e1]] ?_ ?_
 .rintro i σ H' hi cG;rintro u v F' rfl g:N2 cG;have hi':i<n:=by simpa using hi
  have s2:aq F H':=g.1.fH;left;rw[j1 (show (0:Int)+(i:Nat)+1=((i+1:Nat):Int) by omega)];show rG ‹_› s2 ?_;left;let pre:=((ay i).flatMap λi=>DD j d n i);show WS (λm σ H'=>∃(v:Option V)(F':Hp),σ=[some (.ref ra),some (.ref ma),some (.ref l),some (iv i),v]/\zB (eG A W) F H F' H' l ((pre++(ay m).map λm=>({ trip:=j,day:=d,i:=i,j:=i+1+m }:dP)).map (oG W t)))
   (by omega) (by omega) (by omega) (by omega) #[im,v,F',by rw[j1 (show (0:Int)+(i:Nat)=((i:Nat):Int) by omega)];rfl,by simpa [pre] using g] ?_ ?_
  .rintro m σ H2 hm cG;rintro v F2 rfl g2:rE cG;have hm':i+1+m<t.stops.length:=by omega
   have s3:aq F H2:=g2.1.fH;rintro ys hy hyl:bM g2.len;left;rw[j1 (show ((i+1:Nat):Int)+(m:Nat)=((i+1+m:Nat):Int) by omega)];show jm (cf.of hy) ?_;exists pY λx dx H3 h1 h2 h3=>?_;have ff:=g2.1.ff;have lok:Fg W t (oG W t { trip:=j,day:=d,i:=i,j:=i+1+m }):=#[ip,hj,Cw hj,by change i<i+1+m;omega,hm',yg ok (by change i<_;omega),yg ok hm'];show #[iw,x,dx,ra,ma,F2,W,t,oG W t { trip:=j,day:=d,i:=i,j:=i+1+m },#[iu,rfl,h2,g2.1.fh.trans h3,g2.1.fh.free h1,n8.mono ff hra,ff _ _ hma,#[ic,h6,lok,λF3 H4 gx hR=>⟨rfl,?_⟩]]];have g3:=g2.call eG.mono (gx.made h1 h3);rintro zs hz UR:bM g3.len;exists fL (T:="list") rfl hz ?_ λH5 h5 k5=>?_;.rw[UR,ab,ap,ab,bQ];have:=dH (l:=ay i) (f:=λi=>DD j d n i) (c:=n) λx _=>JG ..;rw[bQ] at this;have h55:i*n<=5*5:=ZZ (by omega) lw;have:pre.length<=25:=aE this h55;unfold sizeLine;omega
   exists #[im,some (iv (i+1+m)),F3,rfl,?_];have g4:=g3.add hl hR hz h5 k5;rw[WD];show g4
  .rintro σ H2 cG;rintro v F2 rfl g2:rE cG;show #[ir,some (iv i),v,#[ia,F2,rfl,?_]];rw[mF];have e:((t.stops.length:Int) - ((i+1:Nat):Int)).toNat=n - (i+1):=by change _=t.stops.length - (i+1);omega
   rw[e] at g2;show g2
 .rintro σ H' cG;rintro u v F' rfl g:N2 cG;left;rintro F2 g1 g2:bM<|g.done eG.mono hl;show k l F2 H' g1 (by simpa [DE,n] using g2)
abbrev xr:cK:=top 15
def Bn:aU ["state","found","trip","day"] ["state"] (aG xr):=jy
def mS(A:dW):Sp:=λvs H Q _=>∃(s:af)(F:Hp)(S:aO),vs=[.ref s]/\aq F H/\gN A F s S/\ED S.world.table/\
 ∀l F' H',en F H F' H'->dA (eG A S.world) F' l (eh S.world)->Q (.ref l) H'
def Lz(F:i9 K "all_rides" "all_rides" xr f fd)(T:eX K mg A)(jO:fP P w K mg base 2 "does_run" ["state","trip","day"] (qJ A))(sI:fP P w K mg base 4 "run_of" ["state","trip","day"] (CW A))(zx:fP P w K mg base 3 "rides_of" ["run","minutes"] (D3 A)):cQ P w K mg base gW 5 f fd ["state"] (mS A):=by
 exists F,Bn;rintro s F S rfl s0 hs ok k:rD 5 lB h;have hu:=fJ hr;have nd:=Bn.nd;show #[ia,_,(ae (sv 1 nd (bI jf)) (ae (fR bj rfl (dM (vC (du 0))) (gv 2 nd) (bA (fR bj rfl (yi rfl T.uf (eM (fB iI (bG T.nE) aw))) (gv 3 nd) (bA (kG (fF (bC jO hr (qu (pv 0) (pv 2) (pv 3)))) (bA (dN (exE (pv 1) (bC zx hr (mz (bC sI hr (qu (pv 0) (pv 2) (pv 3))) (vC (du 0))))))) fU))))) (kY (pv 1)))),?_];dsimp only[dj];exists jw λl H1 hl Pa e1=>?_;have s1:=s0.trans e1;exists oP (λi σ H'=>∃(u v:Option V)(F':Hp),σ=[some (.ref s),some (.ref l),u,v]/\zB (eG A S.world) F H F' H' l ((ay i).flatMap λk=>pZ S.world k))
  ‹_› #[ir,none,none,#[ia,F,rfl,zB.nil s0 hl Pa e1]] (λi σ H' h=>by rintro u v F' _ g:N2 h;show g.1.fH) ?_ ?_
 .rintro i t b σ H' hi hb cG;rintro u v F' rfl g:N2 cG;have s2:aq F H':=g.1.fH;have hm:=gl (W:=S.world) hi;have XV:=ok.ok t hm;left;have hK:pZ S.world i=(ay 14).flatMap λd=>nJ S.world i t d:=by
   unfold pZ;rw[show cI S.world i=some t from hi]
  show L4 (λd σ H'=>∃(v:Option V)(F':Hp),σ=[some (.ref s),some (.ref l),some (.ref b),v]/\zB (eG A S.world) F H F' H' l (((ay i).flatMap λk=>pZ S.world k)++(ay d).flatMap λd=>nJ S.world i t d))
   (by omega) (by omega) #[im,v,F',rfl,by simpa using g] ?_ ?_
  .rintro d σ H2 hd cG;rintro v F2 rfl g2:rE cG;have s3:aq F H2:=g2.1.fH;left;rw[j1 (show (0:Int)+(d:Nat)=((d:Nat):Int) by omega)];show #[ig,s,b,S,t,d,#[ij,rfl,gN.mono s3 hs,gh.mono s3 hb,λH3 e3=>?_]];have g3:=g2.same e3;left;have eD:lE S.world t (d:Int)=c9 S.world t d:=by unfold lE;simp
   rw[eD];show oh (λh1=>?_) (λh1=>?_)<;>left
   .rintro ys hy hyl:bM g3.len;show jm (cf.of hy) ?_;exists #[iy,s,b,F2,S,#[ik,t,d,rfl,g3.1.fh,gN.mono g3.1.ff hs,gh.mono g3.1.ff hb,#[ic,hm,XV.lw,λx F4 H4 g4 RY=>?_]]];have hR:=RY.at_;have g5:=g3.call eG.mono g4;have s5:aq F H4:=g5.1.fH;left;rename_i ta XQ ma hma;show #[ig,x,ma,F4,S.world,t,#[ik,i,d,rfl,g5.1.fh,hR,g5.1.ff _ _ hma,#[ij,ok.mins,hi,XV,λl2 F6 H6 g6 hL=>?_]]];have g7:=g5.call eG.mono g6;rintro zs hz UR:bM g7.len;rintro as ha UM:bM hL;have hlen:=UM.length;exists Bi (l:=l) (T:="list") hz (g7.1.fh _ _ ha) ?_ λH8 h8 k8=>?_
    .rw[UR,ab,hlen,ap,ab];have b1:=dH (l:=ay i) (f:=λk=>pZ S.world k) (c:=350) λx _=>GH ok x;have b2:=dH (l:=ay d) (f:=λd=>nJ S.world i t d) (c:=25) λx _=>GG XV;have b3:=JH (k:=i) (d:=d) XV.lw;have b4:=(ai.mp hi).1;have b5:=ok.six;have b6:d<14:=by simpa using hd
     rw[bQ] at b1 b2;unfold sizeLine;omega
    exists #[im,some (iv d),F6,rfl,?_];have g9:=g7.ext eG.mono hl #[ia,as,ha,UM] hz (g7.1.fh _ _ ha) h8 k8;rw[mF,<-et,show nJ S.world i t d=(DE i d t.stops.length).map (oG S.world t) by unfold nJ;rw[if_pos h1]];show g9
   .show #[im,some (iv d),F2,rfl,?_];rw[mF,show nJ S.world i t d=[] by unfold nJ;rw[if_neg (by rw[h1];decide)],b9];show g3
  .rintro σ H2 cG;rintro v F2 rfl g2:rE cG;show #[ir,some (.ref b),v,#[ia,F2,rfl,?_]];rw[mF,hK];show g2
 .rintro σ H' cG;rintro u v F' rfl g:N2 cG;left;rintro F2 g1 g2:bM<|g.done eG.mono hl;rw[<-GJ] at g2;show k l F2 H' g1 g2
abbrev rR:cK:=top 17
def xR:aU ["state","ride"] ["state"] (aG rR):=jy
def qg(A:dW):Sp:=λvs H Q _=>∃(s:af)(F:Hp)(S:aO),vs=[.ref s]/\aq F H/\gN A F s S/\ED S.world.table/\
 ∀l F' H',en F H F' H'->dA (eG A S.world) F' l (dF S)->Q (.ref l) H'
def Gn(F:i9 K "rides_to_go" "rides_to_go" rR f fd)(T:eX K mg A)(gd:fP P w K mg base 5 "all_rides" ["state"] (mS A)):cQ P w K mg base gW 6 f fd ["state"] (qg A):=by
 exists F,xR;rintro s F S rfl s0 hs ok k:rD 5 lB h;have hu:=fJ hr;have nd:=xR.nd;show #[ia,_,(kY (og rfl nd (dM (bC gd hr (eM (pv 0)))) (fe (own:=[("ride",1)]) (by kernel_rfl)) (λ_ _ _ _ _=>(gv 1 nd)) (λ_ _ _ _ _=>(Bh (kq am1 (jU (K:=K) (pv 1) rfl) (jU (K:=K) (pv 0) rfl)))) (λ_ _ _ _ _=>(pv 1)))),?_];dsimp only[dj];exists #[ii,s,F,S,rfl,s0,#[ic,hs,ok,λl F1 H1 g1 hL=>?_]];left;have s1:=g1.fh;show DN (λz i H'=>zB (eG A S.world) F1 H1 F1 H' z (((eh S.world).take i).filter λr=>match cI S.world r.leg.trip with
  |none=>false
  |some t=>decide (S.now<=bE S.world t r.leg.day r.leg.i))) hL s1 (λz H' h1 h2 h3=>zB.nil s1 h1 h2 h3) (λz i H' h1 h2=>h2.1.fH) ?_ ?_
 .rintro z i r b H' hz hi hb g;rintro t ok' Tr:bM hb;have s2:=g.1.fH;have s3:aq F H':=g1.ff.trans s2;have lr:=(ai.mp hi).1;have Tx:=tz ok;have htk:(((eh S.world).take (i+1)).filter λr=>match cI S.world r.leg.trip with
  |none=>false
  |some t=>decide (S.now<=bE S.world t r.leg.day r.leg.i))=(((eh S.world).take i).filter λr=>match cI S.world r.leg.trip with
  |none=>false
  |some t=>decide (S.now<=bE S.world t r.leg.day r.leg.i))++if S.now<=bE S.world t r.leg.day r.leg.i then [r] else []:=by
   rw[bR hi,cr];congr 1;rw[cz,eN,ok'.1];by_cases z:S.now<=bE S.world t r.leg.day r.leg.i;.rw[if_pos z,if_pos (decide_eq_true z)]
   .rw[if_neg z,if_neg (by change ¬(decide (S.now<=bE S.world t r.leg.day r.leg.i))=true;rw[decide_eq_false z];decide)]
  rw[htk];exists cY (λh1=>?_) (λh1=>?_)<;>left
  .rintro ys hy hyl:bM g.len;rw[if_pos (by omega)];show jv hy ?_ λH2 h2 k2=>?_
   .rw[hyl];have b1:=bK (λr=>match cI S.world r.leg.trip with
     |none=>false
     |some t=>decide (S.now<=bE S.world t r.leg.day r.leg.i)) ((eh S.world).take i)
    rw[aM] at b1;unfold sizeLine;omega
   .show g.add hz #[ia,t,ok',Tr] hy h2 k2
  .rw[if_neg (by omega),b9];show g
 .rintro z H' hz g;rw[aK] at g;rintro F2 g2 g3:bM<|g.done eG.mono hz;show k z F2 H' (g1.trans g2) g3
abbrev vh:cK:=top 18
def y6:aU ["rides","told","ride"] ["rides"] (aG vh):=jy
def mK(W:ah)(g:dP):(bX W g).length<=6:=by unfold bX;split<;>simp
def cN(l:List Int):List V:=l.map V.int
def rY(A:dW):Sp:=λvs H Q _=>∃(l:af)(F:Hp)(W:ah)(rs:List bZ),vs=[.ref l]/\aq F H/\dA (eG A W) F l rs/\rs.length<=100000/\
 ∀p H',H p=none->H' p=some (.lst (cN (rs.flatMap λr=>bX W r.leg)))->aq H H'->Q (.ref p) H'
def IR(F:i9 K "tell_rides" "tell_rides" vh f fd)(T:eX K mg A):cQ P w K mg base gW 1 f fd ["rides"] (rY A):=by
 exists F,y6;rintro l F W rs rfl s0 hL hn k:xf 5 Cz h;have hu:=fJ hr;have nd:=y6.nd;show #[ia,_,(ae (sv 1 nd (bI jf)) (ae (fR bj rfl (dM (pv 0)) (gv 2 nd) (bA (dN (exE (pv 1) (bI (dS (vC (vC (du 2))) (dS (vC (du 2)) (dS (du 2) (qu (du 2) (du 2) (du 2)))))))))) (kY (pv 1)))),?_];dsimp only[dj];exists jw λp H1 hp Ay e1=>?_;exists oP (λi σ H'=>∃(u:Option V),σ=[some (.ref l),some (.ref p),u]/\aq H H'/\H' p=some (.lst (cN ((rs.take i).flatMap λr=>bX W r.leg)))) hL #[ie,none,rfl,e1,Ay] (λi σ H' h=>by rintro u _ e _:gF h;show s0.trans e) ?_ ?_
 .rintro i r b σ H' hi cG j';rintro t ok' hb:bM cG;rintro u rfl e2 e3:gF j';have s2:=s0.trans e2;exists jm (cf.of e3) ?_;exists WT (by simp[sizeLine]) λq H2 hq UO e4=>?_;left;have lr:=(ai.mp hi).1;show Bi (l:=p) (T:="list") (e4 _ _ e3) UO ?_ λH3 h3 k3=>?_;.have:=dH (l:=rs.take i) (f:=λr=>bX W r.leg) (c:=6) λx _=>mK W x.leg;rw[aM] at this;unfold cN;rw[ab];change _+6<=_;unfold sizeLine;omega
  exists #[ie,some (.ref b),rfl,aB (e2.trans e4) k3 hp,?_];rw[h3,bR hi,f8];unfold cN;rw[aj];simp only[js,List.flatMap_nil,b9];unfold bX;rw[ok'.1];rfl
 .rintro σ H' cG;rintro u rfl e2 e3:gF cG;left;rw[aK] at e3;show k p H' hp e3 e2
end
def E'(A:dW)(W:ah)(F:Hp)(v:Option V)(x:cn):Prop:=match x with
 |none=>v=none
 |some y=>∃a,v=some (.ref a)/\j9 A F a W y
theorem E'.mono{A:dW}{W:ah}{F F':Hp}{v:Option V}{x:cn}(s:aq F F')(h:E' A W F v x):E' A W F' v x:=by
 cases x with
 |none=>show h
 |some y=>rintro a e k:bM h;show #[ia,a,e,j9.mono s k]
def KD(A:dW)(W:ah)(n:Nat)(F:Hp)(d:af)(ls:List cn):Prop:=ls.length=6/\∃aQ:List (ez×V),F d=some (.dK aQ)/\aQ.length<=n/\∀o:Nat,o<6->E' A W F (dy aQ (.inl (o:Int))) (ls[o]?).join
theorem KD.mono{A:dW}{W:ah}{n:Nat}:HQ (KD A W n):=λ_ _ _ _ s cG=>EQ cG λh0 aQ h1 w'=>fo w' λh2 h3=>#[io,h0,aQ,s _ _ h1,⟨h2,λo ho=>(h3 o ho).mono s⟩]
def S1(A:dW)(W:ah)(F:Hp)(aQ:List (ez×V))(ls new:List cn):Prop:=∀o:Nat,o<6->
 (dy aQ (.inl (o:Int))=none/\(new[o]?).join=(ls[o]?).join)\/∃a y,dy aQ (.inl (o:Int))=some (.ref a)/\(new[o]?).join=some y/\j9 A F a W y
theorem S1.mono{A:dW}{W:ah}{F F':Hp}{aQ:List (ez×V)}{ls new:List cn}(s:aq F F')(h:S1 A W F aQ ls new):S1 A W F' aQ ls new:=λo ho=>(h o ho).imp id λ⟨a,y,h1,h2,h3⟩=>#[ib,a,y,h1,h2,j9.mono s h3]
section
variable{P:aS}{w:bL}{K:ad}{mg:Str->Option ag}{base:cE}{A:dW}{f:af}{fd:b_}
abbrev uT:cK:=lK (top 21) 0
def yS:aU ["self","ready","rides"] ["self","ready","rides"] (aG uT):=jy
def nX(A:dW):Sp:=λvs H Q _=>∃(x dx l:af)(F:Hp)(n:Nat),vs=[.ref x,iv n,.ref l]/\H x=some (.ins A.known dx [])/\aq F H/\F x=none/\
 ∀H',H' x=some (.ins A.known dx [("ready",iv n),("rides",.ref l)])->eA H H' x->Q .non H'
def Iz(F:i9 K "__init__" "Known.__init__" uT f fd)(T:eX K mg A):cQ P w K mg base gW 1 f fd ["self","ready","rides"] (nX A):=by exists F,yS;rintro x dx l F n rfl hx s0 n0 k:DL h;have hu:=fJ hr;have nd:=yS.nd;show #[ia,_,(ae (cF (pv 0) (pv 1) rfl) (bA (cF (pv 0) (pv 2) rfl))),?_];dsimp only[dj];exists dL hx T.known λH1 h1 k1=>?_;exists dL h1 T.known λH2 h2 k2=>?_;show k H2 h2 (cZ k1 k2)
abbrev Ah:cK:=top 22
def DT:aU ["rides","before","found","ride","here","there"] ["rides","before"] (aG Ah):=jy
def D0(A:dW):Sp:=λvs H Q _=>∃(rl bd:af)(F:Hp)(W:ah)(rs:List bZ)(ls:List cn)(n:Nat),vs=[.ref rl,.ref bd]/\aq F H/\dA (eG A W) F rl rs/\rs.length<=3000/\KD A W n F bd ls/\vx 100 ls/\
 ∀d aQ F' H',en F H F' H'->F' d=some (.dK aQ)->aQ.length<=rs.length->(aQ.map (·.1)).Nodup->S1 A W F' aQ ls (Kj rs ls)->Q (.ref d) H'
def N9(F:i9 K "go_round" "go_round" Ah f fd)(T:eX K mg A)(Kl:MY P w K mg base 1 "Known" A.known ["self","ready","rides"] (nX A)):cQ P w K mg base gW 3 f fd ["rides","before"] (D0 A):=by
 exists F,DT;rintro rl bd F W rs ls n rfl s0 hL hn hK hsh k:EN 6 Ix 5 lB h;have hu:=fJ hr;have nd:=DT.nd;rintro l6 bk NG UJ hb3:EQ 3 fo hK;show #[ia,_,(ae (sv 2 nd Oh) (ae (fR bj rfl (dM (pv 0)) (gv 3 nd) (ae (sv 4 nd (pW hu (pv 1) (du 3) ⟨rfl,rfl,rfl,rfl⟩)) (bA (kG (PW.pt (kI (fq (uN (pv 4))) (lp (kq jL (du 4) (du 3))))) (ae (sv 5 nd (Gr hu (pv 2) (du 3) (pW hu (pv 1) (du 3) ⟨rfl,rfl,rfl,rfl⟩) ⟨rfl,rfl,rfl,rfl⟩)) (bA (kG (PW.pt (kf (fq (jg (pv 5))) (jh (kq qH (du 3) (du 5))))) (bA (yj hu (pv 2) (du 3) (tu Kl hr (mz (du 3) (fB CD (du 4) (bI (eM (pv 3)))))) rfl)) fU))) fU)))) (kY (pv 2)))),?_];dsimp only[dj];exists WN λd H1 hd R3 e1=>?_;exists oP (λi σ H'=>∃(u v z:Option V)(F':Hp)(aQ:List (ez×V)),σ=[some (.ref rl),some (.ref bd),some (.ref d),u,v,z]/\en F H F' H'/\F' d=none/\H' d=some (.dK aQ)/\aQ.length<=i/\(aQ.map (·.1)).Nodup/\S1 A W F' aQ ls ((rs.take i).foldl (cO ls) ls))
  hL #[ig,none,none,none,F,[],#[iu,rfl,en.same s0 e1,s0.free hd,R3,aA _,X5,λo ho=>.inl ⟨rfl,rfl⟩]] (λi σ H' h=>by rintro u v z F' aQ _ g _:Wu 6 fo h;show g.fH) ?_ ?_
 .rintro i r b σ H' hi cG j';rintro t ok hb:bM cG;rintro u v z F' aQ rfl g nd' Mz hle R6 hF:DL 9 lB j';have s2:aq F H':=g.fH;have lr:=(ai.mp hi).1;have NI:=ok.2.2.2.2.1;have hto:=ok.2.2.2.2.2;rw[bR hi,BS];let new:=(rs.take i).foldl (cO ls) ls;have Qc:(rs.take i).foldl (cO ls) ls=new:=rfl;rw[Qc] at hF ⊢;have l6':new.length=6:=by rw[<-l6];show FD ls _ _
  change OI _ _ _ _ _;left;have same:∀(u v z:Option V)H2,aq H' H2->cO ls new r=new->∃(u' v' z':Option V)(F':Hp)(aQ:List (ez×V)),[some (V.ref rl),some (V.ref bd),some (V.ref d),u,v,z]=[some (.ref rl),some (.ref bd),some (.ref d),u',v',z']/\en F H F' H2/\F' d=none/\H2 d=some (.dK aQ)/\aQ.length<=i+1/\(aQ.map (·.1)).Nodup/\S1 A W F' aQ ls (cO ls new r):=λu v z H2 e2 e=>#[ig,u,v,z,F',aQ,#[iu,rfl,g.more e2,nd',e2 _ _ Mz,by omega,R6,by rw[e];show hF]];show GB (DA (s2 _ _ NG)) ?_;exists Ab (s2 _ _ NG) ?_;have hL1:=hb3 _ NI
  cases ex:(ls[r.from_]?).join with
  |none=>rw[ex] at hL1;rw[show dy bk (.inl (r.from_:Int))=none from hL1,iO];exists same _ _ _ H' (aq.refl _) (by unfold cO;rw[ex])
  |some x=>
   rw[ex] at hL1;rintro ha hva hKa:bM hL1;rw[hva,lg];exists cY (λh1=>?_) (λh1=>?_)
   .left;have hby:¬r.by_<(x.1:Int):=by omega
    show WQ (DA Mz) ?_;exists GB (DA (s2 _ _ NG)) ?_;exists Ab (s2 _ _ NG) ?_;exists Ab Mz ?_;have hL2:=hb3 _ hto;have aef:∀(zz:Option V),(∀y,(new[r.to_]?).join=some y->r.ready<y.1)->SF (rZ 2) (Et K (rZ 3) (bo "goal"))
     (G9 A.known (nX A) [] E0
      (mn (Et K (rZ 3) (bo "ready"))
       (mn (Ub afw (Et K (rZ 4) (bo "rides")) (ZP (mn (rZ 3) vY)))
        vY))) { nx:=λσ H'=>∃(u v z:Option V)(F':Hp)(aQ:List (ez×V)),σ=[some (.ref rl),some (.ref bd),some (.ref d),u,v,z]/\en F H F' H'/\F' d=none/\H' d=some (.dK aQ)/\aQ.length<=i+1/\(aQ.map (·.1)).Nodup/\S1 A W F' aQ ls (cO ls new r),rt:=Q,bk:=Rh (rZ 2) { nx:=λx H'=>Q V.non H',rt:=Q },ct:=λσ H'=>∃(u v z:Option V)(F':Hp)(aQ:List (ez×V)),σ=[some (.ref rl),some (.ref bd),some (.ref d),u,v,z]/\en F H F' H'/\F' d=none/\H' d=some (.dK aQ)/\aQ.length<=i+1/\(aQ.map (·.1)).Nodup/\S1 A W F' aQ ls (cO ls new r) }
     [some (V.ref rl),some (V.ref bd),some (V.ref d),some (V.ref b),some (V.ref ha),zz] H':=by
     intro zz alg;left;rename_i la Pb;rintro lrs ⟨as,atu,ale⟩ sZ:bM Pb;show jw λq H2 hq UO e2=>?_;show JR (e2 _ _ (s2 _ _ atu)) UO ?_ λp H3 hp yO e3=>?_;.rw[ab,ale.length,<-ab (f:=(·.leg)),sZ];have:=hsh _ _ ex;change _+1<=sizeLine;unfold sizeLine;omega
     exists pY λx2 dx2 H4 My BQ Yz=>?_;have gA:=((g.more e2).more e3);have Qe:H p=none:=(g.more e2).hh.free hp;have MC:F' p=none:=(g.more e2).fh.free hp;have gB:=gA.add yO Qe MC;have YY:(upd F' p (HO.lst (as.map V.ref++[V.ref b]))) x2=none:=gB.fh.free My;show #[ig,x2,dx2,p,_,r.ready,#[iq,rfl,BQ,gB.fh.trans Yz,YY,λH5 h5 k5=>⟨rfl,?_⟩]];have hxH:H x2=none:=gB.hh.free My;have gC:en F H (upd F' p (HO.lst (as.map V.ref++[V.ref b]))) H5:=⟨gB.ff,aB (gB.fh.trans Yz) k5 YY,aB (gB.hh.trans Yz) k5 hxH,gB.nw⟩;have gD:=gC.add h5 hxH YY;have hdp:d≠p:=aI (e2 _ _ Mz) hp;have hdx:d≠x2:=aI (e3 _ _ (e2 _ _ Mz)) My;have hpx:p≠x2:=aI yO My;have hd5:H5 d=some (.dK aQ):=k5 _ _ (Yz _ _ (e3 _ _ (e2 _ _ Mz))) hdx;have s5:aq F H5:=gD.fH;exists Oq hd5 (by unfold sizeLine;omega) λH6 h6 k6=>?_;have ndD:(upd (upd F' p (HO.lst (as.map V.ref++[V.ref b]))) x2 (.ins A.known dx2 [("ready",iv r.ready),("rides",.ref p)])) d=none:=by rw[aR hdx,aR hdp];show nd'
     show #[ig,some (.ref b),some (.ref ha),zz,_,_,#[iu,rfl,gD.keep k6 hd ndD,ndD,h6,aE (jK ..) (by omega),afe _ _ _ R6,?_]];have ff2:aq F' (upd (upd F' p (HO.lst (as.map V.ref++[V.ref b]))) x2 (.ins A.known dx2 [("ready",iv r.ready),("rides",.ref p)])):=(cq MC).trans (cq YY);have ffp:aq (upd F' p (HO.lst (as.map V.ref++[V.ref b]))) (upd (upd F' p (HO.lst (as.map V.ref++[V.ref b]))) x2 (.ins A.known dx2 [("ready",iv r.ready),("rides",.ref p)])):=cq YY;have art:cO ls new r=new.set r.to_ (some (r.ready,x.2++[r.leg])):=by
      unfold cO;rw[ex];change (if r.by_<(x.1:Int) then _ else _)=_;rw[if_neg hby];cases ey:(new[r.to_]?).join with
      |none=>rfl
      |some y=>change (if r.ready<y.1 then _ else _)=_;rw[if_pos (alg y ey)]
     rw[art];intro o ho;rw[kM,qf (by omega)];by_cases hoo:o=r.to_
     .subst hoo;rw[if_pos rfl,if_pos rfl];show .inr #[ib,x2,_,rfl,rfl,#[im,dx2,p,aT,#[ia,lrs++[r],#[ia,as++[b],?_,?_],?_]]];.rw[aR hpx,aT,o5]
      .show jM #[ia,t,ok,zE.mono (g.ff.trans ff2) hb] (bF (λa c q=>eG.mono _ _ _ _ (g.ff.trans ff2) q) ale)
      .rw[aj,sZ];rfl
     .rw[if_neg hoo,if_neg (by simp;omega)];show S1.mono ff2 hF o ho
    have aak:ST (cO ls) new [r]=cO ls new r:=rfl;rcases hF _ hto with⟨f1,f2⟩|⟨a2,y,f1,f2,f3⟩
    .rw[f1,iO];cases ey:(ls[r.to_]?).join with
     |none=>rw[ey] at hL2;rw[show dy bk (.inl (r.to_:Int))=none from hL2,iO];walk_at "rdp";show aef _ λy hy=>by rw[f2,ey] at hy;cases hy
     |some y=>
      rw[ey] at hL2;rintro a2 hv2 hK2:bM hL2;rw[hv2,lg];exists cY (λh3=>?_) (λh3=>?_);.walk_at "rdp";show aef _ λy' hy=>by rw[f2,ey] at hy;cases hy;omega
      .exists same _ _ _ H' (aq.refl _) ?_;unfold cO;rw[ex];change (if r.by_<(x.1:Int) then _ else _)=_;rw[if_neg hby,f2,ey];change (if r.ready<y.1 then _ else _)=_;rw[if_neg (by omega)]
    .rw[f1,lg];have s3:=g.fh;exists cY (λh3=>?_) (λh3=>?_);.walk_at "rdp";show aef _ λy' hy=>by rw[f2] at hy;cases hy;omega
     .exists same _ _ _ H' (aq.refl _) ?_;unfold cO;rw[ex];change (if r.by_<(x.1:Int) then _ else _)=_;rw[if_neg hby,f2];change (if r.ready<y.1 then _ else _)=_;rw[if_neg (by omega)]
   .exists same _ _ _ H' (aq.refl _) (by unfold cO;rw[ex];change (if r.by_<(x.1:Int) then _ else _)=_;rw[if_pos (by omega)])
 .rintro σ H' cG;rintro u v z F' aQ rfl g nd' Mz hle R6 hF:DL 9 lB cG;left;rw[aK] at hF;show k d aQ _ H' (g.add Mz hd nd') aT hle R6 ?_;show S1.mono (cq nd') hF
end
end TT
section
local macro_rules|`(tactic| walk_at "rd1")=>`(tactic| with_reducible refine abn ?_)
namespace TT
def KD.more{A:dW}{W:ah}{n m:Nat}{F:Hp}{d:af}{ls:List cn}(h:KD A W n F d ls)(hn:n<=m):KD A W m F d ls:=by rintro h0 aQ h1 h2 h3:EQ 3 fo h;show #[io,h0,aQ,h1,⟨by omega,h3⟩]
def KD.upd{A:dW}{W:ah}{m:Nat}{F F':Hp}{d':af}{ls new:List cn}{aQ more:List (ez×V)}(h0:ls.length=6)(h1:∀o:Nat,o<6->E' A W F (dy aQ (.inl (o:Int))) (ls[o]?).join)(hf:S1 A W F more ls new)(hl:new.length=6)(R6:(more.map (·.1)).Nodup)
 (s:aq F F') (e:F' d'=some (.dK (i0 aQ more))) (hm:aQ.length+more.length<=m):KD A W m F' d' new:=by
 show #[io,hl,_,e,⟨aE (lG ..) hm,λo ho=>?_⟩];rw[Hf R6];rcases hf o ho with⟨f1,f2⟩|⟨a,y,f1,f2,f3⟩;.rw[f1,f2];show (h1 o ho).mono s
 .rw[f1,f2];show #[ia,a,rfl,j9.mono s f3]
def S1.none{A:dW}{W:ah}{F:Hp}{ls new:List cn}(h:S1 A W F [] ls new)(h0:ls.length=6)(h1:new.length=6):new=ls:=by
 apply r_;intro o;by_cases ho:o<6
 .rcases h o ho with⟨_,f2⟩|⟨a,y,f1,_⟩;.rw[bb (by omega),bb (by omega)] at f2 ⊢;show congrArg some f2
  .cases f1
 .rw[fu (by omega),fu (by omega)]
theorem KD.begin_{A:dW}{W:ah}{F:Hp}{d a:af}{o t:Nat}(ho:o<6)(e:F d=some (.dK [(.inl (o:Int),.ref a)]))(hk:j9 A F a W (t,[])):KD A W 1 F d (dY o t):=by
 show #[io,Jn o t,_,e,⟨aA _,λq hq=>?_⟩];unfold dY;rw[qf (by rw[gt];show ho)];by_cases h:q=o;.subst h;rw[if_pos rfl,i7 rfl];show #[ia,a,rfl,hk]
 .rw[if_neg h,i6 (by simp;omega)];rw[show ((fY mY (none:cn))[q]?).join=none from by
   rw[tU];split<;>rfl]
  rfl
section
variable{P:aS}{w:bL}{K:ad}{mg:Str->Option ag}{base:cE}{A:dW}{f:af}{fd:b_}
abbrev mP:cK:=top 23
def qc:aU ["rides","origin","ready","known","behind","count","found"] ["rides","origin","ready"] (aG mP):=jy
def l7(A:dW):Sp:=λvs H Q _=>∃(rl:af)(F:Hp)(W:ah)(rs:List bZ)(o t:Nat),vs=[.ref rl,iv o,iv t]/\aq F H/\dA (eG A W) F rl rs/\rs.length<=3000/\o<6/\
 ∀l m F' H',m<=5->en F H F' H'->dA (KD A W 20000) F' l ((ay (m+1)).map λi=>cB rs i (dY o t))->(m=5\/Kj rs (cB rs m (dY o t))=cB rs m (dY o t))->Q (.ref l) H'
def z8(F:i9 K "known_by_rounds" "known_by_rounds" mP f fd)(T:eX K mg A)(Kl:MY P w K mg base 1 "Known" A.known ["self","ready","rides"] (nX A))(zu:fP P w K mg base 3 "go_round" ["rides","before"] (D0 A)):cQ P w K mg base gW 4 f fd ["rides","origin","ready"] (l7 A):=by
 exists F,qc;rintro rl F W rs o t rfl s0 hL hn ho k:EN 6 Iw h;have hu:=fJ hr;have nd:=qc.nd;show #[ia,_,(ae (sv 3 nd (Sl (Oo (pv 1) (tu Kl hr (mz (pv 2) (bI jf))) Sr) rfl rfl (by decide) (by decide))) (ae (sv 4 nd (bI (eM (pv 3)))) (ae (fR bj rfl (yi rfl T.uf (eM (bG T.FJ))) (gv 5 nd) (ae (sv 6 nd (bC zu hr (mz (pv 0) (pv 3)))) (ae (kG (kq lI (i3 S7 rfl T.fb jD (eM (pv 6))) aw) (bA WF) fU) (ae (sv 3 nd (fK wA rfl T.KP ag7 (eM (pv 3)))) (ae (dN (Zn (pv 3) (pv 6) ⟨rfl,rfl,rfl,rfl⟩)) (bA (dN (Mx (pv 4) (pv 3))))))))) (kY (pv 4))))),?_];dsimp only[dj];exists Sv λkd H1 YI V0 e1=>?_;exists jw λl0 H2 hl0 ak9 e2=>?_;left;have g2:=(en.same s0 e1).more e2;have ak8:F kd=none:=s0.free YI;have ala:H l0=none:=e1.free hl0;have atq:F l0=none:=s0.free ala;have nkl:kd≠l0:=aI V0 hl0;show pY λx dx H3 My BQ Yz=>?_;have hxH:H x=none:=(e1.trans e2).free My;have YY:F x=none:=s0.free hxH;have Zf:kd≠x:=aI (e2 _ _ V0) My;have nlx:l0≠x:=aI ak9 My;show #[ig,x,dx,l0,F,t,#[iq,rfl,BQ,g2.fh.trans Yz,YY,λH4 h4 k4=>⟨rfl,?_⟩]];have g4:en F H F H4:=(g2.more Yz).keep k4 hxH YY;have atp:H4 kd=some (.dK []):=k4 _ _ (Yz _ _ (e2 _ _ V0)) Zf;have hl4:H4 l0=some (.lst []):=k4 _ _ (Yz _ _ ak9) nlx;show Os atp λH5 h5 k5=>?_;have g5:=g4.keep k5 YI ak8;have gA:=(g5.add (k5 _ _ hl4 nkl.symm) ala atq).add (k5 _ _ h4 Zf.symm) hxH (by rw[aR nlx.symm];show YY);have gB:=gA.add h5 YI (by rw[aR Zf,aR nkl];show ak8);exists jw λbl H6 O8 asv e6=>?_;left;let L0:=dY o t;have hbH:H bl=none:=gB.hh.free O8;have hK0:KD A W 1 (upd (upd (upd F l0 (HO.lst [])) x (.ins A.known dx [("ready",iv t),("rides",.ref l0)])) kd (.dK [(.inl (o:Int),.ref x)])) kd L0:=by
  show KD.begin_ ho aT #[im,dx,l0,?_,#[ia,[],#[ia,[],?_,.nil],rfl]];.rw[aR Zf.symm,aT];rfl
  .rw[aR nkl.symm,aR nlx,aT];rfl
 have hF6:(upd (upd (upd F l0 (HO.lst [])) x (.ins A.known dx [("ready",iv t),("rides",.ref l0)])) kd (.dK [(.inl (o:Int),.ref x)])) bl=none:=gB.fh.free O8;show L4 (λi σ H'=>∃(u v:Option V)(F':Hp)(kd:af),σ=[some (.ref rl),some (iv o),some (iv t),some (.ref kd),some (.ref bl),u,v]/\zB (KD A W 20000) F H F' H' bl ((ay (i+1)).map λi=>cB rs i L0)/\KD A W (1+3000*i) F' kd (cB rs i L0))
  (by decide) (by decide) #[iy,none,none,_,kd,#[ic,rfl,#[iA,gB.more e6,hF6,[kd],asv,.cons (hK0.more (by omega)) .nil],hK0]] ?_ ?_
 .rintro i σ H' hi cG;rintro u v F' kd rfl g hK:xf 5 fo cG;have hi5:i<5:=by simpa using hi
  exists #[ig,rl,kd,F',W,rs,#[ik,cB rs i L0,_,rfl,g.1.fh,dA.mono eG.mono g.1.ff hL,hn,#[ic,hK,λo' y hy=>aE (o9 (xU o t) i o' y hy) (by omega),λd more F2 H2 c hd Qb R6 hFD=>?_]]];have g2:=g.call KD.mono c;have hr6:(cB rs i L0).length=6:=by rw[GM,Jn]
  have alw:(Kj rs (cB rs i L0)).length=6:=by rw[JS,hr6]
  exists #[ib,d,more,rfl,c.fh _ _ hd,?_];exists cY (λhz=>?_) (λhz=>?_)<;>left;.obtain rfl:more=[]:=jF.mp (by omega);rintro F3 g3 g4:bM<|g2.done KD.mono hbH;show k bl i F3 H2 (by omega) g3 g4 (.inr (hFD.none hr6 alw))
  .rintro _ aQ R5 UL hk3:EQ 3 fo hK;have atm:H2 kd=some (.dK aQ):=c.hh _ _ (g.1.fh _ _ R5);show #[ib,kd,aQ,rfl,.inl atm,λkn YJ=>?_];have e7:aq H2 (upd H2 kn (.dK aQ)):=cq YJ;have ad2:(upd H2 kn (.dK aQ)) kn=some (.dK aQ):=aT;generalize upd H2 kn (.dK aQ)=H3 at e7 ad2;exists ZB (DA ad2) ?_;left;have hd3:H3 d=some (.dK more):=e7 _ _ (c.fh _ _ hd);have ndk:kn≠d:=cA (aI (c.fh _ _ hd) YJ);show agd ad2 hd3 ndk (by unfold sizeLine;omega) λH4 h4 k4=>?_;have hknH:H kn=none:=g2.1.hh.free YJ;have ad3:F2 kn=none:=g2.1.fh.free YJ;have gg:en F2 H2 (upd F2 kn (.dK (i0 aQ more))) H4:=((en.same c.fh e7).keep k4 YJ ad3).add h4 YJ ad3;have g5:=g2.call KD.mono gg;have hK':KD A W (1+3000*(i+1)) (upd F2 kn (.dK (i0 aQ more))) kn (cB rs (i+1) L0):=by
    rw[mj];show KD.upd hr6 (λo ho=>(hk3 o ho).mono c.ff) hFD alw R6 (cq ad3) aT (by omega)
   rintro zs hz1 hz2:bM g5.len;exists jm (cf.of hz1) ?_;exists fL (T:="list") rfl hz1 (by rw[hz2,ab,bQ];unfold sizeLine;omega) λH5 h5 k5=>?_;exists #[iy,some (iv i),some (.ref d),_,kn,#[ic,?_,?_,hK']];.rw[j1 (show (0:Int)+(i:Nat)=((i:Nat):Int) by omega)];rfl
   .have g6:=g5.add hbH (hK'.more (by omega)) hz1 h5 k5;rw[uQ (i+1),aj];show g6
 .rintro σ H' cG;rintro u v F' kd rfl g hK:xf 5 fo cG;left;rintro F3 g3 g4:bM<|g.done KD.mono hbH;show k bl 5 F3 H' (by omega) g3 g4 (.inl rfl)
abbrev p9:cK:=top 24
def vE:aU ["rides","origin","ready","goal"] ["rides","origin","ready","goal"] (aG p9):=jy
def lP(A:dW):Sp:=λvs H Q _=>∃(rl:af)(F:Hp)(W:ah)(rs:List bZ)(o t q:Nat),vs=[.ref rl,iv o,iv t,iv q]/\aq F H/\dA (eG A W) F rl rs/\rs.length<=3000/\o<6/\q<6/\
 (dQ rs o t q=none->∀H',aq H H'->Q .non H')/\∀x a F' H',dQ rs o t q=some x->en F H F' H'->j9 A F' a W x->Q (.ref a) H'
def Em(F:i9 K "earliest_way" "earliest_way" p9 f fd)(T:eX K mg A)(gY:fP P w K mg base 4 "known_by_rounds" ["rides","origin","ready"] (l7 A)):cQ P w K mg base gW 5 f fd ["rides","origin","ready","goal"] (lP A):=by
 exists F,vE;rintro rl F W rs o t q rfl s0 hL hn ho hq kn ks:EN 6 Ix 5 Cz h;have hu:=fJ hr;have nd:=vE.nd;show #[ia,_,(kY (pW hu (xL (bC gY hr (qu (pv 0) (pv 1) (pv 2))) (Sn Mr aw)) (pv 3) ⟨rfl,rfl,rfl,rfl⟩)),?_];dsimp only[dj];exists #[iy,rl,F,W,rs,#[ik,o,t,rfl,s0,hL,hn,⟨ho,λl m F1 H1 hm g hKL P_=>?_⟩]];left;have alf:((ay (m+1)).map λi=>cB rs i (dY o t)).getLast? = some (cB rs m (dY o t)):=by rw[uQ,aj];simp
 show Sz hKL g.fh alf λb hb=>?_;rintro _ aQ NG UJ hb3:EQ 3 fo hb;show GB (DA (g.fh _ _ NG)) ?_;exists Ab (g.fh _ _ NG) ?_;have he:dQ rs o t q=((cB rs m (dY o t))[q]?).join:=by
  unfold dQ gj;rcases P_ with rfl|P_;.rfl
  .rw[B_ (q:=q) P_ Vbpoaf.CHANGES hm]
 have hv:=hb3 q hq;rw[<-he] at hv;cases e:dQ rs o t q with
 |none=>rw[e] at hv;rw[show dy aQ (.inl (q:Int))=none from hv];show kn e H1 g.hh
 |some x=>rw[e] at hv;rintro a h1 h2:bM hv;rw[h1];show ks x a F1 H1 e g h2
end
end TT
end
section
local macro_rules|`(tactic| walk_at "rdb")=>`(tactic| repeat ((fail_if_success (with_reducible refine Zw ?_));(first|walk_at "rd1"|walk_at "fld")))
namespace TT
def LV(A:dW)(W:ah)(F:Hp)(v:V)(x:cn):Prop:=match x with
 |none=>v=.non
 |some y=>∃a,v=.ref a/\j9 A F a W y
def E'.lv{A:dW}{W:ah}{F:Hp}{v:Option V}{x:cn}(h:E' A W F v x):LV A W F (v.getD .non) x:=by
 cases x with
 |none=>rw[show v=none from h];rfl
 |some y=>rintro a e k:bM h;rw[e];show #[ia,a,rfl,k]
def Hd(l:List (Nat×Nat)):List Int:=l.flatMap λx=>[(x.1:Int),(x.2:Int)]
def x4(l:List (Nat×Nat)):(Hd l).length=2*l.length:=by
 unfold Hd;induction l with
 |nil=>rfl
 |cons a l ih=>rw[js,ap,ih];simp only[aP,dg];omega
def yd(rs:List bZ)(o t q n:Nat):((ay n).filterMap (lq rs o t q)).length<=n:=by have:=J7 (lq rs o t q) (ay n);rw[bQ] at this;show this
section
variable{P:aS}{w:bL}{K:ad}{mg:Str->Option ag}{base:cE}{A:dW}{f:af}{fd:b_}
abbrev xu:cK:=top 25
def Bo:aU ["rides","origin","ready","goal","told","last","count","known","there"] ["rides","origin","ready","goal"] (aG xu):=jy
def BC(A:dW):Sp:=λvs H Q _=>∃(rl:af)(F:Hp)(W:ah)(rs:List bZ)(o t q:Nat),vs=[.ref rl,iv o,iv t,iv q]/\aq F H/\dA (eG A W) F rl rs/\rs.length<=3000/\o<6/\q<6/\
 ∀p H',H p=none->H' p=some (.lst (cN (Hd (pD rs o t q))))->aq H H'->Q (.ref p) H'
def LA(F:i9 K "best_ways" "best_ways" xu f fd)(T:eX K mg A)(gY:fP P w K mg base 4 "known_by_rounds" ["rides","origin","ready"] (l7 A)):cQ P w K mg base gW 5 f fd ["rides","origin","ready","goal"] (BC A):=by
 exists F,Bo;rintro rl F W rs o t q rfl s0 hL hn ho hq k:EN 6 Ix 5 lB h;have hu:=fJ hr;have nd:=Bo.nd;show #[ia,_,(ae (sv 4 nd (bI jf)) (ae (sv 5 nd ju) (ae (fR bj rfl (yh rfl T.kz (eM (bC gY hr (qu (pv 0) (pv 1) (pv 2))))) (xi rfl (iE (gv 6 nd) (iE (gv 7 nd) qI))) (ae (sv 8 nd (pW hu (pv 7) (pv 3) ⟨rfl,rfl,rfl,rfl⟩)) (ae (kG (PW.pt (kI (fq (uN (pv 8))) (lp (PW.pt (kf (fq (jg (pv 5))) (jh (kq qH (du 8) (du 5)))))))) (bA (dN (exE (pv 4) (bI (mz (pv 6) (du 8)))))) fU) (bA (sv 5 nd (pv 8)))))) (kY (pv 4))))),?_];dsimp only[dj];exists jw λp H1 hp Ay e1=>?_;have s1:=s0.trans e1;exists #[iy,rl,F,W,rs,#[ik,o,t,rfl,s1,hL,hn,⟨ho,λl m F1 H2 hm g hKL P_=>?_⟩]];left;let L0:=dY o t;have MC:F1 p=none:=g.nw p _ Ay (s0.free hp);show QT (λi σ H'=>∃(lv:V)(u v z:Option V),σ=[some (.ref rl),some (iv o),some (iv t),some (iv q),some (.ref p),some lv,u,v,z]/\aq F1 H'/\aq H H'/\H' p=some (.lst (cN (Hd ((ay i).filterMap (lq rs o t q)))))/\((i=0/\lv=.non)\/∃j,i=j+1/\LV A W F1 lv (gj rs j o t q)))
  hKL #[il,.non,none,none,none,rfl,g.fh,e1.trans g.hh,g.hh _ _ Ay,.inl ⟨rfl,rfl⟩] (λi σ H' h=>by rintro lv u v z _ e _:xf 5 fo h;show e) ?_ ?_
 .rintro i ls kd σ H' UF hi YI cG e3;rintro lv u v z rfl f1 f2 f3 f4:xf 5 Cz cG;have hi6:i<6:=by
   have:=(ai.mp hi).1;rw[ab,bQ] at this;omega
  obtain rfl:cB rs i L0=ls:=by
   rw[aF] at hi;cases e:(ay (m+1))[i]? with
   |none=>rw[e] at hi;cases hi
   |some j=>rw[e] at hi;have hij:=(ai.mp e).2;rw[List.getElem_range] at hij;subst hij;show bp hi
  rintro _ aQ NG UJ hb3:EQ 3 fo YI;have s3:=f1.trans e3;exists GB (DA (s3 _ _ NG)) ?_;exists Ab (s3 _ _ NG) ?_;have hv:=(hb3 q hq).lv;have YM:(ay (i+1)).filterMap (lq rs o t q)=(ay i).filterMap (lq rs o t q)++(lq rs o t q i).toList:=wG _ i;generalize V8:(dy aQ (v_ (q:Int))).getD V.non=th at hv;have hE:gj rs i o t q=((cB rs i L0)[q]?).join:=rfl;rw[<-hE] at hv;have XU:∀H2,aq UF H2->lq rs o t q i=none->∃(lv':V)(u v z:Option V),[some (V.ref rl),some (iv o),some (iv t),some (iv q),some (.ref p),some th,some (iv i),some (V.ref kd),some th]=[some (.ref rl),some (iv o),some (iv t),some (iv q),some (.ref p),some lv',u,v,z]/\aq F1 H2/\aq H H2/\H2 p=some (.lst (cN (Hd ((ay (i+1)).filterMap (lq rs o t q)))))/\((i+1=0/\lv'=.non)\/∃j,i+1=j+1/\LV A W F1 lv' (gj rs j o t q)):=λH2 e hN=>#[il,th,some (iv i),some (.ref kd),some th,rfl,s3.trans e,(f2.trans e3).trans e,by rw[YM,hN];simp;show e _ _ (e3 _ _ f3),.inr #[ia,i,rfl,hv]];have hv0:=hv;cases ex:gj rs i o t q with
  |none=>rw[ex] at hv;obtain rfl:th=.non:=hv;exists XU UF (aq.refl _) (by unfold lq;rw[ex])
  |some x=>
   rw[ex] at hv;rintro a rfl hKa:bM hv;rcases f4 with⟨hi0,rfl⟩|⟨j,hij,Dz⟩
   .walk_at "rdb";have hN:lq rs o t q i=some (i,x.1):=by unfold lq;rw[ex];subst hi0;rfl
    exists jm (cf.of (e3 _ _ f3)) ?_;exists jw λq2 H4 UO hq4 e4=>?_;exists Bi (l:=p) (T:="list") (e4 _ _ (e3 _ _ f3)) hq4 ?_ λH3 h3 k3=>?_;.have:=yd rs o t q i;unfold cN;rw[ab,x4];change _+2<=sizeLine;unfold sizeLine;omega
    exists #[il,.ref a,some (iv i),some (.ref kd),some (.ref a),rfl,aB (s3.trans e4) k3 MC,aB ((f2.trans e3).trans e4) k3 hp,?_,.inr #[ia,i,rfl,hv0]];rw[h3,YM,hN];unfold cN Hd;rw[f8,aj];rfl
   .have hj:lq rs o t q i=match gj rs j o t q with
     |none=>some (i,x.1)
     |some y=>if x.1<y.1 then some (i,x.1) else none:=by
     unfold lq;rw[ex];change (if i=0 then _ else _)=_;rw[if_neg (by omega),show i - 1=j by omega]<;>rfl
    cases ey:gj rs j o t q with
    |none=>
     rw[ey] at Dz hj;obtain rfl:lv=.non:=Dz;have hN:lq rs o t q i=some (i,x.1):=hj;walk_at "rdb";exists jm (cf.of (e3 _ _ f3)) ?_;exists jw λq2 H4 UO hq4 e4=>?_;exists Bi (l:=p) (T:="list") (e4 _ _ (e3 _ _ f3)) hq4 ?_ λH3 h3 k3=>?_;.have:=yd rs o t q i;unfold cN;rw[ab,x4];change _+2<=sizeLine;unfold sizeLine;omega
     exists #[il,.ref a,some (iv i),some (.ref kd),some (.ref a),rfl,aB (s3.trans e4) k3 MC,aB ((f2.trans e3).trans e4) k3 hp,?_,.inr #[ia,i,rfl,hv0]];rw[h3,YM,hN];unfold cN Hd;rw[f8,aj];rfl
    |some y=>
     rw[ey] at Dz hj;rintro a2 rfl hKy:bM Dz;have hj:lq rs o t q i=if x.1<y.1 then some (i,x.1) else none:=hj;walk_at "rdb";show cY (λh3=>?_) (λh3=>?_)
     .have hN:lq rs o t q i=some (i,x.1):=by rw[hj,if_pos (by omega)]
      walk_at "rdb";exists jm (cf.of (e3 _ _ f3)) ?_;exists jw λq2 H4 UO hq4 e4=>?_;exists Bi (l:=p) (T:="list") (e4 _ _ (e3 _ _ f3)) hq4 ?_ λH3 h3 k3=>?_;.have:=yd rs o t q i;unfold cN;rw[ab,x4];change _+2<=sizeLine;unfold sizeLine;omega
      exists #[il,.ref a,some (iv i),some (.ref kd),some (.ref a),rfl,aB (s3.trans e4) k3 MC,aB ((f2.trans e3).trans e4) k3 hp,?_,.inr #[ia,i,rfl,hv0]];rw[h3,YM,hN];unfold cN Hd;rw[f8,aj];rfl
     .exists XU UF (aq.refl _) (by rw[hj,if_neg (by omega)])
 .rintro σ H' cG;rintro lv u v z rfl f1 f2 f3 f4:xf 5 Cz cG;left;rw[ab,bQ] at f3;show k p H' hp ?_ f2;rw[f3,M4];rcases P_ with rfl|P_;.rfl
  .have hb:=Jo (q:=q) P_ (5 - m);rw[show m+1+(5 - m)=6 by omega] at hb;rw[hb]
end
end TT
end
namespace TT
def agc{A B:Prop}(h:B):if (!true)=true then A else B:=by rw[if_neg (by decide)];show h
instance{A B:Prop}:RdS (if (!true)=true then A else B) B:=⟨agc⟩
def agb{A B:Prop}(h:A):if (!false)=true then A else B:=by rw[if_pos (by decide)];show h
instance{A B:Prop}:RdS (if (!false)=true then A else B) A:=⟨agb⟩
def Yb(aQ:List (ez×V))(ls:List (Option Int)):Prop:=ls.length=6/\∀o:Nat,o<6->dy aQ (.inl (o:Int))=((ls[o]?).join).map V.int
def Yb.put{aQ:List (ez×V)}{ls:List (Option Int)}{i:Nat}{z:Int}(h:Yb aQ ls)(hi:i<6):Yb (k_ aQ (.inl (i:Int)) (.int z)) (ls.set i (some z)):=by
 show⟨by rw[jp];show h.1,λo ho=>?_⟩;rw[kM,qf (by rw[h.1];show hi)];by_cases e:o=i;.subst e;rw[if_pos rfl,if_pos rfl];rfl
 .rw[if_neg e,if_neg (by simp;omega)];show h.2 o ho
section
variable{P:aS}{w:bL}{K:ad}{mg:Str->Option ag}{base:cE}{A:dW}{f:af}{fd:b_}
abbrev CM:cK:=top 27
def GW:aU ["rides","before","after","ride"] ["rides","before"] (aG CM):=jy
def G4(A:dW):Sp:=λvs H Q _=>∃(rl bd:af)(F:Hp)(W:ah)(rs:List bZ)(ls:List (Option Int))(aQ:List (ez×V)),vs=[.ref rl,.ref bd]/\aq F H/\dA (eG A W) F rl rs/\rs.length<=3000/\H bd=some (.dK aQ)/\aQ.length<=100000/\Yb aQ ls/\
 ∀d A_ H',H d=none->aq H H'->H' d=some (.dK A_)->A_.length<=aQ.length+rs.length->Yb A_ (rs.foldl (df ls) ls)->Q (.ref d) H'
def QA(F:i9 K "go_back" "go_back" CM f fd)(T:eX K mg A):cQ P w K mg base gW 1 f fd ["rides","before"] (G4 A):=by
 exists F,GW;rintro rl bd F W rs ls aQ rfl s0 hL hn hb hkl hB k:EN 6 Ix 5 Cz h;have hu:=fJ hr;have nd:=GW.nd;show #[ia,_,(ae (sv 2 nd (fK wA rfl T.KP ag7 (eM (pv 1)))) (ae (fR bj rfl (dM (pv 0)) (gv 3 nd) (bA (kG (PW.pt (kI (fq (afr hu (du 3) (pv 1))) (lp (kq jL (du 3) (uO hu (pv 1) (du 3) (λ_ _=>rfl)))))) (bA (kG (PW.pt (kf (fq (CH hu (du 3) (pv 2))) (jh (kq yR (du 3) (uO hu (pv 2) (du 3) (λ_ _=>rfl)))))) (bA (yj hu (pv 2) (du 3) (du 3) rfl)) fU)) fU))) (kY (pv 2)))),?_];dsimp only[dj];exists #[ib,bd,aQ,rfl,.inl hb,λd hd=>?_];have e1:aq H (upd H d (.dK aQ)):=cq hd;have R3:(upd H d (.dK aQ)) d=some (.dK aQ):=aT;generalize upd H d (.dK aQ)=H1 at e1 R3;exists oP (λi σ H'=>∃(u:Option V)(A_:List (ez×V)),σ=[some (.ref rl),some (.ref bd),some (.ref d),u]/\aq H H'/\H' d=some (.dK A_)/\A_.length<=aQ.length+i/\Yb A_ ((rs.take i).foldl (df ls) ls))
  hL #[ik,none,aQ,rfl,e1,R3,aA _,hB] (λi σ H' h=>by rintro u kv _ e _:fD h;show s0.trans e) ?_ ?_
 .rintro i r b σ H' hi cG j';rintro t ok Tr:bM cG;rintro u A_ rfl f1 f2 f3 f4:lA 5 fo j';have s2:=s0.trans f1;have lr:=(ai.mp hi).1;have NI:=ok.2.2.2.2.1;have hto:=ok.2.2.2.2.2;have UJ:=f1 _ _ hb;rw[bR hi,BS];let new:=(rs.take i).foldl (df ls) ls;have Qc:(rs.take i).foldl (df ls) ls=new:=rfl;rw[Qc] at f4 ⊢;have aak:ST (df ls) new [r]=df ls new r:=rfl;rw[aak];have l6:new.length=6:=f4.1;have h1:=hB.2 _ hto;have h2:=f4.2 _ NI
  have same:df ls new r=new->∃(u:Option V)(Wf:List (ez×V)),[some (V.ref rl),some (V.ref bd),some (V.ref d),some (V.ref b)]=[some (.ref rl),some (.ref bd),some (.ref d),u]/\aq H H'/\H' d=some (.dK Wf)/\Wf.length<=aQ.length+(i+1)/\Yb Wf (df ls new r):=λe=>#[ik,some (.ref b),A_,rfl,f1,f2,by omega,by rw[e];show f4];change Xg _ _ _ _ _ _;exists anc UJ ?_;rw[h1];cases ex:(ls[r.to_]?).join with
  |none=>dsimp only[D_,Pl];exists same (by unfold df;rw[ex])
  |some x=>
   rw[ex] at h1;have h1:dy aQ (.inl (r.to_:Int))=some (.int x):=h1;dsimp only[j0,pJ];exists JQ UJ h1 ?_;exists cY (λh3=>?_) (λh3=>?_)
   .exists afz f2 ?_;rw[h2];have hx:¬x<(r.ready:Int):=by omega
    cases ey:(new[r.from_]?).join with
    |none=>
     have V7:df ls new r=new.set r.from_ (some r.by_):=by unfold df;rw[ex];change (if x<(r.ready:Int) then _ else _)=_;rw[if_neg hx,ey]
     dsimp only[D_,Pl];exists Oq f2 (by unfold sizeLine;omega) λH2 BQ k2=>?_;show #[ik,some (.ref b),_,rfl,aB f1 k2 hd,BQ,aE (jK ..) (by omega),?_];rw[V7];show f4.put NI
    |some y=>
     rw[ey] at h2;have h2:dy A_ (.inl (r.from_:Int))=some (.int y):=h2;dsimp only[j0,pJ];exists JQ f2 h2 ?_;left;have ak5:df ls new r=if y<r.by_ then new.set r.from_ (some r.by_) else new:=by unfold df;rw[ex];change (if x<(r.ready:Int) then _ else _)=_;rw[if_neg hx,ey]
     show cY (λh4=>?_) (λh4=>?_)
     .have V7:df ls new r=new.set r.from_ (some r.by_):=by rw[ak5,if_pos h4]
      exists Oq f2 (by unfold sizeLine;omega) λH2 BQ k2=>?_;show #[ik,some (.ref b),_,rfl,aB f1 k2 hd,BQ,aE (jK ..) (by omega),?_];rw[V7];show f4.put NI
     .exists same (by rw[ak5,if_neg h4])
   .exists same (by unfold df;rw[ex];change (if x<(r.ready:Int) then _ else _)=_;rw[if_pos (by omega)])
 .rintro σ H' cG;rintro u A_ rfl f1 f2 f3 f4:lA 5 fo cG;left;rw[aK] at f4;show k d A_ H' hd f1 f2 f3 f4
abbrev qa:cK:=top 26
def vG:aU ["rides","origin","goal","by","latest","count"] ["rides","origin","goal","by"] (aG qa):=jy
def vK(A:dW):Sp:=λvs H Q _=>∃(rl:af)(F:Hp)(W:ah)(rs:List bZ)(o t q:Nat),vs=[.ref rl,iv o,iv q,iv t]/\aq F H/\dA (eG A W) F rl rs/\rs.length<=3000/\o<6/\q<6/\
 ∀H',aq H H'->Q (((AG rs o q t).map V.int).getD .non) H'
def Eo(F:i9 K "latest_ready" "latest_ready" qa f fd)(T:eX K mg A)(B3:fP P w K mg base 1 "go_back" ["rides","before"] (G4 A)):cQ P w K mg base gW 2 f fd ["rides","origin","goal","by"] (vK A):=by
 exists F,vG;rintro rl F W rs o t q rfl s0 hL hn ho hq k:EN 6 Ix 5 lB h;have hu:=fJ hr;have nd:=vG.nd;show #[ia,_,(ae (sv 4 nd (Sl (Oo (pv 2) (pv 3) Sr) rfl rfl (by decide) (by decide))) (ae (fR bj rfl (yi rfl T.uf (eM (bG T.FJ))) (gv 5 nd) (bA (sv 4 nd (bC B3 hr (mz (pv 0) (pv 4)))))) (kY (pW hu (pv 4) (pv 1) ⟨rfl,rfl,rfl,rfl⟩)))),?_];try dsimp only[dj]
 exists Sv λkd H1 YI V0 e1=>?_;exists Os V0 λH2 h2 k2=>?_;have e2:=aB e1 k2 YI;left;let L0:=(fY mY (none:Option Int)).set q (some (t:Int));have hB0:Yb [(.inl (q:Int),iv t)] L0:=by
  show⟨by rw[jp,gt];rfl,λo' Lg=>?_⟩;rw[qf (by rw[gt];show hq)];by_cases e:o'=q;.subst e;rw[if_pos rfl,i7 rfl];rfl
  .rw[if_neg e,i6 (by simp;omega),show ((fY mY (none:Option Int))[o']?).join=none from by
    rw[tU];split<;>rfl]
   rfl
 show L4 (λi σ H'=>∃(u:Option V)(d:af)(aQ:List (ez×V)),σ=[some (.ref rl),some (iv o),some (iv q),some (iv t),some (.ref d),u]/\aq H H'/\H' d=some (.dK aQ)/\aQ.length<=1+3000*i/\Yb aQ (Z_ rs i L0))
  (by decide) (by decide) #[ii,none,kd,_,rfl,e2,#[ic,h2,aA _,hB0]] ?_ ?_
 .rintro i σ H' hi cG;rintro u d aQ rfl f1 f2 f3 f4:rD 5 lB cG;have hi5:i<5:=by simpa using hi
  exists #[ig,rl,d,F,W,rs,#[ik,_,aQ,rfl,s0.trans f1,hL,hn,#[ij,f2,by omega,f4,λd' A_ H3 g1 g2 g3 g4 g5=>?_]]];exists #[ii,some (.int (0+(i:Int))),d',A_,rfl,f1.trans g2,#[ic,g3,by omega,?_]];rw[Fi];show g5
 .rintro σ H' cG;rintro u d aQ rfl f1 f2 f3 f4:rD 5 lB cG;exists GB (DA f2) ?_;exists Ab f2 ?_;rw[f4.2 o ho];show k H' f1
end
abbrev db:cK:=top 29
def qe:aU ["state"] ["state"] (aG db):=jy
def aa9(s:cK):Option (pz×Expr×jq×km):=match ll s with
 |[.Return (some (.Call _ _ [⟨_,.Lambda a b sc p,_⟩] _)) _]=>some (a,b,sc,p)
 |_=>none
def av1:jq:=match aa9 db with
 |some x=>x.2.2.1
 |none=>aG db
def mr:km:=match aa9 db with
 |some x=>x.2.2.2
 |none=>⟨0,0,0,0⟩
def lV:Str:="things_in_order.<locals>.<lambda>"
def agn:aU ["thing"] ["thing"] av1:=⟨rfl,rfl,rfl,by decide +kernel,rfl,by decide +kernel,by decide +kernel⟩
def Oe{α β:Type}{P:α->β->Prop}{out as:List α}(h:out.Perm as):∀{bs:List β},cg P as bs->∃ys,cg P out ys/\ys.Perm bs:=by
 induction h with
 |nil=>intro bs hp;show #[ia,bs,hp,vp _]
 |cons a h ih=>
  intro bs hp;cases hp with
  |cons r t=>rintro ys h1 h2:bM<|ih t;show #[ia,_::ys,.cons r h1,axr _ h2]
 |swap a b l=>
  intro bs hp;cases hp with
  |cons r t=>
   cases t with
   |cons r2 t2=>show #[ia,_::_::_,.cons r2 (.cons r t2),Rq _ _ _]
 |trans h1 h2 ih1 ih2=>
  intro bs hp;rintro ys q1 q2:bM<|ih2 hp
  rintro zs q3 q4:bM<|ih1 q1;show #[ia,zs,q3,q4.trans q2]
theorem JK{α β:Type}{P:α->β->Prop}{R:α->α->Prop}{R':β->β->Prop}(h:∀a b x y,P a x->P b y->R a b->R' x y):∀{as:List α}{xs:List β},cg P as xs->as.Pairwise R->xs.Pairwise R'
 |_,_,.nil,_=>.nil
 |_,_,.cons r t,hw=>by
  rw[ja] at hw;show ja.mpr ⟨λy hy=>?_,JK h t hw.2⟩;rintro i hi rfl:bW 1 bW<|List.getElem_of_mem hy;rintro b hb hp:bM<|oe t (bb hi);show h _ _ _ _ r hp (hw.1 b (aZ hb))
def TC:Option V->Int
 |some (.int i)=>i
 |_=>0
def ae8(F:Hp)(a:af):K3:=match F a with
 |some (.ins _ _ fs)=>(TC (fs.lookup ("rank":Str)),TC (fs.lookup ("ready":Str)),TC (fs.lookup ("number":Str)))
 |_=>(0,0,0)
section
variable{P:aS}{w:bL}{K:ad}{mg:Str->Option ag}{base:cE}{A:dW}{f:af}
def TK(x:bv):K3:=(x.rank,x.ready,x.id)
def Lo{A:dW}{F:Hp}{a:af}{W:ah}{x:bv}(h:ww A W F a x):ae8 F a=TK x:=by rintro l dx h0:UT h;unfold ae8;rw[h0];change (TC ((wF W x l).lookup ("rank":Str)),TC ((wF W x l).lookup ("ready":Str)),TC ((wF W x l).lookup ("number":Str)))=_;rw[Lp,Iq,FT];rfl
def i5(A:dW)(T:af):Sp:=λvs H Q _=>∃(s:af)(F H0:Hp)(S:aO),vs=[.ref s]/\aq F H/\F T=none/\kx A F H0 s S/\S.loads.length<=10/\eP H T mr lV/\
 ∀l ys F' H',dE T F H F' H'->F' T=none->eP H' T mr lV->ys.Perm S.loads->ys.Pairwise (λx y=>Le3 (TK x) (TK y))->dA (HP A H0 S.world) F' l ys->Q (.ref l) H'
def z_{c T:af}{oc kV doc pm ct:ag}{od an:Option af}{XW:Array (Option ag)}(lk:K.lookup f=some ⟨oc,od,.func (gG "things_in_order" "things_in_order" (nQ db) (ll db) (aG db) .none kV doc pm an (.ref c) ct),XW⟩)(Tt:pB K (.ref c) "things_in_order"=true)(hC:nk K c T=true)(hB:base.BuiltinsAt mg T)
 (T':eX K mg A):cQ P w K mg base gW 4 f (gG "things_in_order" "things_in_order" (nQ db) (ll db) (aG db) .none kV doc pm an (.ref c) ct) ["state"] (i5 A T):=by
 show aaj lk Tt qe (λvs H Q E h=>?_) (λAr outer s H vs Q E hr h=>?_);.rintro s F H0 S rfl _:xf h;rfl
 .rintro s F H0 S rfl s0 YA ⟨dx,tb,c0,dl,th,hs0,JB,V6,hs3,as,ha,hp⟩ hn hT k:xf 5 Iw h;have hu:=fJ hr;have nd:=qe.nd;show #[ia,_,(bA (WG (WB (k:=0) (T:=T) (c:=c) (N:=["thing"]) (ps:=["thing"]) (qual:=lV) rfl T'.Fh (LU (pv 0) rfl) hC rfl rfl hB rfl (by kernel_rfl) agn hr rfl (λ_ _ _ _=>rfl)
   (λq c' s' H'=>Gv (dS (jU (K:=K) (pv 0) rfl) (dS (jU (K:=K) (pv 0) rfl) (dS (jU (K:=K) (pv 0) rfl) jf))))))),?_]
  dsimp only[dj];exists ZD ?_;exists c8 (v:=.ref th) (s0 _ _ hs0) T'.state ?_;have UI:H T≠none:=by rintro ps e _:bM hT;rw[e];simp
  show #[ii,th,as,ae8 F,rfl,s0 _ _ ha,#[ij,by rw[hp.length];omega,hT,λa YB H2 k2 Q' hQ=>?_,λD out H' k1 t1 hD hD' n_ hpw=>?_]];.rintro i hi rfl:bW 1 bW<|List.getElem_of_mem YB;rintro x hx hxa:bM<|fE hp (bb hi);have s2:aq F H2:=λb o e=>k2 _ _ (s0 _ _ e) (aI e YA);rintro bl bs hxa _:rE hxa;rw[Lo ⟨bl,hxa⟩] at hQ;exists⟨by change 3<=sizeLine;decide,λp hpn=>hQ p hpn⟩
  .rintro ys hy1 hy2:bM<|Oe n_ hp;have hFD:F D=none:=s0.free hD;have g:dE T F H F H':=⟨aq.refl _,λb o e=>k1 _ _ (s0 _ _ e) (aI e YA),k1,λ_ _ _ _ n=>n⟩;show k D ys _ H' (g.add hD' (.inl hD) hFD) (by rw[aR (λz=>UI (by rw[z];show hD))];show YA) t1 hy2 ?_ #[ia,out,aT,bF (λa x q=>HP.mono _ _ _ _ (cq hFD) q) hy1];show JK (λa b x y⟨l1,_,h1,_⟩j' q=>rE j' λl2 _ h2 _=>by rw[Lo ⟨l1,h1⟩,Lo ⟨l2,h2⟩] at q;show q) hy1 hpw
end
def Lr(a b:bv):Le3 (TK a) (TK b)↔j4 a b:=by unfold Le3 j4;change ait _ _ _=false↔_;rw[ki,ki];show not_congr ?_;rw[zG];unfold kl TK;change (decide ((b.rank:Int)<(a.rank:Int))||(!decide ((a.rank:Int)<(b.rank:Int))&&(decide ((b.ready:Int)<(a.ready:Int))||(!decide ((a.ready:Int)<(b.ready:Int))&&(decide ((b.id:Int)<(a.id:Int))||(!decide ((a.id:Int)<(b.id:Int))&&false))))))=true↔_;simp only[E1,ak,r9,decide_eq_true_eq,decide_eq_false_iff_not,fG,and_false,or_false];omega
section
variable{K:ad}{σ:L2.St}{H:Hp}{Q:VK}{te:TE}{tl th:TO}{QO:Option Int->Hp->Prop}{a:af}{xs:List V}{r:V->Option Int->Option Int->Hp->VK->Prop}
def R_(Q:Option Int->Hp->Prop)(x:V)(H:Hp):Prop:=∃i,x=.int i/\Q (some i) H
def aw2(h:te σ H λx H1=>tl σ H1 λl H2=>th σ H2 λu H3=>r x l u H3 Q):tSl r te tl th σ H Q:=h
instance:RdS (tSl r te tl th σ H Q) (te σ H λx H1=>tl σ H1 λl H2=>th σ H2 λu H3=>r x l u H3 Q):=⟨aw2⟩
def agh(h:te σ H (R_ QO)):oQ te σ H QO:=h
instance:RdS (oQ te σ H QO) (te σ H (R_ QO)):=⟨agh⟩
def ZA{i:Int}(h:QO (some i) H):R_ QO (.int i) H:=#[ia,i,rfl,h]
instance{i:Int}:RdS (R_ QO (.int i) H) (QO (some i) H):=⟨ZA⟩
def WW(h:QO none H):Mn σ H QO:=h
instance:RdS (Mn σ H QO) (QO none H):=⟨WW⟩
def WX{lo hi:Option Int}(h:cf K H a xs)(q:∀p H',H p=none->H' p=some (.lst (Cf xs lo hi))->aq H H'->Q (.ref p) H'):am9 K (.ref a) lo hi H Q:=#[ib,a,xs,rfl,h,λp hp=>q p _ hp aT (cq hp)]
end
def Ys{xs:List V}{i j:Nat}(h1:i<=j)(h2:j<=xs.length):Cf xs (some (i:Int)) (some (j:Int))=(xs.drop i).take (j - i):=by unfold Cf;rw[HT.uR,HT.uR,iF (aE h1 h2),iF h2]
def LD(H H':Hp):Prop:=∀b o,H b=some o->(∀xs,o≠.lst xs)->(∀kv,o≠.dT kv)->H' b=some o
def Ent(F B H:Hp)(tk:af)(v:Option V)(n:Nat)(u:Nat->Nat):Prop:=(v=none/\∀i,u i=0)\/∃a,v=some (.ref a)/\H a=some (.lst ((ay n).map λi=>iv (u i)))/\F a=none/\B a=none/\a≠tk
def nz(W:ah)(F B H:Hp)(tk:af)(L:eR):Prop:=∃(d:Nat->af)(kv:Nat->List (List ez×V)),H tk=some (.lst [.ref (d 0),.ref (d 1)])/\d 0≠d 1/\
 (∀k,k<2->F (d k)=none/\B (d k)=none/\H (d k)=some (.dT (kv k))/\(kv k).length<=L.length/\∀j t dd,cI W j=some t->Ent F B H tk (dy (kv k) (rk t.no dd)) t.stops.length λi=>cU L j dd k i)/\
 (∀k k' q q' a,k<2->k'<2->dy (kv k) q=some (.ref a)->dy (kv k') q'=some (.ref a)->k=k'/\q=q')/\∀k q a,k<2->dy (kv k) q=some (.ref a)->∃xs,H a=some (.lst xs)
def nz.grow{W:ah}{F B H F' H':Hp}{tk:af}{L:eR}(h:nz W F B H tk L)(hh:∀b o,H b=some o->(∀ps,o≠.Az ps)->H' b=some o)(hn:∀b o,H b=some o->(∀ps,o≠.Az ps)->F b=none->F' b=none):nz W F' B H' tk L:=by rintro d kv h1 h2 h3 h4 h5:lA 5 fo h;show #[ik,d,kv,hh _ _ h1 (by intro ps z;cases z),h2,λk hk=>?_,h4,λk q a hk e=>bW (h5 k q a hk e) λxs h=>⟨xs,hh _ _ h (by intro ps z;cases z)⟩];rintro q1 q2 q3 q4 q5:EO<|h3 k hk;show #[iq,hn _ _ q3 (by intro ps z;cases z) q1,q2,hh _ _ q3 (by intro ps z;cases z),q4,λj t dd ht=>?_];show (q5 j t dd ht).imp id λ⟨a,r1,r2,r3,r4,r5⟩=>#[ie,a,r1,hh _ _ r2 (by intro ps z;cases z),#[ic,hn _ _ r2 (by intro ps z;cases z) r3,r4,r5]]
def QY{no d no' d':Nat}(h:rk no d=rk no' d'):no=no'/\d=d':=by unfold rk at h;simp at h;omega
section
variable{P:aS}{w:bL}{K:ad}{mg:Str->Option ag}{base:cE}{A:dW}{f:af}{fd:b_}
abbrev rK:cK:=top 30
def xM:aU ["state","thing","found","told","run"] ["state","thing"] (aG rK):=jy
def kJ(A:dW):Sp:=λvs H Q _=>∃(s th:af)(F:Hp)(S:aO)(x:bv),vs=[.ref s,.ref th]/\aq F H/\gN A F s S/\HP A H S.world F th x/\ED S.world.table/\(∀g∈x.begun,aab S.world S.now g)/\x.begun.length<=2000/\
 ∀l F' H',en F H F' H'->lN A F' l S.world x.begun->Q (.ref l) H'
def Gg(F:i9 K "begun_rides" "begun_rides" rK f fd)(T:eX K mg A)(d_:fP P w K mg base 5 "find_run" ["state","number","day"] (kK A))(Po:MY P w K mg base 1 "Ride" A.mw ["self","run","first","later","minutes"] (vk A)):cQ P w K mg base gW 6 f fd ["state","thing"] (kJ A):=by
 exists F,xM;rintro s th F S x rfl s0 hs ⟨lb,bs,V8,YK,UN⟩ ok hlg hn k:DL 9 Cz h;have hu:=fJ hr;have nd:=xM.nd;show #[ia,_,(ae (sv 2 nd (bI jf)) (ae (fR bj rfl (dM (du 1)) (gv 3 nd) (ae (sv 4 nd (bC d_ hr (qu (pv 0) (xT (xT (pv 3) aw) aw) (xT (xT (pv 3) aw) aw)))) (bA (dN (Mx (pv 2) (tu Po hr (dS (pv 4) (qu (xT (pv 3) aw) (xT (pv 3) aw) (vC (du 0)))))))))) (kY (pv 2)))),?_];dsimp only[dj];exists jw λl H1 hl Pa e1=>?_;have s1:=s0.trans e1;exists WR (xs:=bs.map V.ref) (λi σ H'=>∃(u v:Option V)(F':Hp)(rs:List bZ),σ=[some (.ref s),some (.ref th),some (.ref l),u,v]/\zB (eG A S.world) F H F' H' l rs/\rs.map (·.leg)=x.begun.take i)
  (cf.of (e1 _ _ YK)) #[iy,none,none,F,[],#[ic,rfl,zB.nil s0 hl Pa e1,rfl]] (λi σ H' _ h=>by rintro u v F' rs _ g _:xf 5 fo h;show cf.of (g.1.hh _ _ YK)) ?_ ?_
 .rintro i vb σ H' hvb cG;rintro u v F' rs rfl gr YV:xf 5 fo cG;rintro b hbb rfl:bM<|o7 hvb;rintro g hi ka t NG UJ hb3:bM 2 fD<|fE UN hbb;have s2:aq F H':=gr.1.fH;rintro t' UQ ht2 ht3 ht4 ht5:Ix<|(hlg g (aZ hi)).ex;obtain rfl:t=t':=bp (hb3.symm.trans UQ);have lr:=(ai.mp hi).1;have Tx:rs.length=i:=by rw[<-ab (f:=(·.leg)),YV,aM];omega
  exists DM (ox.of (s2 _ _ NG)) (aV (j:=0) rfl) ?_;exists DM (ox.of (s2 _ _ UJ)) (aV (j:=0) rfl) ?_;exists DM (ox.of (s2 _ _ NG)) (aV (j:=0) rfl) ?_;exists DM (ox.of (s2 _ _ UJ)) (aV (j:=1) rfl) ?_;left;have akz:lE S.world t (g.day:Int)=true:=by unfold lE;simp[ht2]
  show #[ig,s,F',S,(t.no:Int),(g.day:Int),#[ip,rfl,gr.1.fh,gN.mono gr.1.ff hs,ok,λz=>?_,λra j t2 F2 H2 _ hj FO _ _ gg RY=>?_]];.rw[GN ok UQ rfl akz] at z;cases z
  have hR:=RY.at_;obtain rfl:j=g.trip:=uM ok hj UQ (by omega);obtain rfl:t2=t:=bp (hj.symm.trans UQ);have g2:=gr.call eG.mono gg;have s3:aq F H2:=g2.1.fH;rintro ys hy hyl:bM g2.len;exists jm (cf.of hy) ?_;exists DM (ox.of (s3 _ _ NG)) (aV (j:=1) rfl) ?_;exists DM (ox.of (s3 _ _ NG)) (aV (j:=2) rfl) ?_;left;rename_i tb htb ma hma;have XV:=ok.ok t2 (gl UQ);have lok:Fg S.world t2 (oG S.world t2 g):=#[ip,UQ,Cw UQ,ht3,ht4,yg XV (by omega),yg XV ht4];show pY λx2 dx H3 h1 h2 h3=>?_;show #[iw,x2,dx,ra,ma,F2,S.world,t2,oG S.world t2 g,#[iu,rfl,h2,g2.1.fh.trans h3,g2.1.fh.free h1,hR,g2.1.ff _ _ hma,#[ic,ok.mins,lok,λF3 H4 gx hRi=>⟨rfl,?_⟩]]];have g3:=g2.call eG.mono (gx.made h1 h3);rintro zs hz UR:bM g3.len;exists fL (T:="list") rfl hz (by rw[UR,Tx];unfold sizeLine;omega) λH5 h5 k5=>?_;exists #[iy,some (.ref b),some (.ref ra),F3,rs++[oG S.world t2 g],#[ic,rfl,g3.add hl hRi hz h5 k5,?_]];rw[aj,YV,bR hi];rfl
 .rintro σ H' cG;rintro u v F' rs rfl gr YV:xf 5 fo cG;left;rintro F2 g1 g2:bM<|gr.done eG.mono hl;rw[ab,UN.length,aK] at YV;show k l F2 H' g1 #[ia,rs,g2,YV]
abbrev vi:cK:=top 33
def y8:aU ["state","thing","rides","last"] ["state","thing","rides"] (aG vi):=jy
def zi(A:dW):Sp:=λvs H Q _=>∃(s th rl:af)(F:Hp)(S:aO)(x:bv)(rs:List bZ)(n:Nat),vs=[.ref s,.ref th,.ref rl]/\aq F H/\gN A F s S/\HP A H S.world F th x/\ED S.world.table/\Pw S.world S.now n x/\n<=2000/\dA (eG A S.world) F rl rs/\rs.length<=3000/\
 (dQ rs (gb S.world x).1 (gb S.world x).2 x.to_=none->∀H',aq H H'->Q .non H')/\∀y a F' H',dQ rs (gb S.world x).1 (gb S.world x).2 x.to_=some y->en F H F' H'->j9 A F' a S.world y->Q (.ref a) H'
def IT(F:i9 K "way_onward" "way_onward" vi f fd)(T:eX K mg A)(eL:fP P w K mg base 6 "begun_rides" ["state","thing"] (kJ A))(e_:fP P w K mg base 5 "earliest_way" ["rides","origin","ready","goal"] (lP A)):cQ P w K mg base gW 7 f fd ["state","thing","rides"] (zi A):=by
 exists F,y8;rintro s th rl F S x rs n rfl s0 hs hB ok lo aj4 hL hn kn ks:vV 8 wb 6 EO h;rintro lb bs V8 YK UN:fD<|id hB;have hu:=fJ hr;have nd:=y8.nd;show #[ia,_,(ae (kW (kq lI (xb T.fb (du 1)) aw) (bC e_ hr (dS (pv 2) (qu (du 1) (du 1) (du 1))))) (ae (sv 3 nd (xL (bC eL hr (mz (pv 0) (pv 1))) (Sn Mr aw))) (kY (bC e_ hr (dS (pv 2) (qu (du 3) (du 3) (du 1))))))),?_];dsimp only[dj];exists h_ (cf.of YK) ?_;rw[ab,UN.length];exists cY (λhz=>?_) (λhz=>?_)
 .have hb:x.begun=[]:=jF.mp (by omega);have kE:gb S.world x=(x.from_,x.ready):=by unfold gb;rw[hb];rfl
  rw[kE] at kn ks;exists #[ig,rl,F,S.world,rs,x.from_,#[ik,x.ready,x.to_,rfl,s0,hL,hn,#[ij,lo.from_,lo.to_,kn,ks]]]
 .exists #[ig,s,th,F,S,x,#[iu,rfl,s0,hs,hB,ok,lo.legs,⟨aE lo.many aj4,λl F1 H1 g hR=>?_⟩]];rintro rs2 hR2 sZ:bM hR;have nS:x.begun≠[]:=λz=>hz (by rw[z];rfl);rintro g0 hg0:bW (⟨_,Ev nS⟩:∃g0,x.begun.getLast? = some g0);rintro r0 hr0:bW (⟨_,Ev λz=>nS (by rw[<-sZ,z];rfl)⟩:∃r0,rs2.getLast? = some r0);have atw:r0.leg=g0:=by
   have:(rs2.map (·.leg)).getLast? = some r0.leg:=by rw[List.getLast?_map,hr0];rfl
   rw[sZ,hg0] at this;show (bp this).symm
  exists Sz hR2 g.fh hr0 λb hb=>?_;rintro t QH hbr:bM hb;have kE:gb S.world x=(r0.to_,r0.ready):=by
   unfold gb;rw[hg0,<-atw];change (match nO S.world r0.leg with
    |none=>(x.from_,x.ready)
    |some r=>(r.to_,r.ready))=_
   rw[QH.2.1]
  rw[kE] at kn ks;have s1:=g.fh;have s2:=g.fH;exists #[ig,rl,F1,S.world,rs,r0.to_,#[ik,r0.ready,x.to_,rfl,g.fh,dA.mono eG.mono g.ff hL,hn,#[ij,QH.2.2.2.2.2,lo.to_,λe H' s'=>kn e H' (g.hh.trans s'),λy a F' H' e g' hk=>ks y a F' H' e (g.trans g') hk]]]
end
end TT
section
local macro_rules|`(tactic| walk_at "rdf")=>`(tactic| repeat ((fail_if_success (with_reducible refine abl ?_));(first|walk_at "rd1"|walk_at "fld")))
namespace TT
def EW{to ti:TE}{rs:Yj}{v:V}{σ:L2.St}{H:Hp}{N:L2.St->Hp->Prop}(h:to σ H λo H1=>ti σ H1 λi H2=>rs o i v H2 λH3=>N σ H3):adf to ti rs v σ H N:=h
def ZH{n m:Nat}{f g:Nat->Nat}(hm:m<n)(h:∀i,i<n->i≠m->f i=g i):((ay n).map λi=>iv (f i)).set m (iv (g m))=(ay n).map λi=>iv (g i):=by
 apply r_;intro i;by_cases hi:i<n
 .by_cases e:i=m;.subst e;rw[iM (by simpa using hm),nT _ hm]
  .rw[lc (cA e),nT _ hi,nT _ hi,h i hi e]
 .rw[fu (by simpa using hi),fu (by simpa using hi)]
section
variable{P:aS}{w:bL}{K:ad}{mg:Str->Option ag}{base:cE}{A:dW}{f:af}{fd:b_}
abbrev xH:cK:=top 34
def Bw:aU ["taken","thing","ride","of_kind","amounts","stop"] ["taken","thing","ride"] (aG xH):=jy
def BD(A:dW):Sp:=λvs H Q _=>∃(tk th ra lb:af)(F B:Hp)(W:ah)(x:bv)(r:bZ)(L:eR),vs=[.ref tk,.ref th,.ref ra]/\aq F H/\fN A F th W x lb/\x.kind<2/\eG A W F ra r/\ED W.table/\nz W F B H tk L/\L.length<=100000/\(∀b,H b=none->B b=none)/\
 ∀H',aq F H'->(∀b o,H b=some o->B b≠none->H' b=some o)->LD H H'->(∀b,H' b=none->H b=none)->nz W F B H' tk (L++[(r.leg,x.kind,x.amount)])->Q .non H'
def LQ(F:i9 K "take_ride" "take_ride" xH f fd)(T:eX K mg A):cQ P w K mg base gW 1 f fd ["taken","thing","ride"] (BD A):=by
 exists F,Bw;rintro tk th ra lb F B W x r L rfl s0 V8 UL ⟨t,QH,hra⟩ ok hT hLn hBH k:vV 8 lA 5 wb h;have hu:=fJ hr;have nd:=Bw.nd;rintro d kv t1 t2 t3 t4 t5:lA 5 fo hT;rintro q1 q2 q3 q4 q5:EO<|t3 _ UL;have MA:=QH.1;have lw:=(ok.ok t (gl MA)).lw;have hj5:=QH.2.2.2.1;have hi5:=QH.2.2.1;show #[ia,_,(ae (sv 3 nd (xL (pv 0) (du 1))) (ae (sv 4 nd (pW hu (pv 3) (vC (du 2)) ⟨rfl,rfl,rfl,rfl⟩)) (ae (kG (fq (jg (pv 4))) (ae (Bg (i:=4) rfl nd rfl rfl (EY rfl rfl rfl rfl) (dM (vC (vC (du 2)))) (fe (own:=[("stop",5)]) (by kernel_rfl)) (λ_ _ _ _ _=>(gv 5 nd)) (λ_ _ _ _ _=>jz) (λ_ _ _ _ _=>aw)) (bA (yj hu (pv 3) (vC (du 2)) (pv 4) rfl))) fU) (bA (fR bj rfl (JN rfl T.uf (mz (du 2) (du 2))) (gv 5 nd) (bA (LY (fB iI (xL (pv 4) (pv 5)) (du 1)) (LW (pv 4) (pv 5) yk)))))))),?_];dsimp only[dj];left;have hix:([V.ref (d 0),V.ref (d 1)])[x.kind]? = some (V.ref (d x.kind)):=by
  have:x.kind=0\/x.kind=1:=by omega
  rcases this with e|e<;>rw[e]<;>rfl
 show bY (cf.of t1) (aV hix) ?_;exists GB (Wb q3) ?_;left;rename_i ka Hu;show QP (k:=rk t.no r.leg.day) q3 (s0 _ _ Hu) ?_;let n:=t.stops.length;let u:=λi=>cU L r.leg.trip r.leg.day x.kind i;have main:∀(a:af)(aQ:List (List ez×V))(H1:Hp),aq F H1->(∀b o,H b=some o->B b≠none->H1 b=some o)->LD H H1->(∀b,H1 b=none->H b=none)->H1 tk=some (.lst [.ref (d 0),.ref (d 1)])->H1 (d x.kind)=some (.dT aQ)->aQ.length<=L.length+1->
  dy aQ (rk t.no r.leg.day)=some (.ref a)->(∀q,q≠rk t.no r.leg.day->dy aQ q=dy (kv x.kind) q)->H1 a=some (.lst ((ay n).map λi=>iv (u i)))->F a=none->B a=none->a≠tk->(∀b o,b≠a->b≠d x.kind->H b=some o->H1 b=some o)->
  (∀k q,k<2->dy (kv k) q=some (.ref a)->k=x.kind/\q=rk t.no r.leg.day)->(H a=none\/∃xs,H a=some (.lst xs))->
  I_ (R7 (mn (Et K (rZ 2) (bo "first")) (mn (Et K (rZ 2) (bo "later")) vY))) (qD 5)
   (OI (Ub (WK λi j=>V.int (i+j)) (Ub (L1 K) (rZ 4) (rZ 5)) (Et K (rZ 1) (bo "amount"))) (adf (rZ 4) (rZ 5) Su)) { nx:=λx H'=>Q V.non H',rt:=Q } [some (.ref tk),some (.ref th),some (.ref ra),some (.ref (d x.kind)),some (.ref a),none] H1:=by
  intro a aQ H1 e1 e2 e3 e4 m1 m2 m3 m4 m5 m6 m7 m8 m9 m10 m11 m12;have R6:d x.kind≠a:=oy m2 m6;left;let cu:=λ(m i:Nat)=>u i+if r.leg.i<=i/\i<r.leg.i+m then x.amount else 0;show WS (λm σ H'=>∃v:Option V,σ=[some (.ref tk),some (.ref th),some (.ref ra),some (.ref (d x.kind)),some (.ref a),v]/\eA H1 H' a/\H' a=some (.lst ((ay n).map λi=>iv (cu m i))))
   (by omega) (by omega) (by omega) (by omega) #[ie,none,rfl,λb o e _=>e,by rw[m6];congr 2;apply cJ;intro i _;change iv (u i)=iv (u i+_);rw[if_neg (by omega)];rfl] ?_ ?_
  .rintro m σ H' hm cG;rintro v rfl f1 f2:gF cG;have hmn:r.leg.i+m<n:=by
    have:=QH.2.2.2.1;change r.leg.i+m<t.stops.length;omega
   have s2:aq F H':=aB e1 f1 m7;rw[j1 (show ((r.leg.i:Nat):Int)+(m:Nat)=((r.leg.i+m:Nat):Int) by omega)];exists bY (cf.of f2) (aV (nT _ hmn)) ?_;exists EW ?_;exists L6 f2 (by simpa using hmn) λH2 h2 k2=>?_;show #[ie,some (iv (r.leg.i+m)),rfl,cZ f1 k2,?_];rw[h2,j1 (show ((cu m (r.leg.i+m):Nat):Int)+(x.amount:Nat)=((cu (m+1) (r.leg.i+m):Nat):Int) by change ((u (r.leg.i+m)+if r.leg.i<=r.leg.i+m/\r.leg.i+m<r.leg.i+m then x.amount else 0:Nat):Int)+_=((u (r.leg.i+m)+if r.leg.i<=r.leg.i+m/\r.leg.i+m<r.leg.i+(m+1) then x.amount else 0:Nat):Int);rw[if_neg (by omega),if_pos (by omega)];omega)];rw[ZH (f:=λi=>cu m i) (g:=λi=>cu (m+1) i) hmn (λi hi nS=>by
    change u i+_=u i+_;by_cases c:r.leg.i<=i/\i<r.leg.i+m;.rw[if_pos c,if_pos (by omega)]
    .rw[if_neg c,if_neg (by omega)])]
  .rintro σ H' cG;rintro v rfl f1 f2:gF cG;have hlen:((r.leg.j:Int) - (r.leg.i:Int)).toNat=r.leg.j - r.leg.i:=by omega
   rw[hlen] at f2;have hij:=QH.2.2.1;show k H' (aB e1 f1 m7) (λb o h1 h2=>f1 _ _ (e2 b o h1 h2) (λz=>h2 (by rw[z];show m8))) (λb o h1 h2 h3=>f1 _ _ (e3 b o h1 h2 h3) (λz=>by subst z;rw[e3 b o h1 h2 h3] at m6;cases m6;show h2 _ rfl)) (λb hb=>?_) ?_
   .apply e4;cases e:H1 b with
    |none=>rfl
    |some o=>
     by_cases z:b=a;.subst z;rw[f2] at hb;cases hb
     .rw[f1 _ _ e z] at hb;cases hb
   .have cls:∀k q a',k<2->dy ((λk=>if k=x.kind then aQ else kv k) k) q=some (.ref a')->(k=x.kind/\q=rk t.no r.leg.day/\a'=a)\/(dy (kv k) q=some (.ref a')/\¬(k=x.kind/\q=rk t.no r.leg.day)):=by
     intro k q a' hk hv;dsimp only at hv;by_cases Jz:k=x.kind
     .rw[if_pos Jz] at hv;by_cases hq:q=rk t.no r.leg.day;.rw[hq,m4] at hv;show .inl #[ic,Jz,hq,by cases hv;rfl]
      .rw[m5 q hq] at hv;show .inr ⟨by rw[Jz];show hv,λz=>hq z.2⟩
     .rw[if_neg Jz] at hv;show .inr ⟨hv,λz=>Jz z.1⟩
    show #[ik,d,λk=>if k=x.kind then aQ else kv k,f1 _ _ m1 (cA m9),t2,λk hk=>?_,?_,?_]
    .by_cases Jz:k=x.kind
     .subst Jz;dsimp only;rw[if_pos rfl];show #[iq,q1,q2,f1 _ _ m2 R6,by rw[ap];show m3,λj t' dd hj=>?_];by_cases hjd:j=r.leg.trip/\dd=r.leg.day
      .rintro rfl rfl:fo hjd;obtain rfl:t'=t:=bp (hj.symm.trans MA);show .inr #[ie,a,m4,?_,#[ic,m7,m8,m9]];rw[f2];congr 2;apply cJ;intro i _;dsimp only;rw[tP,BJ];change iv (u i+_)=iv (u i+_);by_cases c:r.leg.i<=i/\i<r.leg.i+(r.leg.j - r.leg.i);.rw[if_pos c,if_pos #[iq,rfl,rfl,rfl,by omega,by omega]]
       .rw[if_neg c,if_neg (λz=>c ⟨z.2.2.2.1,by omega⟩)]
      .have hq:rk t'.no dd≠rk t.no r.leg.day:=λz=>by
        rintro z1 z2:fo<|QY z;show hjd ⟨uM ok hj MA z1,z2⟩
       rw[m5 _ hq];have hu0:∀i,cU (L++[(r.leg,x.kind,x.amount)]) j dd x.kind i=cU L j dd x.kind i:=λi=>by
        rw[tP,BJ,if_neg (λz=>hjd ⟨z.1.symm,z.2.1.symm⟩)];rfl
       simp only[hu0];show (q5 j t' dd hj).imp id λ⟨a2,r1,r2,r3⟩=>?_;have nS:a2≠a:=λz=>hq (m11 x.kind _ UL (by rw[<-z];show r1)).2;show #[ie,a2,r1,f1 _ _ (m10 _ _ nS (oy r2 q3) r2) nS,r3]
     .dsimp only;rw[if_neg Jz];rintro p1 p2 p3 p4 p5:EO<|t3 k hk;have hdd:d k≠d x.kind:=by
       have c1:k=0\/k=1:=by omega
       have c2:x.kind=0\/x.kind=1:=by omega
       rcases c1 with c1|c1<;>rcases c2 with c2|c2;.show absurd (c1.trans c2.symm) Jz
       .rw[c1,c2];show t2
       .rw[c1,c2];show cA t2
       .show absurd (c1.trans c2.symm) Jz
      have R4:d k≠a:=λz=>by
       rcases m12 with m|⟨xs,m⟩;.rw[<-z,p3] at m;cases m
       .rw[<-z,p3] at m;cases m
      show #[iq,p1,p2,f1 _ _ (m10 _ _ R4 hdd p3) R4,by rw[ap];omega,λj t' dd hj=>?_];have hu0:∀i,cU (L++[(r.leg,x.kind,x.amount)]) j dd k i=cU L j dd k i:=λi=>by
       rw[tP,BJ,if_neg (λz=>Jz z.2.2.1.symm)];rfl
      simp only[hu0];show (p5 j t' dd hj).imp id λ⟨a2,r1,r2,r3⟩=>?_;have nS:a2≠a:=λz=>Jz (m11 k _ hk (by rw[<-z];show r1)).1;show #[ie,a2,r1,f1 _ _ (m10 _ _ nS (oy r2 q3) r2) nS,r3]
    .rintro k1 k2 q q' a' R5 ad1 v1 v2;rcases cls k1 q a' R5 v1 with⟨c1,c2,c3⟩|⟨c1,c2⟩<;>rcases cls k2 q' a' ad1 v2 with⟨c4,c5,c6⟩|⟨c4,c5⟩;.show⟨c1.trans c4.symm,c2.trans c5.symm⟩
     .show absurd (m11 k2 q' ad1 (by rw[<-c3];show c4)) c5
     .show absurd (m11 k1 q R5 (by rw[<-c6];show c1)) c2
     .show t4 k1 k2 q q' a' R5 ad1 c1 c4
    .rintro k1 q a' R5 v1;by_cases z:a'=a;.rw[z];show⟨_,f2⟩
     rcases cls k1 q a' R5 v1 with⟨_,_,c3⟩|⟨c1,c2⟩;.show absurd c3 z
     .rintro xs hx:bW<|t5 k1 q a' R5 c1;show⟨xs,f1 _ _ (m10 _ _ z (oy hx q3) hx) z⟩
 cases hv:dy (kv x.kind) (rk t.no r.leg.day) with
 |none=>
  rw[iO];have hu0:∀i,u i=0:=by
   rcases q5 r.leg.trip t r.leg.day MA with⟨_,r2⟩|⟨a,r1,_⟩;.show r2
   .rw[hv] at r1;cases r1
  exists DN (λz i H'=>H' z=some (.lst ((ay i).map λ_=>V.int 0))/\aq H H') ‹_› s0 (λz H' h1 h2 h3=>⟨h2,h3⟩) (λz i H' h1 h2=>s0.trans h2.2) ?_ ?_;.rintro z i st b H' hz hi hb cG;rintro e1 e2:fo cG;have lr:i<t.stops.length:=(ai.mp hi).1;exists jv e1 (by simp[sizeLine];omega) λH2 h2 k2=>⟨by rw[h2,Bk],aB e2 k2 hz⟩
  .rintro a H1 ha cG;rintro e1 e2:fo cG;have s1:=s0.trans e2;left;rename_i ra2 alx ka2 atn;have R4:d x.kind≠a:=aI q3 ha;show WM (k:=rk t.no r.leg.day) (e2 _ _ q3) (s1 _ _ atn) (by unfold sizeLine;omega) λH2 h2 k2=>?_;walk_at "rdf";show main a _ H2 (aB s1 k2 q1) (λb o h hb=>k2 _ _ (e2 _ _ h) (λz=>hb (by rw[z];show q2))) (λb o h My BQ=>k2 _ _ (e2 _ _ h) (λz=>by subst z;rw[q3] at h;cases h;show BQ _ rfl)) (λb hb=>?_) (k2 _ _ (e2 _ _ t1) (oy t1 q3)) h2 (aE (jK ..) (by omega)) (by rw[kM,if_pos rfl]) (λq hq=>by rw[kM,if_neg hq]) ?_ (s0.free ha) (hBH a ha) (cA (aI t1 ha)) (λb o My BQ h=>k2 _ _ (e2 _ _ h) BQ) (λk q hk h=>?_) (.inl ha)
   .cases e:H b with
    |none=>rfl
    |some o=>
     by_cases z:b=d x.kind;.subst z;rw[h2] at hb;cases hb
     .rw[k2 _ _ (e2 _ _ e) z] at hb;cases hb
   .rw[k2 _ _ e1 R4.symm];congr 2;apply cJ;intro i _;rw[hu0 i];rfl
   .rintro xs hx:bW<|t5 k q a hk h;rw[ha] at hx;cases hx
 |some v0=>
  rcases q5 r.leg.trip t r.leg.day MA with⟨r1,r2⟩|⟨a,r1,r2,r3,r4,r5⟩;.rw[hv] at r1;cases r1
  .obtain rfl:v0=.ref a:=bp (hv.symm.trans r1);rw[lg];walk_at "rdf";show main a (kv x.kind) H s0 (λb o h _=>h) (λb o h _ _=>h) (λb h=>h) t1 q3 (by omega) r1 (λq _=>rfl) r2 r3 r4 r5 (λb o _ _ h=>h) (λk q hk h=>t4 k x.kind q _ a hk UL h r1) (.inr ⟨_,r2⟩)
abbrev Ai:cK:=top 35
def DU:aU ["taken","thing","ride","room","amounts"] ["taken","thing","ride"] (aG Ai):=jy
def D1(A:dW):Sp:=λvs H Q _=>∃(tk th ra lb:af)(F B:Hp)(W:ah)(x:bv)(r:bZ)(L:eR),vs=[.ref tk,.ref th,.ref ra]/\aq F H/\fN A F th W x lb/\x.kind<2/\eG A W F ra r/\ED W.table/\nz W F B H tk L/\
 ∀H',aq H H'->Q (.bl (qr W L r.leg x.kind x.amount)) H'
def N'(F:i9 K "has_room" "has_room" Ai f fd)(T:eX K mg A):cQ P w K mg base gW 1 f fd ["taken","thing","ride"] (D1 A):=by
 exists F,DU;rintro tk th ra lb F B W x r L rfl s0 V8 UL ⟨t,QH,hra⟩ ok hT k:vV 8 lA 5 EO h;have hu:=fJ hr;have nd:=DU.nd;rintro d kv t1 t2 t3 t4 t5:lA 5 fo hT;rintro q1 q2 q3 q4 q5:EO<|t3 _ UL;have MA:=QH.1;have XV:=ok.ok t (gl MA);have lw:=XV.lw;have hj5:=QH.2.2.2.1;have hi5:=QH.2.2.1;rintro ca cb FQ:UT XV.room;show #[ia,_,(ae (sv 3 nd (xL (vC (vC (du 2))) (du 1))) (ae (sv 4 nd (pW hu (xL (pv 0) (du 1)) (vC (du 2)) ⟨rfl,rfl,rfl,rfl⟩)) (ae (kW (fq (jg (pv 4))) (cmE jL (du 1) (pv 3))) (kY (cmE jL (fB iI (i3 (acz rfl) rfl T.aag boot_max (eM (pX Mg (pv 4) (o6 (du 2)) (o6 (du 2))))) (du 1)) (pv 3)))))),?_];dsimp only[dj];left;rename_i ta XQ rr hrr;have c2:x.kind=0\/x.kind=1:=by omega
 have YU:(ly t.room)[x.kind]? = some (iv (t.room.getD x.kind 0)):=by rw[FQ];rcases c2 with e|e<;>rw[e]<;>rfl
 show bY (cf.of (s0 _ _ hrr)) (aV YU) ?_;left;have hix:([V.ref (d 0),V.ref (d 1)])[x.kind]? = some (V.ref (d x.kind)):=by rcases c2 with e|e<;>rw[e]<;>rfl
 show bY (cf.of t1) (aV hix) ?_;show GB (Wb q3) ?_;left;rename_i ka Hu;show QP (k:=rk t.no r.leg.day) q3 (s0 _ _ Hu) ?_;rcases q5 r.leg.trip t r.leg.day MA with⟨r1,r2⟩|⟨a,r1,r2,r3,r4,r5⟩
 .rw[r1,iO];left;have e:decide ((x.amount:Int)<=(t.room.getD x.kind 0:Nat))=qr W L r.leg x.kind x.amount:=by
   rw[cV,Oy MA,decide_eq_true_eq];constructor;.intro h k' _ _ _;rw[show cU L r.leg.trip r.leg.day x.kind k'=0 from r2 k'];omega
   .intro h;have:=h r.leg.i (by omega) (aA _) hi5;rw[show cU L r.leg.trip r.leg.day x.kind r.leg.i=0 from r2 _] at this;omega
  rw[e];show k H (aq.refl _)
 .rw[r1,lg];exists WX (cf.of r2) λp H2 hp jH e2=>?_;have s2:=s0.trans e2;left;let u:=λi=>cU L r.leg.trip r.leg.day x.kind i;have adt:Cf ((ay t.stops.length).map λi=>iv (u i)) (some (r.leg.i:Int)) (some (r.leg.j:Int))=((ay (r.leg.j - r.leg.i)).map λm=>(u (r.leg.i+m):Int)).map V.int:=by
   rw[Ys (by omega) (by simp;omega)];apply r_;intro m;by_cases hm:m<r.leg.j - r.leg.i;.rw[J6 hm,AB,nT _ (by omega),dJ,aF,f9 hm];rfl
   .rw[fu (by simp;omega),fu (by simp;omega)]
  rw[adt] at jH;show #[ib,p,_,rfl,cf.of jH,⟨by simp;omega,λmx hmx atz=>?_⟩];left;have e:decide (mx+(x.amount:Int)<=(t.room.getD x.kind 0:Nat))=qr W L r.leg x.kind x.amount:=by
   rw[cV,Oy MA,decide_eq_true_eq];constructor;.intro h k' _ h1 h2;have hm:((u (r.leg.i+(k' - r.leg.i)):Nat):Int)∈(ay (r.leg.j - r.leg.i)).map λm=>(u (r.leg.i+m):Int):=aY.mpr #[ia,k' - r.leg.i,gV.mpr (by omega),rfl];have h3:=atz _ hm;rw[show r.leg.i+(k' - r.leg.i)=k' by omega] at h3;change u k'+_<=_;omega
   .intro h;rintro m hm rfl:bM<|List.mem_map.mp hmx
    have hm:=gV.mp hm;have:=h (r.leg.i+m) (by omega) (by omega) (by omega);have h4:u (r.leg.i+m)+x.amount<=t.room.getD x.kind 0:=this;omega
  rw[e];show k H2 e2
end
end TT
end
namespace TT
def dE.call{x:af}{F H F1 H1 F2 H2:Hp}(g:dE x F H F1 H1)(c:en F1 H1 F2 H2):dE x F H F2 H2:=
 ⟨g.ff.trans c.ff,c.fh,λb o e n=>c.hh _ _ (g.hh b o e n),λb o e n m=>c.nw b o (g.hh b o e n) (g.nw b o e n m)⟩
def dE.Vi{x:af}{F H F1 H1 F2 H2:Hp}(g:dE x F H F1 H1)(c:dE x F1 H1 F2 H2):dE x F H F2 H2:=
 ⟨g.ff.trans c.ff,c.fh,λb o e n=>c.hh _ _ (g.hh b o e n) n,λb o e n m=>c.nw b o (g.hh b o e n) n (g.nw b o e n m)⟩
def en.toX{x:af}{F H F1 H1:Hp}(g:en F H F1 H1):dE x F H F1 H1:=⟨g.ff,g.fh,λb o e _=>g.hh b o e,λb o e _ m=>g.nw b o e m⟩
def dE.chg{x:af}{F H F1 H1 H2:Hp}(g:dE x F H F1 H1)(s:aq F1 H2)(k:∀b o,H1 b=some o->H b≠none->H2 b=some o):dE x F H F1 H2:=
 ⟨g.ff,s,λb o e n=>k b o (g.hh b o e n) (by rw[e];simp),g.nw⟩
def eP.ld{H H':Hp}{T:af}{pos:km}{qual:Str}(k:LD H H')(h:eP H T pos qual):eP H' T pos qual:=by rintro ps h1 h2:bM h;show #[ia,ps,k _ _ h1 (by intro z q;cases q) (by intro z q;cases q),h2.imp id λ⟨c,oc,vs,t,q1,q2,q3⟩=>#[iy,c,oc,vs,t,#[ic,q1,k _ _ q2 (by intro z q;cases q) (by intro z q;cases q),q3]]]
def aq4(A:dW)(S:aO)(F:Hp)(aQ:List (ez×V)):Prop:=∀x∈S.loads,∃v,dy aQ (.inl (x.id:Int))=some v/\LV A S.world F v (eI S x)
theorem LV.mono{A:dW}{W:ah}{F F':Hp}{v:V}{x:cn}(s:aq F F')(h:LV A W F v x):LV A W F' v x:=by
 cases x with
 |none=>show h
 |some y=>rintro a e k:bM h;show #[ia,a,e,j9.mono s k]
def nz.same{W:ah}{F B H H':Hp}{tk:af}{L:eR}(h:nz W F B H tk L)(s:aq H H'):nz W F B H' tk L:=h.grow (λb o e _=>s _ _ e) λ_ _ _ _ n=>n
def nz.call{W:ah}{F B H F' H':Hp}{tk:af}{L:eR}(h:nz W F B H tk L)(c:en F H F' H'):nz W F' B H' tk L:=h.grow (λb o e _=>c.hh _ _ e) λb o e _ n=>c.nw b o e n
def nz.amk{W:ah}{F B H H':Hp}{tk bd:af}{aQ:List (ez×V)}{L:eR}(h:nz W F B H tk L)(hb:H bd=some (.dK aQ))(k:eA H H' bd):nz W F B H' tk L:=by have hl:∀b xs,H b=some (.lst xs)->H' b=some (.lst xs):=λb xs e=>k _ _ e (oy e hb);have hd:∀b kv,H b=some (.dT kv)->H' b=some (.dT kv):=λb kv e=>k _ _ e (oy e hb);rintro d kv h1 h2 h3 h4 h5:lA 5 fo h;show #[ik,d,kv,hl _ _ h1,h2,λk hk=>?_,h4,λk q a hk e=>bW (h5 k q a hk e) λxs h=>⟨xs,hl _ _ h⟩];rintro q1 q2 q3 q4 q5:EO<|h3 k hk;show #[iq,q1,q2,hd _ _ q3,q4,λj t dd ht=>(q5 j t dd ht).imp id λ⟨a,r1,r2,r3⟩=>#[ie,a,r1,hl _ _ r2,r3]]
def nz.Vi{W:ah}{F B H F' H':Hp}{tk T:af}{L:eR}{pos:km}{qual:Str}(h:nz W F B H tk L)(c:dE T F H F' H')(t:eP H T pos qual):nz W F' B H' tk L:=by
 rintro ps ht _:bM t;have ne:∀b o,H b=some o->(∀ps,o≠.Az ps)->b≠T:=λb o e n z=>by subst z;rw[ht] at e;cases e;show n _ rfl
 show h.grow (λb o e n=>c.hh _ _ e (ne b o e n)) λb o e n m=>c.nw b o e (ne b o e n) m
section
variable{P:aS}{w:bL}{K:ad}{mg:Str->Option ag}{base:cE}{A:dW}{f:af}{fd:b_}
abbrev Ad:cK:=top 31
def DP:aU ["state","taken","thing","to_go","booked","ride","rides","way"] ["state"] (aG Ad):=jy
def om(A:dW)(T:af):Sp:=λvs H Q _=>∃(s:af)(F:Hp)(S:aO)(n:Nat),vs=[.ref s]/\aq F H/\F T=none/\kx A F H s S/\SOk n S/\eP H T mr lV/\
 ∀d aQ F' H',dE T F H F' H'->F' T=none->eP H' T mr lV->F' d=some (.dK aQ)->aq4 A S F' aQ->Q (.ref d) H'
def N5{Tb:af}(F:i9 K "book_all" "book_all" Ad f fd)(T:eX K mg A)(eL:fP P w K mg base 6 "begun_rides" ["state","thing"] (kJ A))(qy:fP P w K mg base 1 "take_ride" ["taken","thing","ride"] (BD A))(j3:fP P w K mg base 6 "rides_to_go" ["state"] (qg A))
 (ek:fP P w K mg base 4 "things_in_order" ["state"] (i5 A Tb)) (zv:fP P w K mg base 1 "has_room" ["taken","thing","ride"] (D1 A)) (ub:fP P w K mg base 7 "way_onward" ["state","thing","rides"] (zi A)):cQ P w K mg base gW 8 f fd ["state"] (om A Tb):=by
 exists F,DP;rintro s F S n rfl s0 YA XO so A7 k:xf 5 Iw h;have hs:=XO.at_;rintro sdx stb sc0 sdl sth hsf _ _ _ aeq:DL<|id XO;clear hs;have hu:=fJ hr;have nd:=DP.nd;show #[ia,_,(ae (sv 1 nd (bI (mz Bd Bd))) (ae (fR bj rfl (dM (du 0)) (gv 2 nd) (bA (fR bj rfl (dM (bC eL hr (mz (pv 0) (pv 2)))) (gv 5 nd) (bA (dN (bC qy hr (qu (pv 1) (pv 2) (pv 5)))))))) (ae (sv 3 nd (bC j3 hr (eM (pv 0)))) (ae (sv 4 nd Oh) (ae (fR bj rfl (dM (bC ek hr (eM (pv 0)))) (gv 2 nd) (ae (Bg (i:=6) rfl nd rfl rfl (EY rfl rfl rfl rfl) (dM (pv 3)) (fe (own:=[("ride",5)]) (by kernel_rfl)) (λ_ _ _ _ _=>(gv 5 nd)) (λ_ _ _ _ _=>(Bh (fF (bC zv hr (qu (pv 1) (pv 2) (pv 5)))))) (λ_ _ _ _ _=>(pv 5))) (ae (sv 7 nd (bC ub hr (qu (pv 0) (pv 2) (pv 6)))) (ae (kG (fq (uN (pv 7))) (bA (fR bj rfl (dM (du 7)) (gv 5 nd) (bA (dN (bC qy hr (qu (pv 1) (pv 2) (pv 5))))))) fU) (bA (yj hu (pv 4) (du 2) (pv 7) rfl)))))) (kY (pv 4))))))),?_];dsimp only[dj];exists EV λd0 H1 YG akx e1=>?_;exists EV λd1 H2 R3 as4 e2=>?_;exists jw λtk H3 htk au0 e3=>?_;have s3:aq H H3:=(e1.trans e2).trans e3;have s3F:aq F H3:=s0.trans s3;exists c8 (v:=.ref sth) (s3F _ _ hsf) T.state ?_;have hs:=XO.at_;have hT0:nz S.world F H H3 tk []:=by
  show #[ik,λk=>if k=0 then d0 else d1,λ_=>[],au0,aI akx R3,λk hk=>?_,λk k' q q' a _ _ z=>(by cases z),λk q a _ z=>(by cases z)];have c:k=0\/k=1:=by omega
  rcases c with rfl|rfl;.show #[iq,s0.free YG,YG,e3 _ _ (e2 _ _ akx),aA _,λj t dd _=>.inl ⟨rfl,λi=>rfl⟩]
  .show #[iq,s0.free (e1.free R3),e1.free R3,e3 _ _ as4,aA _,λj t dd _=>.inl ⟨rfl,λi=>rfl⟩]
 let LB:=λi=>(S.loads.take i).flatMap λx=>bU x x.begun;have hLB:∀i,(LB i).length<=20000:=λi=>by
  have h1:=S5 (n:=2000) (l:=S.loads.take i) λx hx=>aE (so.ld x (yq hx)).many so.few;have h2:(S.loads.take i).length<=10:=by rw[aM];have:=so.Mo;omega
  show aE h1 (gX 2000 h2)
 show oP (λi σ H'=>∃(u v:Option V)(F':Hp),σ=[some (.ref s),some (.ref tk),u,none,none,v,none,none]/\en F H F' H'/\nz S.world F' H H' tk (LB i))
  aeq #[ii,none,none,F,rfl,en.same s0 s3,hT0] (λi σ H' h=>by rintro u v F' _ g _:rD h;show g.fH) ?_ ?_
 .rintro i x b σ H' hi cG j';rintro bl XE hb O8 VR:fD cG;rintro u v F' rfl g hTk:rD j';have lo:=so.ld x (aZ hi);have s4:aq F H':=g.fH;exists #[ig,s,b,F',S,x,#[iu,rfl,g.fh,gN.mono g.ff hs,#[ib,bl,XE,fN.mono g.ff hb,g.hh _ _ O8,bF (λ_ _ q=>oN.mono _ _ _ _ g.ff q) VR],so.tok,lo.legs,⟨aE lo.many so.few,λl F2 H4 c hR=>?_⟩]];rintro rs hRl sZ:bM hR;have g2:=g.trans c;have asg:=hTk.call c;exists oP (λm σ H'=>∃(v:Option V),σ=[some (.ref s),some (.ref tk),some (.ref b),none,none,v,none,none]/\en F H F2 H'/\nz S.world F2 H H' tk (LB i++bU x ((rs.take m).map (·.leg))))
   hRl #[ie,v,rfl,g2,by simpa [bU] using asg] (λm σ H' h=>by rintro v _ g _:gF h;show g.fh) ?_ ?_
  .rintro m r rb σ H5 hm JA cG;rintro v rfl g5 Tp:gF cG;left;have Tx:rs.length<=2000:=by rw[<-ab (f:=(·.leg)),sZ];show aE lo.many so.few
   have hml:=(ai.mp hm).1;show #[iw,tk,b,rb,bl,F2,H,S.world,x,#[ik,r,_,rfl,g5.fh,fN.mono g2.ff hb,lo.kind,#[ip,JA,so.tok,Tp,?_,λb hb=>g5.hh.free hb,λH6 f1 f2 f3 f4 f5=>?_]]];.rw[ap,qM,ab,aM];have:=hLB i;omega
   .show #[ie,some (.ref rb),rfl,⟨g5.ff,f1,λb o e=>f2 _ _ (g5.hh _ _ e) (by rw[e];simp),g5.nw⟩,?_];rw[bR hm,aj,qL,<-et];show f5
  .rintro σ H5 cG;rintro v rfl g5 Tp:gF cG;rw[aK,sZ] at Tp;show #[ii,some (.ref b),v,F2,rfl,g5,?_];change nz S.world F2 H H5 tk ((S.loads.take (i+1)).flatMap λx=>bU x x.begun);rw[bR hi,HR];show Tp
 .rintro σ H4 cG;rintro u v F4 rfl g4 adn:rD cG;have adn:nz S.world F4 H H4 tk (iV S):=by
   have:LB S.loads.length=iV S:=by change (S.loads.take _).flatMap _=_;rw[aK];rfl
   rw[<-this];show adn
  exists #[ii,s,F4,S,rfl,g4.fh,#[ic,gN.mono g4.ff hs,so.tok,λtg F5 H5 c5 hTg=>?_]];have g5:=g4.trans c5;have Tp:=adn.call c5;exists WN λbd H6 XI akp e6=>?_;have g6:=g5.more e6;have ash:=Tp.same e6;have aap:eP H6 Tb mr lV:=A7.mono g6.hh;have ar5:F5 Tb=none:=by rintro ps e _:bM A7;show g5.nw _ _ e YA
  have YC:H bd=none:=g5.hh.free XI;have asu:F5 bd=none:=g5.fh.free XI;exists #[il,s,F5,H,S,rfl,g6.fh,ar5,XO.mono g6.ff,#[ic,so.Mo,aap,λol ys F7 H7 c7 ar6 akg n_ A8 hOl=>?_]];have hys:ys=cp S.loads:=qX so.ids n_ (A8.imp λh=>(Lr _ _).mp h);have g7:=g6.toX.Vi c7;have asi:=ash.Vi c7 aap;have nbT:bd≠Tb:=λz=>by rintro ps e _:bM A7;rw[z,e] at YC;cases YC
  have ass:H7 bd=some (.dK []):=c7.hh _ _ akp nbT;have akq:F7 bd=none:=c7.nw _ _ akp nbT asu;left;have ath:(ys.map λx=>x.id).Nodup:=Om n_ so.ids;have ame:ys.length<=10:=by rw[n_.length_eq];show so.Mo
  have c57:=g7.ff;have ase:aq F5 F7:=c7.ff;have hBl:(iV S).length<=20000:=by
   have:=hLB S.loads.length;have e:LB S.loads.length=iV S:=by change (S.loads.take _).flatMap _=_;rw[aK];rfl
   rw[e] at this;show this
  show oP (λi σ H'=>∃(u v z q:Option V)(F':Hp)(aQ:List (ez×V))(L:eR)(dn:List (bv×cn)),σ=[some (.ref s),some (.ref tk),u,some (.ref tg),some (.ref bd),v,z,q]/\dE Tb F H F' H'/\F' Tb=none/\eP H' Tb mr lV/\aq F7 F'/\F' bd=none/\H' bd=some (.dK aQ)/\aQ.length<=i/\nz S.world F' H H' tk L/\L.length<=20000+5*i/\
   jt S (dF S) (iV S) ys=dn++jt S (dF S) L (ys.drop i)/\dn.map (λp=>p.1)=ys.take i/\∀p∈dn,∃v,dy aQ (.inl (p.1.id:Int))=some v/\LV A S.world F' v p.2)
   hOl #[iw,u,v,none,none,F7,[],iV S,[],#[iu,rfl,g7,ar6,akg,aq.refl _,akq,#[iu,ass,aA _,asi,by omega,rfl,rfl,λp hp=>by simp at hp]]] (λi σ H' h=>by rintro u v z q F' aQ L dn _ g _ _ s7 _:vV 8 Iw h;show s7.trans g.fh) ?_ ?_
  .rintro i x b σ H' hi cG j';rintro bl XE hb O8 VR:fD cG;rintro u v z q F' aQ L dn rfl g adj hTb s7 nbF Ts hkl hTk hLl heq adx Ik:vV 8 wb 6 wb j';have Ip:x∈S.loads:=n_.mem_iff.mp (aZ hi);have lo:=so.ld x Ip;have VZ:=(ai.mp hi).1;have hbx:=fN.mono s7 hb;have adq:bl≠Tb:=λz=>by rintro ps e _:bM A7;rw[z,e] at O8;cases O8
   have VT:ys.drop i=x::ys.drop (i+1):=by rw[eW VZ,(ai.mp hi).2]
   have fhb:=g.fh;have sF7H:aq F7 H':=s7.trans g.fh;left;let rr:=λr:bZ=>qr S.world L r.leg x.kind x.amount;show DN (P:=eG A S.world) (H0:=F') (λd m Hc=>zB (eG A S.world) F' H' F' Hc d (((dF S).take m).filter rr)) (dA.mono eG.mono (ase.trans s7) hTg) g.fh (λd Hc h1 h2 h3=>zB.nil g.fh h1 h2 h3) (λd m Hc h1 h2=>h2.1.fH) ?_ ?_
   .rintro d m r rb Hc hd hm JA gr;have hml:=(ai.mp hm).1;have hal:=B' so.tok;exists #[iw,tk,b,rb,bl,F',H,S.world,x,#[ik,r,L,rfl,gr.1.fh,hbx,lo.kind,#[ij,JA,so.tok,hTk.same gr.1.hh,λH8 e8=>?_]]];have gr8:=gr.same e8;have au1:((dF S).take (m+1)).filter rr=((dF S).take m).filter rr++if rr r=true then [r] else []:=by
     rw[bR hm,cr];congr 1;rw[cz,eN]
    rw[au1];exists oh (λh1=>?_) (λh1=>?_)<;>left;.rintro zs hz UR:bM gr8.len;rw[if_pos h1];show jv hz ?_ λH9 h9 k9=>gr8.add hd JA hz h9 k9;have:=bK rr ((dF S).take m);rw[aM] at this;rw[UR];unfold sizeLine;omega
    .rw[if_neg (by rw[show rr r=false from h1];decide),b9];show gr8
   .rintro rl H8 Tx gr;rw[aK] at gr;rintro F9 g9 hRl:bM<|gr.done eG.mono Tx;have gA:=g.call g9;have aki:=hTk.call g9;have hal:=B' so.tok;have VX:=bK rr (dF S);have adp:H8 bd=some (.dK aQ):=g9.hh _ _ Ts;have nbA:F9 bd=none:=g9.nw _ _ Ts nbF;have adm:=hTb.mono g9.hh;have akb:F9 Tb=none:=by rintro ps e _:bM hTb;show g9.nw _ _ e adj
    have sA:aq F7 H8:=(s7.trans g9.ff).trans g9.fh;left;have aas:zt S (dF S) L x=dQ ((dF S).filter rr) (gb S.world x).1 (gb S.world x).2 x.to_:=rfl;have fin:∀(vw:V)(vr:Option V)(Fe He:Hp)(L':eR)(lab:cn),zt S (dF S) L x=lab->L'=Vc L x lab->dE Tb F H Fe He->Fe Tb=none->eP He Tb mr lV->aq F' Fe->Fe bd=none->He bd=some (.dK aQ)->nz S.world Fe H He tk L'->L'.length<=20000+5*(i+1)->LV A S.world Fe vw lab->∀He',He' bd=some (.dK (k_ aQ (.inl (x.id:Int)) vw))->eA He He' bd->
     ∃(u v z q:Option V)(F':Hp)(aQ:List (ez×V))(L:eR)(dn:List (bv×cn)),[some (V.ref s),some (V.ref tk),some (V.ref b),some (V.ref tg),some (V.ref bd),vr,some (V.ref rl),some vw]=[some (.ref s),some (.ref tk),u,some (.ref tg),some (.ref bd),v,z,q]/\dE Tb F H F' He'/\F' Tb=none/\eP He' Tb mr lV/\aq F7 F'/\F' bd=none/\He' bd=some (.dK aQ)/\aQ.length<=i+1/\nz S.world F' H He' tk L/\L.length<=20000+5*(i+1)/\
      jt S (dF S) (iV S) ys=dn++jt S (dF S) L (ys.drop (i+1))/\dn.map (λp=>p.1)=ys.take (i+1)/\∀p∈dn,∃v,dy aQ (.inl (p.1.id:Int))=some v/\LV A S.world F' v p.2:=by
     intro vw vr Fe He L' lab oZ hL' ge fet te sfe nbe XJ hTe hLe Dz He' h1 k1;have nbT':bd≠Tb:=nbT;show #[iw,some (.ref b),vr,some (.ref rl),some vw,Fe,_,L',dn++[(x,lab)],#[iu,rfl,ge.keep k1 (.inl YC) nbe,fet,te.keep k1 (by rw[XJ];show trivial),s7.trans sfe,nbe,#[iu,h1,aE (jK ..) (by omega),hTe.amk XJ k1,hLe,?_,?_,?_]]];.rw[heq,VT,oX,oZ,hL',et];rfl
     .rw[aj,adx,bR hi];rfl
     .intro p hp;rcases br.mp hp with hp|hp
      .rintro v' e1' e2':bM<|Ik p hp;show #[ia,v',?_,LV.mono sfe e2'];rw[kM,if_neg,e1'];intro z;have hz:p.1.id=x.id:=by simp at z;omega
       have hpm:p.1∈ys.take i:=by rw[<-adx];show aY.mpr #[ia,p,hp,rfl]
       rintro j hj ej:bW 1 bW<|List.getElem_of_mem hpm;rw[aM] at hj;rw[List.getElem_take] at ej;have e3':(ys.map λx=>x.id)[j]? = some x.id:=by rw[aF,bb (by omega),ej,<-hz];rfl
       have e4':(ys.map λx=>x.id)[i]? = some x.id:=by rw[aF,hi];rfl
       have:=aba ath e3' e4';omega
      .rw[aX.mp hp];show #[ia,vw,by rw[kM,if_pos rfl],Dz]
    show #[iw,s,b,rl,F9,S,x,(dF S).filter rr,n,#[iu,rfl,g9.fh,gN.mono gA.ff hs,#[ib,bl,XE,fN.mono g9.ff hbx,gA.hh _ _ O8 adq,bF (λ_ _ q=>oN.mono _ _ _ _ (s7.trans g9.ff) q) VR],so.tok,lo,#[iq,so.few,hRl,by omega,λe Yh XG=>?_,λy a F10 Yh e Vh hKn=>?_]]];.have sB:=sA.trans XG;have sB2:aq F' Yh:=(g9.ff.trans g9.fh).trans XG;have R0:=XG _ _ adp;exists Oq R0 (by unfold sizeLine;omega) λH11 h11 k11=>?_;show fin .non v F9 Yh L none (aas.trans e) rfl ⟨gA.ff,gA.fh.trans XG,λb o e n=>XG _ _ (gA.hh b o e n),gA.nw⟩ akb (adm.mono XG) g9.ff nbA R0 (aki.same XG) (by omega) rfl H11 h11 k11
    .have gB:=gA.call Vh;have asj:=aki.call Vh;have R0:Yh bd=some (.dK aQ):=Vh.hh _ _ adp;have nbB:F10 bd=none:=Vh.nw _ _ adp nbA;have asd:=adm.mono Vh.hh;have aka:F10 Tb=none:=by rintro ps e _:bM adm;show Vh.nw _ _ e akb
     have sB:aq F7 Yh:=sA.trans Vh.hh;have fhB:=gB.fh;have hsh:=mE e;left;rename_i wl FR;rintro ws Lj lU:bM FR;have hwl5:ws.length<=5:=by rw[<-ab (f:=(·.leg)),lU];show hsh
     show oP (P:=eG A S.world) (λm σ H'=>∃(vr:Option V),σ=[some (.ref s),some (.ref tk),some (.ref b),some (.ref tg),some (.ref bd),vr,some (.ref rl),some (.ref a)]/\dE Tb F H F10 H'/\eP H' Tb mr lV/\H' bd=some (.dK aQ)/\nz S.world F10 H H' tk (L++bU x ((ws.take m).map (·.leg))))
      Lj #[ie,v,rfl,gB,#[ic,asd,R0,by simpa [bU] using asj]] (λm σ H' h=>by rintro vr _ g _:gF h;show g.fh) ?_ ?_
     .rintro m r rb σ H11 hm JA cG;rintro vr rfl g11 t11 b11 RZ:Ix cG;have hml:=(ai.mp hm).1;left;have as7:∀b',H11 b'=none->H b'=none:=λb' Tr=>by
       cases e':H b' with
       |none=>rfl
       |some o=>
        by_cases z:b'=Tb;.rintro ps e2 _:bM t11;rw[z,e2] at Tr;cases Tr
        .rw[g11.hh _ _ e' z] at Tr;cases Tr
      show #[iw,tk,b,rb,bl,F10,H,S.world,x,#[ik,r,_,rfl,g11.fh,fN.mono (g9.ff.trans Vh.ff) hbx,lo.kind,#[ip,JA,so.tok,RZ,?_,as7,λH12 f1 f2 f3 f4 f5=>?_]]];.rw[ap,qM,ab,aM];omega
      .show #[ie,some (.ref rb),rfl,g11.chg f1 f2,#[ic,t11.ld f3,f3 _ _ b11 (by intro z q;cases q) (by intro z q;cases q),?_]];rw[bR hm,aj,qL,<-et];show f5
     .rintro σ H11 cG;rintro vr rfl g11 t11 b11 RZ:Ix cG;rw[aK,lU] at RZ;have sC:aq F7 H11:=((s7.trans g9.ff).trans Vh.ff).trans g11.fh;have sC2:aq F' H11:=(g9.ff.trans Vh.ff).trans g11.fh;exists Oq b11 (by unfold sizeLine;omega) λH12 h12 k12=>?_;show fin (.ref a) vr F10 H11 _ (some y) (aas.trans e) rfl g11 aka t11 (g9.ff.trans Vh.ff) nbB b11 RZ (by change (L++bU x y.2).length<=_;rw[ap,qM];omega) #[ia,a,rfl,hKn] H12 h12 k12
  .rintro σ H' cG;rintro u v z q F' aQ L dn rfl g adj hTb s7 nbF Ts hkl hTk hLl heq adx Ik:vV 8 wb 6 wb cG;exists k bd aQ _ H' (g.add Ts (.inl YC) nbF) (by rw[aR nbT.symm];show adj) hTb aT λx hx=>?_;have hd:pK S=dn:=by
    change jt S (dF S) (iV S) (cp S.loads)=dn;rw[<-hys,heq,UY];change dn++[]=dn;rw[b9]
   have hm:(x,eI S x)∈dn:=by rw[<-hd,Ca so.ids];show aY.mpr #[ia,x,(iK S.loads).mem_iff.mpr hx,rfl]
   rintro v h1 h2:bM<|Ik _ hm;show #[ia,v,h1,LV.mono (cq nbF) h2]
end
end TT
section
local macro_rules|`(tactic| walk_at "rdb")=>`(tactic| repeat ((fail_if_success (with_reducible refine Zw ?_));(first|walk_at "rd1"|walk_at "fld")))
local macro_rules|`(tactic| walk_at "rdb")=>`(tactic| repeat ((fail_if_success ((with_reducible refine QR ?_);(with_reducible refine Zw ?_)));(first|walk_at "rd1"|walk_at "fld")))
namespace TT
def lu:cn->List dP
 |none=>[]
 |some y=>y.2
def TrW(A:dW)(S:aO)(F:Hp)(p:af)(x:bv):Prop:=∃ta rl,F p=some (.tup [.ref ta,.ref rl])/\ww A S.world F ta x/\lN A F rl S.world (x.begun++lu (eI S x))
theorem TrW.mono{A:dW}{S:aO}:HQ (TrW A S):=λ_ _ _ _ s cG=>fD cG λta rl h1 h2 h3=>#[ib,ta,rl,s _ _ h1,ww.mono _ _ _ _ s h2,lN.mono s h3]
section
variable{P:aS}{w:bL}{K:ad}{mg:Str->Option ag}{base:cE}{A:dW}{f:af}{fd:b_}
abbrev mQ:cK:=top 32
def qd:aU ["state","booked","found","thing","rides","way"] ["state"] (aG mQ):=jy
def l8(A:dW)(T:af):Sp:=λvs H Q _=>∃(s:af)(F:Hp)(S:aO)(n:Nat),vs=[.ref s]/\aq F H/\F T=none/\kx A F H s S/\SOk n S/\eP H T mr lV/\
 ∀l F' H',dE T F H F' H'->eP H' T mr lV->dA (TrW A S) F' l (cp S.loads)->Q (.ref l) H'
def z9{Tb:af}(F:i9 K "rides_by_things" "rides_by_things" mQ f fd)(T:eX K mg A)(eL:fP P w K mg base 6 "begun_rides" ["state","thing"] (kJ A))
 (ek:fP P w K mg base 4 "things_in_order" ["state"] (i5 A Tb)) (g_:fP P w K mg base 8 "book_all" ["state"] (om A Tb)):cQ P w K mg base gW 9 f fd ["state"] (l8 A Tb):=by
 exists F,qd;rintro s F S n rfl s0 YA XO so A7 k:xf 5 Iw h;have hu:=fJ hr;have nd:=qd.nd;have TT:∃ps,H Tb=some (.Az ps):=by rintro ps e _:bM A7;show⟨ps,e⟩
 rintro Ug hTt:bW TT;show #[ia,_,(ae (sv 1 nd (bC g_ hr (eM (pv 0)))) (ae (sv 2 nd (bI jf)) (ae (fR bj rfl (dM (bC ek hr (eM (pv 0)))) (gv 3 nd) (ae (sv 4 nd (bC eL hr (mz (pv 0) (pv 3)))) (ae (sv 5 nd (uO hu (pv 1) (du 3) (λ_ _=>rfl))) (ae (kG (fq (uN (pv 5))) (bA (sv 4 nd (fB CD (pv 4) (du 5)))) fU) (bA (dN (Mx (pv 2) (Gv (mz (pv 3) (pv 4)))))))))) (kY (pv 2))))),?_];dsimp only[dj];exists #[il,s,F,S,n,rfl,s0,YA,XO,#[ic,so,A7,λbd aQ F1 H1 g1 Ij sX XI hBk=>?_]];exists jw λl H2 hl Qb e2=>?_;exists #[il,s,F1,H,S,rfl,g1.fh.trans e2,Ij,XO.mono g1.ff,#[ic,so.Mo,sX.mono e2,λol ys F3 H3 c3 hF3T FL n_ A8 hOl=>?_]];have hys:ys=cp S.loads:=qX so.ids n_ (A8.imp λh=>(Lr _ _).mp h);have hlT:l≠Tb:=λz=>by rintro ps e _:bM sX;rw[z,e] at hl;cases hl
 have hl3:H3 l=some (.lst []):=c3.hh _ _ Qb hlT;have ats:F1 l=none:=g1.fh.free hl;have att:F3 l=none:=c3.nw _ _ Qb hlT ats;have hlH:H l=none:=by
  cases e:H l with
  |none=>rfl
  |some o=>rw[g1.hh _ _ e hlT] at hl;cases hl
 have g3:dE Tb F H F3 H3:=⟨g1.ff.trans c3.ff,c3.fh,λb o e n=>c3.hh _ _ (e2 _ _ (g1.hh b o e n)) n,λb o e n m=>c3.nw b o (e2 _ _ (g1.hh b o e n)) n (g1.nw b o e n m)⟩;exists oP (λi σ H'=>∃(u v z:Option V)(F':Hp)(as:List af),σ=[some (.ref s),some (.ref bd),some (.ref l),u,v,z]/\dE Tb F H F' H'/\eP H' Tb mr lV/\aq F3 F'/\F' l=none/\H' l=some (.lst (as.map V.ref))/\cg (TrW A S F') as (ys.take i))
  hOl #[ig,none,none,none,F3,[],#[iu,rfl,g3,FL,aq.refl _,att,hl3,.nil]] (λi σ H' h=>by rintro u v z F' as _ g _ s3 _:DL h;show s3.trans g.fh) ?_ ?_
 .rintro i x b σ H' hi cG j';rintro bl XE hb O8 VR:fD cG;rintro u v z F' as rfl g hTb s3 nlF YL UM:DL 9 lB j';have Ip:x∈S.loads:=n_.mem_iff.mp (aZ hi);have lo:=so.ld x Ip;have VZ:=(ai.mp hi).1;have ame:ys.length<=10:=by rw[n_.length_eq];show so.Mo
  have adq:bl≠Tb:=λz=>by rw[z,hTt] at O8;cases O8
  have hal:as.length=i:=by rw[UM.length,aM];omega
  exists #[ig,s,b,F',S,x,#[iu,rfl,g.fh,gN.mono g.ff XO.at_,#[ib,bl,XE,fN.mono s3 hb,g.hh _ _ O8 adq,bF (λ_ _ q=>oN.mono _ _ _ _ s3 q) VR],so.tok,lo.legs,⟨aE lo.many so.few,λrl F4 H4 c4 hR=>?_⟩]];have g4:=g.call c4;have s4:aq F3 H4:=(s3.trans c4.ff).trans c4.fh;have V2:H4 l=some (.lst (as.map V.ref)):=c4.hh _ _ YL;have amt:F4 l=none:=c4.nw _ _ YL nlF;have adl:=hTb.mono c4.hh;left;rintro wv Qg Dz:bM<|hBk x Ip;have SG:aq F1 F3:=c3.ff;have asr:H4 bd=some (.dK aQ):=s4 _ _ (SG _ _ XI);show JQ asr Qg ?_;left;have fin:∀(vr:af)(Fe He:Hp),dE Tb F H Fe He->eP He Tb mr lV->aq F4 Fe->Fe l=none->He l=some (.lst (as.map V.ref))->lN A Fe vr S.world (x.begun++lu (eI S x))->
   SO (tBM K "list" EU (rZ 2) (mn (ZR (mn (rZ 3) (mn (rZ 4) vY))) vY)) { nx:=λσ H'=>∃(u v z:Option V)(F':Hp)(as:List af),σ=[some (.ref s),some (.ref bd),some (.ref l),u,v,z]/\dE Tb F H F' H'/\eP H' Tb mr lV/\aq F3 F'/\F' l=none/\H' l=some (.lst (as.map V.ref))/\cg (TrW A S F') as (ys.take (i+1)),rt:=Q,bk:=Rh (rZ 2) { nx:=λx H'=>Q V.non H',rt:=Q },ct:=λσ H'=>∃(u v z:Option V)(F':Hp)(as:List af),σ=[some (.ref s),some (.ref bd),some (.ref l),u,v,z]/\dE Tb F H F' H'/\eP H' Tb mr lV/\aq F3 F'/\F' l=none/\H' l=some (.lst (as.map V.ref))/\cg (TrW A S F') as (ys.take (i+1)) }
    [some (V.ref s),some (V.ref bd),some (V.ref l),some (V.ref b),some (V.ref vr),some wv] He:=by
   intro vr Fe He ge te sfe nle hle hRe;exists jm (cf.of hle) ?_;exists r_U λp H6 hp hp6 e6=>?_;exists fL (T:="list") rfl (e6 _ _ hle) (by rw[ab,hal];unfold sizeLine;omega) λH7 h7 k7=>?_;left;have hpT:p≠Tb:=λz=>by rintro ps e _:bM te;rw[z,e] at hp;cases hp
   have Qe:H p=none:=by
    cases e:H p with
    |none=>rfl
    |some o=>rw[ge.hh _ _ e hpT] at hp;cases hp
   have MC:Fe p=none:=ge.fh.free hp;have npl:l≠p:=aI hle hp;have g6:=(ge.more e6).add hp6 (.inl Qe) MC;have nl6:(upd Fe p (.tup [.ref b,.ref vr])) l=none:=by rw[aR npl];show nle
   have ffe:aq Fe (upd Fe p (.tup [.ref b,.ref vr])):=cq MC;show #[ig,some (.ref b),some (.ref vr),some wv,_,as++[p],#[iu,rfl,g6.keep k7 (.inl hlH) nl6,(te.mono e6).keep k7 (by rw[e6 _ _ hle];show trivial),(s3.trans c4.ff).trans (sfe.trans ffe),nl6,by rw[h7,o5],?_]];rw[bR hi];show jM #[ib,b,vr,aT,⟨bl,fN.mono ((s3.trans c4.ff).trans (sfe.trans ffe)) hb⟩,lN.mono ffe hRe] (bF (λ_ _ q=>TrW.mono _ _ _ _ ((c4.ff.trans sfe).trans ffe) q) UM)
  cases oZ:eI S x with
  |none=>rw[oZ] at Dz;obtain rfl:wv=.non:=Dz;walk_at "rdb";show fin rl F4 H4 g4 adl (aq.refl _) amt V2 (by rw[oZ];change lN _ _ _ _ (x.begun++[]);rw[b9];show hR)
  |some y=>
   rw[oZ] at Dz;rintro ka rfl hKn:bM Dz;have sK:aq F1 H4:=SG.trans s4;walk_at "rdb";rename_i wl FR;rintro ws ⟨was,hw1,hw2⟩ lU:bM FR;rintro rs ⟨XX,hr1,V5⟩ zY:bM<|id hR;have hlr:XX.length<=2000:=by rw[V5.length,<-ab (f:=(·.leg)),zY];show aE lo.many so.few
   have hlw:was.length<=5:=by rw[hw2.length,<-ab (f:=(·.leg)),lU];show mh oZ
   show JR (c4.fh _ _ hr1) (sK _ _ hw1) (by rw[ab,ab];unfold sizeLine;omega) λp H5 hp Tw e5=>?_;have hpT:p≠Tb:=λz=>by rintro ps e _:bM adl;rw[z,e] at hp;cases hp
   have Qe:H p=none:=by
    cases e:H p with
    |none=>rfl
    |some o=>rw[g4.hh _ _ e hpT] at hp;cases hp
   have MC:F4 p=none:=g4.fh.free hp;have npl:l≠p:=aI V2 hp;have g5:=(g4.more e5).add Tw (.inl Qe) MC;have ffe:aq F4 (upd F4 p (.lst (XX.map V.ref++was.map V.ref))):=cq MC;walk_at "rdb";show fin p _ H5 g5 (adl.mono e5) ffe (by rw[aR npl];show amt) (e5 _ _ V2) #[ia,rs++ws,#[ia,XX++was,by rw[aT,aj],lW (bF (λ_ _ q=>eG.mono _ _ _ _ ffe q) V5) (bF (λ_ _ q=>eG.mono _ _ _ _ ((SG.trans (s3.trans c4.ff)).trans ffe) q) hw2)],?_];rw[aj,zY,lU,oZ];rfl
 .rintro σ H' cG;rintro u v z F' as rfl g hTb s3 nlF YL UM:DL 9 lB cG;left;rw[aK,hys] at UM;show k l _ H' (g.add YL (.inl hlH) nlF) hTb #[ia,as,aT,bF (λ_ _ q=>TrW.mono _ _ _ _ (cq nlF) q) UM]
end
end TT
end
section
namespace TT
open Vbpoaf
def Rj{l m:List Nat}(h:l.Perm m):total l=total m:=by
 induction h with
 |nil=>rfl
 |cons a _ ih=>change a+total _=a+total _;rw[ih]
 |swap a b l=>change b+(a+total l)=a+(b+total l);omega
 |trans _ _ h1 h2=>rw[h1,h2]
def Uo{l m:eR}(h:l.Perm m)(j d k i:Nat):cU l j d k i=cU m j d k i:=by unfold cU;show Rj ((h.filter _).map _)
theorem OS(f g:Load->eR)(j d k i:Nat):∀l:List Load,cU (l.flatMap f) j d k i+cU (l.flatMap g) j d k i=cU (l.flatMap λx=>f x++g x) j d k i
 |[]=>rfl
 |a::l=>by
  have ih:=OS f g j d k i l;simp only[js,tP] at *;omega
def JX{S:aO}(hn:(S.loads.map λx=>x.id).Nodup)(j d k i:Nat):cU (Aw S) j d k i=cU ((cp S.loads).flatMap λx=>bU x (x.begun++lu (eI S x))) j d k i:=by
 have h1:Aw S=S.loads.flatMap (λx=>bU x x.begun)++(cp S.loads).flatMap (λx=>bU x (lu (eI S x))):=by unfold Aw iV;rw[Ca hn,tT];congr 2;funext x;cases eI S x<;>rfl
 rw[h1,tP,Uo ((iK S.loads).symm.flatMap_right (λx=>bU x x.begun)),OS];congr 2;funext x;rw[qL]
def Q8{S:aO}(hn:(S.loads.map λx=>x.id).Nodup){n d i:Int}{j:Nat}{t:ax}(e:jN S.world n d=some (j,t))(hi:(within i 0 9&&decide (i.toNat+1<t.stops.length))=true):
 Vbpoaf.step S (.board n d i)=(S,{ value:=((((cp S.loads).filter λx=>(x.begun++lu (eI S x)).any λg=>g.trip==j&&(g.day==d.toNat&&g.i==i.toNat)).map λx=>x.id).length:Int),rows:=[bH (((cp S.loads).filter λx=>(x.begun++lu (eI S x)).any λg=>g.trip==j&&(g.day==d.toNat&&g.i==i.toNat)).map λx=>x.id)] }):=by
 have hb:((pK S).filter λx=>(x.1.begun++(match x.2 with
  |none=>[]
  |some y=>y.2)).any λg=>g.trip==j&&(g.day==d.toNat&&g.i==i.toNat))=((cp S.loads).filter λx=>(x.begun++lu (eI S x)).any λg=>g.trip==j&&(g.day==d.toNat&&g.i==i.toNat)).map λx=>(x,eI S x):=by
  rw[Ca hn,Xr];congr 1
 simp only[Vbpoaf.step,dC,e];rw[if_neg (by rw[hi];decide)];show ab1 (congrArg (λl:List (Load×cn)=>((S,{ value:=(l.length:Int),rows:=[bH (l.map λx=>x.1.id)] }):aO×AE)) hb) ?_;simp only[dJ,ab];rfl
end TT
end
section
local macro_rules|`(tactic| walk_at "rdb")=>`(tactic| repeat ((fail_if_success (with_reducible refine anm ?_));(first|walk_at "rd1"|walk_at "fld")))
namespace TT
theorem Gq{α β:Type}{P P':α->β->Prop}:∀{as:List α}{xs:List β}{i:Nat}{a:α}{y:β},cg P as xs->as[i]? = some a->P' a y->(∀(j:Nat)b z,j≠i->as[j]? = some b->xs[j]? = some z->P b z->P' b z)->cg P' as (xs.set i y)
 |_,_,_,_,_,.nil,h,_,_=>by simp at h
 |_,_,0,a,y,.cons (a:=a0) (b:=b0) r t,h,hy,hr=>by
  obtain rfl:a0=a:=by simpa using h
  show .cons hy ?_;have gen:∀{as:List α}{xs:List β}(k:Nat),cg P as xs->(∀(j:Nat)b z,as[j]? = some b->xs[j]? = some z->P b z->P' b z)->cg P' as xs:=by
   intro as xs k hp;induction hp with
   |nil=>intro _;show .nil
   |cons r t ih=>intro hh;show .cons (hh 0 _ _ rfl rfl r) (ih λj b z h1 h2=>hh (j+1) b z (by simpa using h1) (by simpa using h2))
  show gen 0 t λj b z h1 h2 h3=>hr (j+1) b z (by omega) (by simpa using h1) (by simpa using h2) h3
 |_,_,i+1,a,y,.cons r t,h,hy,hr=>.cons (hr 0 _ _ (by omega) rfl rfl r) (Gq t (by simpa using h) hy λj b z hj h1 h2=>hr (j+1) b z (by omega) (by simpa using h1) (by simpa using h2))
def sL(A:dW)(F H:Hp)(w:ah)(p:af×af)(x:bv):Prop:=fN A F p.1 w x p.2/\∃bs:List af,H p.2=some (.lst (bs.map V.ref))/\cg (oN w F) bs x.begun
def jR(S:aO)(t:Nat)(x:bv):bv:={ x with begun:=x.begun++(lu (eI S x)).filter (dI S.world t) }
def Gp(S:aO)(t:Nat):(wf S t).loads=S.loads.map (jR S t):=by
 unfold wf;change S.loads.map _=_;apply cJ;intro x _;change (match eI S x with
  |none=>x
  |some y=>{ x with begun:=x.begun++y.2.filter (dI S.world t) })=_
 unfold jR;cases eI S x with
 |none=>change x=_;simp[lu]
 |some y=>rfl
def cnt(S:aO)(t:Nat)(l:List bv):Nat:=dw (l.map λx=>((lu (eI S x)).filter (dI S.world t)).length)
def Vs(S:aO)(t:Nat)(l:List bv)(x:bv):cnt S t (l++[x])=cnt S t l+((lu (eI S x)).filter (dI S.world t)).length:=by unfold cnt;rw[aj,pH];rfl
theorem xg{A:dW}{F H:Hp}{w:ah}:∀{ps:List (af×af)}{xs:List bv},cg (sL A F H w) ps xs->cg (HP A H w F) (ps.map (·.1)) xs
 |_,_,.nil=>.nil
 |_,_,.cons ⟨h1,bs,h2,h3⟩ t=>.cons #[ib,_,bs,h1,h2,h3] (xg t)
section
variable{P:aS}{w:bL}{K:ad}{mg:Str->Option ag}{base:cE}{A:dW}{f:af}{fd:b_}
abbrev rJ:cK:=top 36
def xK:aU ["state","until","booked","count","thing","way","ride"] ["state","until"] (aG rJ):=jy
def xX(A:dW)(T:af):Sp:=λvs H Q _=>∃(s dx tb c dl th:af)(F:Hp)(S:aO)(n t:Nat)(ps:List (af×af)),vs=[.ref s,iv t]/\aq F H/\F T=none/\SOk n S/\eP H T mr lV/\
 F s=some (.ins A.state dx (oz S tb c dl th))/\j8 A F tb S.world.table/\yH F c S.world/\yG F dl S.world/\F th=some (.lst ((ps.map (·.1)).map V.ref))/\cg (sL A F H S.world) ps S.loads/\(ps.map (·.2)).Nodup/\(∀p∈ps,F p.2=none)/\
 ∀F' H',aq F F'->aq F' H'->F' T=none->eP H' T mr lV->(∀b o,H b=some o->b≠T->b∉ps.map (·.2)->H' b=some o)->(∀p∈ps,F' p.2=none)->cg (sL A F' H' S.world) ps (S.loads.map (jR S t))->Q (iv (cnt S t S.loads)) H'
def Gf{Tb:af}(F:i9 K "begin_rides" "begin_rides" rJ f fd)(T:eX K mg A)(g_:fP P w K mg base 8 "book_all" ["state"] (om A Tb)):cQ P w K mg base gW 9 f fd ["state","until"] (xX A Tb):=by
 exists F,xK;rintro s dx tb c dl th F S n t ps rfl s0 YA so A7 hsf h1 h2 h3 V8 XN R6 MC k:EN 6 DL 9 wb 6 Cz h;have hu:=fJ hr;have nd:=xK.nd;have XO:kx A F H s S:=#[ig,dx,tb,c,dl,th,#[iq,hsf,h1,h2,h3,#[ia,ps.map (·.1),V8,xg XN]]];have hTt:∃Ug,H Tb=some (.Az Ug):=by rintro q e _:bM A7;show⟨q,e⟩
 rintro Ug hTt:bW hTt;have hlen:=XN.length;show #[ia,_,(ae (sv 2 nd (bC g_ hr (eM (pv 0)))) (ae (sv 3 nd aw) (ae (fR bj rfl (dM (du 0)) (gv 4 nd) (ae (sv 5 nd (uO hu (pv 2) (du 4) (λ_ _=>rfl))) (bA (kG (fq (uN (pv 5))) (bA (fR bj rfl (dM (du 5)) (gv 6 nd) (bA (kG (kq qH (du 6) (pv 1)) (ae (dN (Mx (du 4) (Gv (qu (vC (du 6)) (du 6) (du 6))))) (bA (sv 3 nd (fB iI (pv 3) aw)))) fU)))) fU)))) (kY (pv 3))))),?_];dsimp only[dj];exists #[il,s,F,S,n,rfl,s0,YA,XO,#[ic,so,A7,λbd aQ F1 H1 g1 Ij sX XI hBk=>?_]];have yu:∀p∈ps,∃bs:List af,H p.2=some (.lst (bs.map V.ref)):=λp hp=>by
  rintro i hi rfl:bW 1 bW<|List.getElem_of_mem hp;obtain⟨x,_,_,bs,YD,_⟩:=fE XN (bb hi);show⟨bs,YD⟩
 have alq:∀p∈ps,p.2≠Tb:=λp hp z=>by rintro bs e:bW<|yu p hp;rw[z,hTt] at e;cases e
 have auf:∀p∈ps,F1 p.2=none:=λp hp=>by rintro bs e:bW<|yu p hp;show g1.nw _ _ e (alq p hp) (MC p hp)
 have JB:aq F H1:=g1.fH;exists c8 (v:=.ref th) (JB _ _ hsf) T.state ?_;let Li:=λi=>(S.loads.take i).map (jR S t)++S.loads.drop i;have auh:cg (sL A F1 H1 S.world) ps S.loads:=by
  have gen:∀{qs:List (af×af)}{xs:List bv},(∀p∈qs,p.2≠Tb)->cg (sL A F H S.world) qs xs->cg (sL A F1 H1 S.world) qs xs:=by
   intro qs xs hq hp;induction hp with
   |nil=>show .nil
   |cons r tt ih=>rintro r1 bs r2 r3:EQ r;show .cons #[io,fN.mono g1.ff r1,bs,g1.hh _ _ r2 (hq _ (aJ ..)),bF (λ_ _ q=>oN.mono _ _ _ _ g1.ff q) r3] (ih λp hp=>hq p (au _ hp))
  show gen alq XN
 show WR (xs:=(ps.map (·.1)).map V.ref) (λi σ H'=>∃(u v z:Option V)(F':Hp),σ=[some (.ref s),some (iv t),some (.ref bd),some (iv (cnt S t (S.loads.take i))),u,v,z]/\aq F1 F'/\aq F' H'/\F' Tb=none/\eP H' Tb mr lV/\(∀b o,H b=some o->b≠Tb->b∉ps.map (·.2)->H' b=some o)/\(∀p∈ps,F' p.2=none)/\cg (sL A F' H' S.world) ps (Li i))
  (cf.of (JB _ _ V8)) #[il,none,none,none,F1,rfl,aq.refl _,g1.fh,Ij,#[ij,sX,λb o e n _=>g1.hh _ _ e n,auf,auh]] (λi σ H' _ h=>by rintro u v z F' _ a1 a2 _:xf 5 lB h;show cf.of (a2 _ _ (a1 _ _ (g1.ff _ _ V8)))) ?_ ?_
 .rintro i vb σ H' hvb cG;rintro u v z F' rfl a1 a2 a3 a4 a5 a6 a7:xf 5 wb cG;rintro b hbb rfl:bM<|o7 hvb;rw[aF] at hbb;rintro p hp UN:bM<|Option.map_eq_some_iff.mp hbb;have VZ:i<ps.length:=(ai.mp hp).1;rintro x hx:bW (⟨_,bb (by omega)⟩:∃x,S.loads[i]? = some x);have hxi:i<S.loads.length:=(ai.mp hx).1;have hLi:(Li i)[i]? = some x:=by
   change ((S.loads.take i).map (jR S t)++S.loads.drop i)[i]? = _;rw[Hx (by rw[ab,aM];omega),ab,aM,iF (by omega),AB];simpa using hx
  have aao:∀y,(Li i).set i y=(S.loads.take i).map (jR S t)++y::S.loads.drop (i+1):=λy=>by
   change ((S.loads.take i).map (jR S t)++S.loads.drop i).set i y=_;rw[eW hxi,List.set_append_right _ _ (by rw[ab,aM];omega),ab,aM,iF (by omega),Nat.sub_self];rfl
  have VL:(Li i).set i x=Li i:=by rw[aao];change _=(S.loads.take i).map (jR S t)++S.loads.drop i;rw[eW hxi,(ai.mp hx).2]
  have VJ:(Li i).set i (jR S t x)=Li (i+1):=by rw[aao];change _=(S.loads.take (i+1)).map (jR S t)++S.loads.drop (i+1);rw[bR hx,aj,et];rfl
  have Ip:=aZ hx;have lo:=so.ld x Ip;obtain⟨x',hx',hthA,_⟩:=fE a7 hp;obtain rfl:x=x':=bp (hLi.symm.trans hx');have hpm:=aZ hp;rintro wv Qg Dz:bM<|hBk x Ip;have Ts:H' bd=some (.dK aQ):=a2 _ _ (a1 _ _ XI);subst UN;exists JQ Ts Qg ?_;have hcn:cnt S t (S.loads.take (i+1))=cnt S t (S.loads.take i)+((lu (eI S x)).filter (dI S.world t)).length:=by rw[bR hx,Vs]
  cases oZ:eI S x with
  |none=>rw[oZ] at Dz hcn;obtain rfl:wv=.non:=Dz;exists #[il,some (.ref p.1),some .non,z,F',by rw[hcn];rfl,a1,a2,a3,#[ij,a4,a5,a6,?_]];rw[<-VJ,show jR S t x=x by unfold jR;rw[oZ];simp[lu],VL];show a7
  |some y=>
   rw[oZ] at Dz hcn;rintro ka rfl hKn:bM Dz;have sK:aq F1 H':=a1.trans a2;left;rename_i wl FR;rintro ws Lj lU:bM FR;let xm:=λm=>({ x with begun:=x.begun++((ws.take m).map (·.leg)).filter (dI S.world t) }:bv);let cm:=λm=>cnt S t (S.loads.take i)+(((ws.take m).map (·.leg)).filter (dI S.world t)).length;have hw5:ws.length<=5:=by rw[<-ab (f:=(·.leg)),lU];show mh oZ
   show oP (P:=eG A S.world) (λm σ H'=>∃(z:Option V)(F':Hp),σ=[some (.ref s),some (iv t),some (.ref bd),some (iv (cm m)),some (.ref p.1),some (.ref ka),z]/\aq F1 F'/\aq F' H'/\F' Tb=none/\eP H' Tb mr lV/\(∀b o,H b=some o->b≠Tb->b∉ps.map (·.2)->H' b=some o)/\(∀p∈ps,F' p.2=none)/\cg (sL A F' H' S.world) ps ((Li i).set i (xm m)))
    Lj #[ik,z,F',rfl,a1,a2,a3,#[ij,a4,a5,a6,by rw[show xm 0=x by change ({ x with begun:=x.begun++[] }:bv)=x;rw[b9],VL];show a7]] (λm σ H' h=>by rintro z F' _ a1 a2 _:lA h;show a1.trans a2) ?_ ?_
   .rintro m r rb σ H2 hm cG j';rintro tr QH JA:bM cG;rintro z F2 rfl b1 b2 b3 b4 b5 b6 b7:lA 5 EO j';have sr:aq F1 H2:=b1.trans b2;have hml:=(ai.mp hm).1;have aau:dI S.world t r.leg=decide (bE S.world tr r.leg.day r.leg.i<t):=by unfold dI;rw[QH.1]
    have VX:((ws.take (m+1)).map (·.leg)).filter (dI S.world t)=((ws.take m).map (·.leg)).filter (dI S.world t)++if dI S.world t r.leg=true then [r.leg] else []:=by rw[bR hm,aj,cr,bD,m_,cz,eN]
    have amd:((Li i).set i (xm m))[i]? = some (xm m):=iM (ai.mp hLi).1;obtain⟨x2,XS,auy,bs,YD,UN⟩:=fE b7 hp;obtain rfl:xm m=x2:=bp (amd.symm.trans XS);have auz:fN A F2 p.1 S.world x p.2:=auy;exists cY (λhg=>?_) (λhg=>?_)
    .have hgt:dI S.world t r.leg=true:=by rw[aau];show decide_eq_true (by omega)
     rw[hgt,if_pos rfl] at VX;exists jm (cf.of YD) ?_;left;rename_i ra hra kad ak7;show r_U λq H3 hq hq3 e3=>?_;left;have O8:bs.length<=2005:=by rw[UN.length];change (x.begun++_).length<=_;rw[ap];have f1:=bK (dI S.world t) ((ws.take m).map (·.leg));rw[ab,aM] at f1;have f2:=aE lo.many so.few;omega
     show fL (T:="list") rfl (e3 _ _ YD) (by rw[ab];unfold sizeLine;omega) λH4 h4 k4=>?_;left;have hqF:F2 q=none:=b2.free hq;have ffq:aq F2 (upd F2 q (.tup [.ref kad,iv r.leg.i,iv r.leg.j])):=cq hqF;have hqp:∀p'∈ps,p'.2≠q:=λp' MB=>by
      rintro j hj rfl:bW 1 bW<|List.getElem_of_mem MB;obtain⟨_,_,_,bs',asw,_⟩:=fE b7 (bb hj);show aI asw hq
     have hqT:q≠Tb:=λz=>by rintro _ e _:bM b4;rw[z,e] at hq;cases hq
     have hFp:∀p'∈ps,(upd F2 q (.tup [.ref kad,iv r.leg.i,iv r.leg.j])) p'.2=none:=λp' MB=>by rw[aR (hqp p' MB)];show b6 p' MB
     show #[ik,some (.ref rb),_,?_,b1.trans ffq,aB (λb o e=>?_) k4 (hFp p hpm),by rw[aR hqT.symm];show b3,#[ij,(b4.mono e3).keep k4 (by rw[e3 _ _ YD];show trivial),λb o e n1 n2=>k4 _ _ (e3 _ _ (b5 b o e n1 n2)) (λz=>n2 (by rw[z];show aY.mpr #[ia,p,hpm,rfl])),hFp,?_]];.change [_,_,_,some (V.int (_+1)),_,_,_]=_;rw[j1 (show ((cm m:Nat):Int)+1=((cm (m+1):Nat):Int) by change ((cnt S t (S.loads.take i)+(((ws.take m).map (·.leg)).filter (dI S.world t)).length:Nat):Int)+1=((cnt S t (S.loads.take i)+(((ws.take (m+1)).map (·.leg)).filter (dI S.world t)).length:Nat):Int);rw[VX,ap];simp;omega)]
     .by_cases zz:b=q;.subst zz;rw[aT] at e;cases e;show hq3
      .rw[aR zz] at e;show e3 _ _ (b2 _ _ e)
     .have V7:((Li i).set i (xm m)).set i (xm (m+1))=(Li i).set i (xm (m+1)):=List.set_set ..;rw[<-V7];show Gq b7 hp #[io,fN.mono ffq auz,bs++[q],by rw[h4,o5],?_] λj pj zj hj hpj hzj hP=>?_
      .change cg _ _ (x.begun++_);rw[VX,<-et];show jM #[ib,kad,tr,aT,?_,QH.1] (bF (λ_ _ q=>oN.mono _ _ _ _ ffq q) UN);rw[aR];.show b1 _ _ ak7
       .show λzz=>by rw[<-zz,b2 _ _ (b1 _ _ ak7)] at hq;cases hq
      .rintro P1 bs' P2 P3:EQ hP;have nS:pj.2≠p.2:=λzz=>hj (aba R6 (i:=j) (j:=i) (x:=p.2) (by rw[aF,hpj];simp[zz]) (by rw[aF,hp];rfl));show #[io,fN.mono ffq P1,bs',k4 _ _ (e3 _ _ P2) nS,bF (λ_ _ q=>oN.mono _ _ _ _ ffq q) P3]
    .have hgt:dI S.world t r.leg=false:=by rw[aau];show decide_eq_false (by omega)
     rw[hgt,if_neg (by decide),b9] at VX;exists #[ik,some (.ref rb),F2,?_,b1,b2,b3,#[ij,b4,b5,b6,?_]];.change [_,_,_,some (iv (cm m)),_,_,_]=_;rw[show cm (m+1)=cm m by change _+_=_+_;rw[VX]]
     .rw[show xm (m+1)=xm m by change ({ x with begun:=_ }:bv)={ x with begun:=_ };rw[VX]];show b7
   .rintro σ H2 cG;rintro z F2 rfl b1 b2 b3 b4 b5 b6 b7:lA 5 EO cG;show #[il,some (.ref p.1),some (.ref ka),z,F2,?_,b1,b2,b3,#[ij,b4,b5,b6,?_]];.rw[hcn,show cm ws.length=cnt S t (S.loads.take i)+((lu (some y)).filter (dI S.world t)).length by change _+(((ws.take ws.length).map (·.leg)).filter _).length=_;rw[aK,lU];rfl]
    .rw[<-VJ,show jR S t x=xm ws.length by change ({ x with begun:=_ }:bv)={ x with begun:=_ };rw[aK,lU,oZ];rfl];show b7
 .rintro σ H' cG;rintro u v z F' rfl a1 a2 a3 a4 a5 a6 a7:xf 5 wb cG;left;rw[ab,ab,hlen] at a7 ⊢;rw[aK];show k F' H' (g1.ff.trans a1) a2 a3 a4 a5 a6 ?_;have:Li S.loads.length=S.loads.map (jR S t):=by
   change (S.loads.take _).map _++S.loads.drop _=_;rw[aK,UY,b9]
  rw[<-this];show a7
end
end TT
end
namespace TT
def U'(ck:List (List ez×V))(w:ah):Prop:=ck.length=w.off.length/\∀no d:Nat,dy ck (rk no d)=if (no,d)∈w.off then some (.bl true) else none
def aq6(H:Hp)(qt:List af)(dk:List (List ez×V))(w:ah):Prop:=dk.length<=w.delays.length/\(∀t∈w.table.trips,∀d:Nat,
 (dy dk (rk t.no d)=none/\∀x∈w.delays,¬(x.no=t.no/\x.day=d))\/∃a,a∈qt/\dy dk (rk t.no d)=some (.ref a)/\H a=some (.lst (iH w t d)))/\(∀q q' a,dy dk q=some (.ref a)->dy dk q'=some (.ref a)->q=q')/\∀q a,dy dk q=some (.ref a)->a∈qt
structure Wh where
 dx:af
 tb:af
 c:af
 dl:af
 th:af
 ps:List (af×af)
 qt:List af
structure qz(A:dW)(T:af)(F B H:Hp)(s:af)(S:aO)(W:Wh)(ck dk:List (List ez×V)):Prop where
 fh:aq F H
 bh:aq B H
 fT:F T=none
 bT:B T=none
 tab:eP H T mr lV
 fs:F s=none
 bs:B s=none
 hs:H s=some (.ins A.state W.dx (oz S W.tb W.c W.dl W.th))
 table:j8 A F W.tb S.world.table
 fc:F W.c=none
 bc:B W.c=none
 hc:H W.c=some (.dT ck)
 off:U' ck S.world
 cd:W.c≠W.dl
 fd:F W.dl=none
 bd:B W.dl=none
 hd:H W.dl=some (.dT dk)
 del:aq6 H W.qt dk S.world
 qt:∀a∈W.qt,F a=none/\B a=none/\∃xs,H a=some (.lst xs)
 ft:F W.th=none
 bt:B W.th=none
 ht:H W.th=some (.lst ((W.ps.map (·.1)).map V.ref))
 loads:cg (sL A F H S.world) W.ps S.loads
 fp:∀p∈W.ps,F p.2=none/\B p.2=none
 nd:(W.th::(W.ps.map (·.2)++W.qt)).Nodup
def Va(A:dW)(T:af)(F B H:Hp)(s:af)(S:aO):Prop:=∃W ck dk,qz A T F B H s S W ck dk
def seen(H:Hp)(T:af)(ls:List af):Hp:=λb=>if b=T\/b∈ls then none else H b
def tH{H:Hp}{T:af}{ls:List af}{b:af}{o:HO}(h:H b=some o)(h1:b≠T)(h2:b∉ls):seen H T ls b=some o:=by unfold seen;rw[if_neg (λz=>z.elim h1 h2)];show h
def fW{H:Hp}{T:af}{ls:List af}:aq (seen H T ls) H:=λb o e=>by
 unfold seen at e;split at e;.cases e
 .show e
section
variable{A:dW}{T:af}{F B H H':Hp}{s:af}{S:aO}{W:Wh}{ck dk:List (List ez×V)}
def qz.tne(h:qz A T F B H s S W ck dk){b:af}{o:HO}(e:H b=some o)(n:∀ps,o≠.Az ps):b≠T:=λz=>by
 rintro ps e2 _:bM h.tab;subst z;rw[e2] at e;cases e;show n _ rfl
theorem qz.lst(h:qz A T F B H s S W ck dk){p:af×af}(hp:p∈W.ps):∃bs:List af,H p.2=some (.lst (bs.map V.ref)):=by rintro i hi rfl:bW 1 bW<|List.getElem_of_mem hp;obtain⟨x,_,_,bs,YD,_⟩:=fE h.loads (bb hi);show⟨bs,YD⟩
def qz.nl(h:qz A T F B H s S W ck dk){b:af}{o:HO}(e:H b=some o)(n:∀xs,o≠.lst xs):b∉W.ps.map (·.2):=λz=>by
 rintro p hp rfl:bM<|List.mem_map.mp z;rintro bs e2:bW<|h.lst hp;rw[e2] at e;cases e;show n _ rfl
def qz.SI(h:qz A T F B H s S W ck dk):aq F (seen H T (W.ps.map (·.2))):=λb o e=>tH (h.fh _ _ e) (aI e h.fT) λz=>by
 rintro p hp rfl:bM<|List.mem_map.mp z;rw[(h.fp p hp).1] at e;cases e
def qz.pieces(h:qz A T F B H s S W ck dk):seen H T (W.ps.map (·.2)) s=some (.ins A.state W.dx (oz S W.tb W.c W.dl W.th))/\j8 A (seen H T (W.ps.map (·.2))) W.tb S.world.table/\yH (seen H T (W.ps.map (·.2))) W.c S.world/\yG (seen H T (W.ps.map (·.2))) W.dl S.world/\seen H T (W.ps.map (·.2)) W.th=some (.lst ((W.ps.map (·.1)).map V.ref))/\cg (sL A (seen H T (W.ps.map (·.2))) H S.world) W.ps S.loads:=by
 have nd:=h.nd;rw[bJ] at nd;show #[ip,tH h.hs (h.tne h.hs (by intro ps z;cases z)) (h.nl h.hs (by intro ps z;cases z)),j8.mono h.SI h.table,#[ia,ck,tH h.hc (h.tne h.hc (by intro ps z;cases z)) (h.nl h.hc (by intro ps z;cases z)),h.off],
  #[ie,dk,tH h.hd (h.tne h.hd (by intro ps z;cases z)) (h.nl h.hd (by intro ps z;cases z)),h.del.1,λt ht d=>?_],tH h.ht (h.tne h.ht (by intro ps z;cases z)) (λz=>nd.1 (fO _ z)),?_]
 .show (h.del.2.1 t ht d).imp id λ⟨a,ha,q1,q2⟩=>#[ia,a,q1,tH q2 (h.tne q2 (by intro ps z;cases z)) λz=>?_];have:=(dU.mp nd.2).2.2;show this a z a ha rfl
 .show bF (λp x⟨h1,bs,h2,h3⟩=>#[io,fN.mono h.SI h1,bs,h2,bF (λ_ _ q=>oN.mono _ _ _ _ h.SI q) h3]) h.loads
def qz.view(h:qz A T F B H s S W ck dk):kx A (seen H T (W.ps.map (·.2))) H s S:=by rintro h1 h2 h3 h4 h5 h6:Iw h.pieces;show #[ig,W.dx,W.tb,W.c,W.dl,W.th,#[iq,h1,h2,h3,h4,#[ia,W.ps.map (·.1),h5,xg h6]]]
def qz.aa8(h:qz A T F B H s S W ck dk)(k:eA H H' T)(t:eP H' T mr lV):qz A T F B H' s S W ck dk:=by
 have kk:∀{b o},H b=some o->(∀ps,o≠.Az ps)->H' b=some o:=λe n=>k _ _ e (h.tne e n);show { h with fh:=λb o e=>k _ _ (h.fh _ _ e) (aI e h.fT),bh:=λb o e=>k _ _ (h.bh _ _ e) (aI e h.bT),tab:=t,hs:=kk h.hs (by intro ps z;cases z),hc:=kk h.hc (by intro ps z;cases z),hd:=kk h.hd (by intro ps z;cases z),del:=?_,qt:=λa ha=>?_,ht:=kk h.ht (by intro ps z;cases z),loads:=?_ };.show #[ic,h.del.1,λt ht d=>(h.del.2.1 t ht d).imp id λ⟨a,ha,q1,q2⟩=>#[ie,a,ha,q1,kk q2 (by intro ps z;cases z)],h.del.2.2]
 .rintro q1 q2 xs q3:lB 2 bW<|h.qt a ha;show #[ic,q1,q2,⟨xs,kk q3 (by intro ps z;cases z)⟩]
 .show bF (λp x⟨h1,bs,h2,h3⟩=>#[io,h1,bs,kk h2 (by intro ps z;cases z),h3]) h.loads
def qz.same(h:qz A T F B H s S W ck dk)(k:aq H H'):qz A T F B H' s S W ck dk:=h.aa8 (λb o e _=>k _ _ e) (h.tab.mono k)
end
def Jt{X:Cx}:me X (.builtin "len") (λxs H Q=>∃a aQ,xs=[V.ref a]/\H a=some (.dT aQ)/\Q (.int aQ.length) H):=by
 intro pins s σ H xs us Q I r h;rintro a aQ rfl ha q:fD h;rintro u rfl ru:bM<|vals1 r
 cases ru;rintro z hd xs rel dd:vW<|AY I.eU (.inl ha);have hT:s.TypeIs (.ref a) "dict":=dd.typeIs;rintro o es ep ho hc Le hes _:rD 5 lB dd;have hsz:es.size=aQ.length:=by rw[rel.length,<-fX,hes,ab]
 show Calls.call_function_entry kind_len plain_len entry_len (args_len1 _) ?_;unfold axz;show wpAny_bind (m:=oneArg "len" _) (wpAny_pure ?_);have meets:MeetsIn X.prog X.w (Builtin.«dict.__len__» ⟨[.ref a],[]⟩) (λ_ R s'=>s'=s/\R (.ok (.ret (.int aQ.length s.toks))) { s with toks:=s.toks+1 }):=.of_wp λA R s' cG=>fo cG λe h=>by
  subst e;change wpAny _ _ (dictSize a >>= _) _ _ s';unfold dictSize;show wpAny_bind (wpAny_bind (wpAny_dictEntries ho Le (wpAny_pure ?_)));change wpAny _ _ (ai2 a >>= _) _ _ s';show wpAny_bind (wpAny_pendingCount_other hd ?_);show wpAny_ret_mkInt ?_;rw[Nat.add_zero,hsz];show h
 show wpAny_bind (m:=callSpecial? (.ref a) (bo "__len__")) (wpAny_callSpecial?_slot (name:=bo "__len__") hT ab7
  (ou ab7 hT F.entry_dict_len (F.args_dict_len_1 _) meets ⟨rfl,?_⟩))
 change wpAny _ _ _ _ _ { s with toks:=s.toks+1 };show wpAny_bind (wpAny_holding (wpAny_pure ?_));show wpAny_bind (wpAny_letGo ?_);change wpAny _ _ (if ((aQ.length:Nat):Int)<0 then _ else _) _ _ _;rw[if_neg (by omega)];change wpAny _ _ (if ((aQ.length:Nat):Int)>=2 ^ 63 then _ else _) _ _ _;rw[if_neg (by rw[fV] at z;omega)];show wpAny_bind (wpAny_mkInt (wpAny_pure #[ia,_,rfl,#[ib,.int aQ.length,H,I.tok _,⟨_,rfl⟩,q]]))
def mf(a:AE):List Int:=a.value::(a.more++a.rows.flatMap λr=>(r.length:Int)::r)
section
variable{P:aS}{w:bL}{K:ad}{mg:Str->Option ag}{base:cE}{A:dW}{f:af}{fd:b_}
abbrev xC:cK:=top 94
def Mb:aU ["number"] ["number"] (aG xC):=jy
def mT:Sp:=λvs H Q _=>∃n:Int,vs=[.int n]/\Q (.bl (cC n)) H
def LK(F:i9 K "is_office" "is_office" xC f fd):cQ P w K mg base gW 1 f fd ["number"] mT:=by
 exists F,Mb;rintro n rfl k:bM h;show #[ia,_,(kY (xh jL jL aw (pv 0) aw)),?_];have e:cC n=(decide (0<=n)&&decide (n<=5)):=rfl;rw[e] at k;exists cY (λh=>?_) (λh=>?_)<;>left;.rw[decide_eq_true h] at k;show k
 .rw[decide_eq_false h] at k;show k
abbrev CO:cK:=top 95
def Q3:aU ["number"] ["number"] (aG CO):=jy
def nM:Sp:=λvs H Q _=>∃n:Int,vs=[.int n]/\Q (.bl (aH n 0 lh)) H
def QC(F:i9 K "is_time" "is_time" CO f fd)(T:eX K mg A):cQ P w K mg base gW 1 f fd ["number"] nM:=by
 exists F,Q3;rintro n rfl k:bM h;show #[ia,_,(kY (xh jL jL aw (pv 0) (bG T.Dv))),?_];have e:aH n 0 lh=(decide (0<=n)&&decide (n<=100000)):=rfl;rw[e] at k;exists cY (λh=>?_) (λh=>?_)<;>left;.rw[decide_eq_true h] at k;show k
 .rw[decide_eq_false h] at k;show k
abbrev xB:cK:=top 96
def Ma:aU ["run","stop"] ["run","stop"] (aG xB):=jy
def FE(t:ax)(i:Int):Bool:=aH i 0 9&&decide (i.toNat+1<t.stops.length)
def pk(A:dW):Sp:=λvs H Q _=>∃(ra:af)(F:Hp)(W:ah)(t:ax)(d:Nat)(i:Int),vs=[.ref ra,.int i]/\aq F H/\n8 A F ra W t d/\t.stops.length<=5/\Q (.bl (FE t i)) H
def LJ(F:i9 K "goes_from" "goes_from" xB f fd)(T:eX K mg A):cQ P w K mg base gW 1 f fd ["run","stop"] (pk A):=by
 exists F,Ma
 rintro ra F W t d i rfl s0 hra h5 k:EN 6 EO h;show #[ia,_,(kY (xh jL qH aw (pv 1) (fB LS (xb T.fb (vC (du 0))) aw))),?_];dsimp only[dj];have e:FE t i=decide (0<=i/\i<(t.stops.length:Int) - 1):=by unfold FE aH;rw[cV];simp only[ak,decide_eq_true_eq];omega
 rw[e] at k;exists cY (λh=>?_) (λh=>?_);.left;show rG ‹_› s0 ?_;left;rw[show decide (0<=i/\i<(t.stops.length:Int) - 1)=decide (i<(t.stops.length:Int) - 1) by simp[h]] at k;show k
 .left;rw[show decide (0<=i/\i<(t.stops.length:Int) - 1)=false by simp[h]] at k;show k
abbrev va:cK:=top 97
def yZ:aU ["state","number","thing"] ["state","number"] (aG va):=jy
def lJ(A:dW):Sp:=λvs H Q _=>∃(s:af)(F H0:Hp)(S:aO)(n:Int),vs=[.ref s,.int n]/\aq F H/\kx A F H0 s S/\
 (gk S n=none->Q .non H)/\∀x a,gk S n=some x->x∈S.loads->HP A H0 S.world F a x->Q (.ref a) H
def IK(F:i9 K "find_thing" "find_thing" va f fd)(T:eX K mg A):cQ P w K mg base gW 1 f fd ["state","number"] (lJ A):=by
 exists F,yZ;rintro s F H0 S n rfl s0 ⟨sdx,stb,sc0,sdl,sth,hsf,_,_,_,aeq⟩ kn ks:DL h;have nd:=yZ.nd;show #[ia,_,(ae (fR bj rfl (dM (du 0)) (gv 2 nd) (bA (kW (kq lI (du 2) (pv 1)) (pv 2)))) (kY ju)),?_];dsimp only[dj];exists c8 (v:=.ref sth) (s0 _ _ hsf) T.state ?_;show oP (λi σ H'=>∃u:Option V,σ=[some (.ref s),some (.int n),u]/\H'=H/\(S.loads.take i).find? (λx=>(x.id:Int)==n)=none)
  aeq #[ie,none,rfl,rfl,rfl] (λi σ H' h=>by rintro u _ rfl _:gF h;show s0) ?_ ?_
 .rintro i x b σ H' hi hb cG;rintro u rfl rfl FO:gF cG;rintro bl XE hbt _:rE<|id hb;left;have ak1:(x.id:Int)=n->gk S n=some x:=λe=>by
   unfold gk;have:S.loads=S.loads.take i++(x::S.loads.drop (i+1)):=by
    have VZ:=(ai.mp hi).1;conv=>lhs;rw[<-List.take_append_drop i S.loads]
    rw[eW VZ,(ai.mp hi).2]
   rw[this,Uv,FO];simp[e]
  show cY (λh=>?_) (λh=>?_)<;>left;.show ks x b (ak1 h) (aZ hi) hb
  .show #[ie,some (.ref b),rfl,rfl,?_];rw[bR hi,Uv,FO];simp[h]
 .rintro σ H' cG;rintro u rfl rfl FO:gF cG;left;rw[aK] at FO;show kn FO
abbrev Am:cK:=top 98
def OB:aU ["numbers","row"] ["numbers","row"] (aG Am):=jy
def jn:Sp:=λvs H Q _=>∃(a b:af)(xs ys:List Int),vs=[.ref a,.ref b]/\H a=some (.lst (cN xs))/\H b=some (.lst (cN ys))/\xs.length<=100000/\ys.length<=100000/\
 ∀p H',H p=none->H' p=some (.lst (cN (xs++((ys.length:Int)::ys))))->aq H H'->Q (.ref p) H'
def Oc(F:i9 K "with_row" "with_row" Am f fd)(T:eX K mg A):cQ P w K mg base gW 1 f fd ["numbers","row"] jn:=by exists F,OB;rintro a b xs ys rfl h1 h2 l1 l2 k:xf 5 EO h;show #[ia,_,(kY (fB CD (fB CD (pv 0) (bI (eM (xb T.fb (pv 1))))) (pv 1))),?_];dsimp only[dj];exists h_ (cf.of h2) ?_;exists jw λq H1 hq hq1 e1=>?_;show JR (e1 _ _ h1) hq1 (by unfold cN;rw[ab];change _+1<=sizeLine;unfold sizeLine;omega) λp1 H2 Ay YR e2=>?_;exists JR YR (e2 _ _ (e1 _ _ h2)) (by unfold cN;rw[ap,ab,ab];change _+1+_<=sizeLine;unfold sizeLine;omega) λp H3 hp yO e3=>?_;show k p H3 ((e1.trans e2).free hp) ?_ ((e1.trans e2).trans e3);rw[yO];unfold cN;rw[ab,et,aj];rfl
end
structure BOk(b:eT):Prop where
 mins:∀m∈b.mins,m<=999
 no:∀t∈b.trips,t.no<=9999
 first:∀t∈b.trips,t.first<=t.last
 room:∀t∈b.trips,∀r∈t.room,r<=999
 cut:∀t∈b.trips,t.cut<=999
structure XOk(n:Nat)(S:aO):Prop where
 n5:n+5<=2000
 off:S.world.off.length<=n
 Nn:S.world.delays.length<=40
 tab:BOk S.world.table
def de(A:dW)(T:af)(R:List Int->cM->Prop):Sp:=λvs H Q _=>∃(s nu:af)(F B:Hp)(S:aO)(n:Nat)(args:List Int)(c:cM),vs=[.ref s,.ref nu]/\R args c/\Va A T F B H s S/\SOk n S/\XOk n S/\B nu=some (.lst (cN args))/\
 ∀p F' H',Va A T F' B H' s (az S c).1->aq F F'->(∀b xs,H b=some (.lst xs)->F b=none->F' b=none)->H p=none->H' p=some (.lst (cN (mf (az S c).2)))->Q (.ref p) H'
section
variable{A:dW}{T:af}{F B H:Hp}{s:af}{S:aO}{W:Wh}{ck dk:List (List ez×V)}{c:cM}{Q:VK}
def ro(h:qz A T F B H s S W ck dk)(k:∀p F' H',Va A T F' B H' s (az S c).1->aq F F'->(∀b xs,H b=some (.lst xs)->F b=none->F' b=none)->H p=none->H' p=some (.lst (cN (mf (az S c).2)))->Q (.ref p) H')
 {a:AE} (e:az S c=(S,a)) {p:af} {H':Hp} (kT:eA H H' T) (t:eP H' T mr lV) (hp:H p=none) (MB:H' p=some (.lst (cN (mf a)))):Q (.ref p) H':=by
 rw[e] at k;show k p F H' #[ir,W,ck,⟨dk,h.aa8 kT t⟩] (aq.refl _) (λ_ _ _ n=>n) hp MB
def vX(h:qz A T F B H s S W ck dk)(k:∀p F' H',Va A T F' B H' s (az S c).1->aq F F'->(∀b xs,H b=some (.lst xs)->F b=none->F' b=none)->H p=none->H' p=some (.lst (cN (mf (az S c).2)))->Q (.ref p) H')
 {a:AE} (e:az S c=(S,a)) {p:af} {H':Hp} (sm:aq H H') (hp:H p=none) (MB:H' p=some (.lst (cN (mf a)))):Q (.ref p) H':=ro h k e (λb o e _=>sm _ _ e) (h.tab.mono sm) hp MB
end
def nI{H H':Hp}{T p:af}(k:eA H H' T)(h:H' p=none)(hT:H' T≠none):H p=none:=by
 cases e:H p with
 |none=>rfl
 |some o=>
  by_cases z:p=T;.rw[z] at h;show absurd h hT
  .rw[k _ _ e z] at h;cases h
def eP.ne{H:Hp}{T:af}{pos:km}{q:Str}(h:eP H T pos q):H T≠none:=by rintro ps e _:bM h;rw[e];simp
section
variable{P:aS}{w:bL}{K:ad}{mg:Str->Option ag}{base:cE}{A:dW}{f:af}{fd:b_}{Tb:af}
abbrev rO:cK:=top 119
def GU:aU ["state","numbers"] ["state","numbers"] (aG rO):=jy
def Fc:List Int->cM->Prop:=λa c=>a=[]/\c=.counts
def Gj(F:i9 K "call_counts" "call_counts" rO f fd)(T:eX K mg A):cQ P w K mg base gW 1 f fd ["state","numbers"] (de A Tb Fc):=by exists F,GU;rintro s nu F B S n args c rfl ⟨rfl,rfl⟩ ⟨W,ck,dk,h⟩ so h5 mZ k:vV 8 wb h;have hu:=fJ hr;have hv:=h.view.at_;have s0:=fW (H:=H) (T:=Tb) (ls:=W.ps.map (·.2));show #[ia,_,(kY (bI (dS (du 0) (dS (xb T.fb (vC (du 0))) (qu (i3 Jt rfl T.fb jD (eM (du 0))) (du 0) (xb T.fb (du 0))))))),?_];dsimp only[dj];exists rG ‹_› s0 ?_;left;rename_i c0 VS;rintro kv0 VS hc1 _:gF VS;show #[ib,c0,kv0,rfl,s0 _ _ VS,?_];rw[hc1];exists rG ‹_› s0 ?_;exists jw λp H1 hp Ay e1=>?_;show vX h k rfl e1 hp Ay
abbrev rQ:cK:=top 117
def xQ:aU ["state","numbers","day","trip"] ["state","numbers"] (aG rQ):=jy
def Ff:List Int->cM->Prop:=λa c=>∃d,a=[d]/\c=.runsOf d
def Gm(F:i9 K "call_runsof" "call_runsof" rQ f fd)(T:eX K mg A)(jO:fP P w K mg base 2 "does_run" ["state","trip","day"] (qJ A))(cS:fP P w K mg base 1 "with_row" ["numbers","row"] jn):cQ P w K mg base gW 3 f fd ["state","numbers"] (de A Tb Ff):=by
 exists F,xQ;rintro s nu F B S n args c rfl ⟨d,rfl,rfl⟩ ⟨W,ck,dk,h⟩ so h5 mZ k:vV 8 wb h;have hu:=fJ hr;have nd:=xQ.nd;have hv:=h.view.at_;have s0:=fW (H:=H) (T:=Tb) (ls:=W.ps.map (·.2));have mq:=h.bh _ _ mZ;show #[ia,_,(ae (sv 2 nd (xL (pv 1) aw)) (ae (kW (lX (tw jL jL aw (pv 2) (bG T.nE))) (bI (eM (bG T.fg)))) (kY (bC cS hr (mz (bI (eM aw)) (og rfl nd (dM (vC (du 0))) (fe (own:=[("trip",3)]) (by kernel_rfl)) (λ_ _ _ _ _=>(gv 3 nd)) (λ_ _ _ _ _=>(Bh (fF (bC jO hr (qu (pv 0) (pv 3) (pv 2)))))) (λ_ _ _ _ _=>(jU (K:=K) (pv 3) rfl)))))))),?_];dsimp only[dj];exists bY (cf.of mq) (aV (j:=0) rfl) ?_;left;have no:¬(0<=d/\d<=13)->Lm Q [V.int (-1)] H:=λhz=>jw λp H1 hp Ay e1=>vX h k (a:={ value:=-1 }) (by change (if aH d 0 gT=false then _ else _)=_;rw[if_pos (by unfold aH gT;rw[ki];intro z;simp only[ak,decide_eq_true_eq] at z;show hz ⟨by omega,by omega⟩)];rfl) e1 hp Ay;show cY (λh1=>?_) (λh1=>?_)<;>left
 .show j7 (λh2=>?_) (λh2=>?_)<;>left;.show no λz=>h2 z.2
  .have Ik:d=((d.toNat:Nat):Int):=by omega
   show jw λq H1 hq hq1 e1=>?_;have s1:=s0.trans e1;left;have htr:S.world.table.trips.length<=6:=so.tok.six;show DN (P:=gh A) (λz i H'=>aq H1 H'/\H' z=some (.lst (cN (bH (((S.world.table.trips.take i).filter λt=>c9 S.world t d.toNat).map λt=>t.no))))) ‹_› s1 (λz H' a1 a2 a3=>⟨a3,a2⟩) (λz i H' a1 a2=>s1.trans a2.1) ?_ ?_
   .rintro z i t b H' hz hi hb cG;rintro f1 f2:fo cG;have s2:=s1.trans f1;exists #[ig,s,b,S,t,d,#[ij,rfl,gN.mono s2 hv,gh.mono s2 hb,λH2 e2=>?_]];have s3:=s2.trans e2;have eD:lE S.world t d=c9 S.world t d.toNat:=by unfold lE;simp[h1]
    rw[eD];have htk:((S.world.table.trips.take (i+1)).filter λt=>c9 S.world t d.toNat).map (λt=>t.no)=((S.world.table.trips.take i).filter λt=>c9 S.world t d.toNat).map (λt=>t.no)++if c9 S.world t d.toNat=true then [t.no] else []:=by rw[bR hi,cr,aj,cz,eN];split<;>rfl
    rw[htk];exists oh (λh3=>?_) (λh3=>?_)<;>left
    .rw[if_pos h3];show jv (e2 _ _ f2) ?_ λH3 a1 a2=>⟨aB (f1.trans e2) a2 hz,?_⟩;.unfold cN bH;rw[ab,ab,ab];have:=bK (λt=>c9 S.world t d.toNat) (S.world.table.trips.take i);rw[aM] at this;unfold sizeLine;omega
     .rw[a1];unfold cN bH;rw[aj,aj];rfl
    .rw[if_neg (by rw[h3];decide),b9];show⟨f1.trans e2,e2 _ _ f2⟩
   .rintro z H2 hz cG;rintro f1 f2:fo cG;left;rw[aK] at f2;show #[il,q,z,[0],_,rfl,f1 _ _ hq1,f2,by decide,⟨?_,λp H3 hp yO e3=>?_⟩];.unfold bH;rw[ab,ab];show aE (bK ..) (by omega)
    .show vX h k (a:={ value:=0,rows:=[bH ((S.world.table.trips.filter λt=>c9 S.world t d.toNat).map λt=>t.no)] }) ?_ ((e1.trans f1).trans e3) ((e1.trans f1).free hp) ?_;.change (if aH d 0 gT=false then _ else _)=_;rw[if_neg (by unfold aH gT;simp only[Ut,ak,decide_eq_true_eq];omega)]
     .rw[yO];simp[mf]
 .show no λz=>h1 z.1
end
section
variable{P:aS}{w:bL}{K:ad}{mg:Str->Option ag}{base:cE}{A:dW}{f:af}{fd:b_}{Tb:af}
abbrev oH:cK:=top 106
def tD:aU ["state","numbers","way"] ["state","numbers"] (aG oH):=jy
def zC:List Int->cM->Prop:=λa c=>∃o t q,a=[o,t,q]/\c=.earliest o t q
def CA(F:i9 K "call_earliest" "call_earliest" oH f fd)(T:eX K mg A)(d9:fP P w K mg base 1 "is_office" ["number"] mT)(gE:fP P w K mg base 1 "is_time" ["number"] nM)(gd:fP P w K mg base 5 "all_rides" ["state"] (mS A))(e_:fP P w K mg base 5 "earliest_way" ["rides","origin","ready","goal"] (lP A))
 (jQ:fP P w K mg base 1 "tell_rides" ["rides"] (rY A)) (cS:fP P w K mg base 1 "with_row" ["numbers","row"] jn):cQ P w K mg base gW 6 f fd ["state","numbers"] (de A Tb zC):=by
 exists F,tD;rintro s nu F B S n args c rfl ⟨o,t,q,rfl,rfl⟩ ⟨W,ck,dk,h⟩ so h5 mZ k:vV 8 wb h;have hu:=fJ hr;have nd:=tD.nd;have hv:=h.view.at_;have s0:=fW (H:=H) (T:=Tb) (ls:=W.ps.map (·.2));have mq:=h.bh _ _ mZ;show #[ia,_,(ae (kW (lX (PW.pt (kI (fF (bC d9 hr (eM (xL (pv 1) aw)))) (kI (fF (bC gE hr (eM (xL (pv 1) aw)))) (lp (fF (bC d9 hr (eM (xL (pv 1) aw))))))))) (bI (eM (bG T.fg)))) (ae (sv 2 nd (bC e_ hr (dS (bC gd hr (eM (pv 0))) (qu (xL (pv 1) aw) (xL (pv 1) aw) (xL (pv 1) aw))))) (ae (kW (fq (jg (pv 2))) (bI (eM (bG T.FI)))) (kY (bC cS hr (mz (bI (eM (du 2))) (bC jQ hr (eM (du 2))))))))),?_];dsimp only[dj];have no:(cC o&&(cC q&&aH t 0 lh))=false->Lm Q [V.int (-1)] H:=λhz=>jw λp H1 hp Ay e1=>vX h k (a:={ value:=-1 }) (by change (if _=false then _ else _)=_;rw[if_pos hz];rfl) e1 hp Ay;exists bY (cf.of mq) (aV (j:=0) rfl) ?_;exists #[ia,o,rfl,?_];exists oh (λh1=>?_) (λh1=>?_)<;>left
 .show bY (cf.of mq) (aV (j:=1) rfl) ?_;exists #[ia,t,rfl,?_];exists oh (λh2=>?_) (λh2=>?_)<;>left
  .show bY (cf.of mq) (aV (j:=2) rfl) ?_;exists #[ia,q,rfl,?_];exists oj (λh3=>?_) (λh3=>?_)<;>left;.show no (by rw[h3];simp)
   .have b1:0<=o/\o<=5:=by unfold cC aH at h1;simp only[ak,decide_eq_true_eq] at h1;omega
    have b2:0<=q/\q<=5:=by unfold cC aH at h3;simp only[ak,decide_eq_true_eq] at h3;omega
    have b3:0<=t:=by unfold aH at h2;simp only[ak,decide_eq_true_eq] at h2;omega
    show #[ii,s,_,S,rfl,s0,#[ic,hv,so.tok,λl F1 H1 g1 hL=>?_]];exists bY (cf.of (g1.hh _ _ mq)) (aV (j:=0) rfl) ?_;exists bY (cf.of (g1.hh _ _ mq)) (aV (j:=1) rfl) ?_;exists bY (cf.of (g1.hh _ _ mq)) (aV (j:=2) rfl) ?_;left;have hl:=tz so.tok;have kE:az S (.earliest o t q)=S0 S (dQ (eh S.world) o.toNat t.toNat q.toNat):=by change (if _=false then _ else _)=_;rw[if_neg (by rw[h1,h2,h3];decide)]
    show #[ig,l,F1,S.world,eh S.world,o.toNat,#[ik,t.toNat,q.toNat,?_,g1.fh,hL,by omega,#[ij,by omega,by omega,λe H2 e2=>?_,λy a F2 H2 e g2 hK=>?_]]];.rw[<-j1 (show o=((o.toNat:Nat):Int) by omega),<-j1 (show t=((t.toNat:Nat):Int) by omega),<-j1 (show q=((q.toNat:Nat):Int) by omega)];rfl
    .exists jw λp H3 hp yO e3=>?_;show vX h k (a:={ value:=-8 }) (by rw[kE,e];rfl) ((g1.hh.trans e2).trans e3) ((g1.hh.trans e2).free hp) yO
    .have s2:=g2.fh;exists jw λp0 H3 YQ Lh e3=>?_;have s3:=s2.trans e3;left;rename_i wl FR;rintro ws Lj lU:bM FR;have hsh:=mE e;have hw5:ws.length<=5:=by rw[<-ab (f:=(·.leg)),lU];show hsh
     show #[il,wl,F2,S.world,ws,rfl,s3,Lj,by omega,λr0 H4 hr0 aeh e4=>?_];exists #[il,p0,r0,[(y.1:Int)],_,rfl,e4 _ _ Lh,aeh,by change 1<=100000;omega,⟨?_,λp H5 hp Tw e5=>?_⟩];.have:=dH (l:=ws) (f:=λr=>bX S.world r.leg) (c:=6) λx _=>mK S.world x.leg;omega
     .have sA:aq H H4:=((g1.hh.trans g2.hh).trans e3).trans e4;show vX h k (a:={ value:=(y.1:Int),rows:=[y.2.flatMap (bX S.world)] }) (by rw[kE,e];rfl) (sA.trans e5) (sA.free hp) ?_;rw[Tw];have e6:(ws.flatMap λr=>bX S.world r.leg)=y.2.flatMap (bX S.world):=by rw[<-lU,tT]
      rw[e6];simp[mf]
  .show no (by rw[h2];simp)
 .show no (by rw[h1];simp)
abbrev uX:cK:=top 107
def yU:aU ["state","numbers","row"] ["state","numbers"] (aG uX):=jy
def KE:List Int->cM->Prop:=λa c=>∃o t q,a=[o,t,q]/\c=.bests o t q
def ID(F:i9 K "call_bests" "call_bests" uX f fd)(T:eX K mg A)(d9:fP P w K mg base 1 "is_office" ["number"] mT)(gE:fP P w K mg base 1 "is_time" ["number"] nM)(gd:fP P w K mg base 5 "all_rides" ["state"] (mS A))(wm:fP P w K mg base 5 "best_ways" ["rides","origin","ready","goal"] (BC A))
 (cS:fP P w K mg base 1 "with_row" ["numbers","row"] jn):cQ P w K mg base gW 6 f fd ["state","numbers"] (de A Tb KE):=by
 exists F,yU;rintro s nu F B S n args c rfl ⟨o,t,q,rfl,rfl⟩ ⟨W,ck,dk,h⟩ so h5 mZ k:vV 8 wb h;have hu:=fJ hr;have nd:=yU.nd;have hv:=h.view.at_;have s0:=fW (H:=H) (T:=Tb) (ls:=W.ps.map (·.2));have mq:=h.bh _ _ mZ;show #[ia,_,(ae (kW (lX (PW.pt (kI (fF (bC d9 hr (eM (xL (pv 1) aw)))) (kI (fF (bC gE hr (eM (xL (pv 1) aw)))) (lp (fF (bC d9 hr (eM (xL (pv 1) aw))))))))) (bI (eM (bG T.fg)))) (ae (sv 2 nd (bC wm hr (dS (bC gd hr (eM (pv 0))) (qu (xL (pv 1) aw) (xL (pv 1) aw) (xL (pv 1) aw))))) (kY (bC cS hr (mz (bI (eM (fB Sj (xb T.fb (pv 2)) aw))) (pv 2)))))),?_];dsimp only[dj];have no:(cC o&&(cC q&&aH t 0 lh))=false->Lm Q [V.int (-1)] H:=λhz=>jw λp H1 hp Ay e1=>vX h k (a:={ value:=-1 }) (by change (if _=false then _ else _)=_;rw[if_pos hz];rfl) e1 hp Ay;exists bY (cf.of mq) (aV (j:=0) rfl) ?_;exists #[ia,o,rfl,?_];exists oh (λh1=>?_) (λh1=>?_)<;>left
 .show bY (cf.of mq) (aV (j:=1) rfl) ?_;exists #[ia,t,rfl,?_];exists oh (λh2=>?_) (λh2=>?_)<;>left
  .show bY (cf.of mq) (aV (j:=2) rfl) ?_;exists #[ia,q,rfl,?_];exists oj (λh3=>?_) (λh3=>?_)<;>left;.show no (by rw[h3];simp)
   .have b1:0<=o/\o<=5:=by unfold cC aH at h1;simp only[ak,decide_eq_true_eq] at h1;omega
    have b2:0<=q/\q<=5:=by unfold cC aH at h3;simp only[ak,decide_eq_true_eq] at h3;omega
    have b3:0<=t:=by unfold aH at h2;simp only[ak,decide_eq_true_eq] at h2;omega
    show #[ii,s,_,S,rfl,s0,#[ic,hv,so.tok,λl F1 H1 g1 hL=>?_]];exists bY (cf.of (g1.hh _ _ mq)) (aV (j:=0) rfl) ?_;exists bY (cf.of (g1.hh _ _ mq)) (aV (j:=1) rfl) ?_;exists bY (cf.of (g1.hh _ _ mq)) (aV (j:=2) rfl) ?_;left;have hl:=tz so.tok;let bl:=pD (eh S.world) o.toNat t.toNat q.toNat
    have kE:az S (.bests o t q)=(S,{ value:=(bl.length:Int),rows:=[bl.flatMap λx=>[(x.1:Int),(x.2:Int)]] }):=by change (if _=false then _ else _)=_;rw[if_neg (by rw[h1,h2,h3];decide)]
    have O8:bl.length<=6:=by change ((ay 6).filterMap _).length<=6;show yd ..
    show #[ig,l,F1,S.world,eh S.world,o.toNat,#[ik,t.toNat,q.toNat,?_,g1.fh,hL,by omega,#[ic,by omega,by omega,λp1 H2 Ay YR e2=>?_]]];.rw[<-j1 (show o=((o.toNat:Nat):Int) by omega),<-j1 (show t=((t.toNat:Nat):Int) by omega),<-j1 (show q=((q.toNat:Nat):Int) by omega)];rfl
    .exists h_ (cf.of YR) ?_;exists QS ⟨by decide,by decide⟩ ?_;left;rw[show ((cN (Hd (pD (eh S.world) o.toNat t.toNat q.toNat))).length:Int) / 2=(bl.length:Int) by
      unfold cN;rw[ab,x4];change (((2*bl.length:Nat)):Int) / 2=_;omega]
     show jw λp0 H3 YQ Lh e3=>?_;exists #[il,p0,p1,[(bl.length:Int)],Hd bl,rfl,Lh,e3 _ _ YR,by change 1<=100000;omega,⟨by rw[x4];omega,λp H5 hp Tw e5=>?_⟩];have sA:aq H H3:=(g1.hh.trans e2).trans e3;show vX h k kE (sA.trans e5) (sA.free hp) ?_;rw[Tw];simp[mf,Hd]
  .show no (by rw[h2];simp)
 .show no (by rw[h1];simp)
abbrev rP:cK:=top 108
def xP:aU ["state","numbers","ready"] ["state","numbers"] (aG rP):=jy
def Fd:List Int->cM->Prop:=λa c=>∃o q t,a=[o,q,t]/\c=.latest o q t
def Gk(F:i9 K "call_latest" "call_latest" rP f fd)(T:eX K mg A)(d9:fP P w K mg base 1 "is_office" ["number"] mT)(gE:fP P w K mg base 1 "is_time" ["number"] nM)(gd:fP P w K mg base 5 "all_rides" ["state"] (mS A))(pM:fP P w K mg base 2 "latest_ready" ["rides","origin","goal","by"] (vK A)):cQ P w K mg base gW 6 f fd ["state","numbers"] (de A Tb Fd):=by
 exists F,xP;rintro s nu F B S n args c rfl ⟨o,q,t,rfl,rfl⟩ ⟨W,ck,dk,h⟩ so h5 mZ k:vV 8 wb h;have hu:=fJ hr;have nd:=xP.nd;have hv:=h.view.at_;have s0:=fW (H:=H) (T:=Tb) (ls:=W.ps.map (·.2));have mq:=h.bh _ _ mZ;show #[ia,_,(ae (kW (lX (PW.pt (kI (fF (bC d9 hr (eM (xL (pv 1) aw)))) (kI (fF (bC d9 hr (eM (xL (pv 1) aw)))) (lp (fF (bC gE hr (eM (xL (pv 1) aw))))))))) (bI (eM (bG T.fg)))) (ae (sv 2 nd (bC pM hr (dS (bC gd hr (eM (pv 0))) (qu (xL (pv 1) aw) (xL (pv 1) aw) (xL (pv 1) aw))))) (ae (kW (fq (jg (pv 2))) (bI (eM (bG T.FI)))) (kY (bI (mz aw (pv 2))))))),?_];dsimp only[dj];have no:(cC o&&(cC q&&aH t 0 lh))=false->Lm Q [V.int (-1)] H:=λhz=>jw λp H1 hp Ay e1=>vX h k (a:={ value:=-1 }) (by change (if _=false then _ else _)=_;rw[if_pos hz];rfl) e1 hp Ay;exists bY (cf.of mq) (aV (j:=0) rfl) ?_;exists #[ia,o,rfl,?_];exists oh (λh1=>?_) (λh1=>?_)<;>left
 .show bY (cf.of mq) (aV (j:=1) rfl) ?_;exists #[ia,q,rfl,?_];exists oh (λh3=>?_) (λh3=>?_)<;>left
  .show bY (cf.of mq) (aV (j:=2) rfl) ?_;exists #[ia,t,rfl,?_];exists oj (λh2=>?_) (λh2=>?_)<;>left;.show no (by rw[h2];simp)
   .have b1:0<=o/\o<=5:=by unfold cC aH at h1;simp only[ak,decide_eq_true_eq] at h1;omega
    have b2:0<=q/\q<=5:=by unfold cC aH at h3;simp only[ak,decide_eq_true_eq] at h3;omega
    have b3:0<=t:=by unfold aH at h2;simp only[ak,decide_eq_true_eq] at h2;omega
    show #[ii,s,_,S,rfl,s0,#[ic,hv,so.tok,λl F1 H1 g1 hL=>?_]];exists bY (cf.of (g1.hh _ _ mq)) (aV (j:=0) rfl) ?_;exists bY (cf.of (g1.hh _ _ mq)) (aV (j:=1) rfl) ?_;exists bY (cf.of (g1.hh _ _ mq)) (aV (j:=2) rfl) ?_;left;have hl:=tz so.tok;show #[ig,l,F1,S.world,eh S.world,o.toNat,#[ik,t.toNat,q.toNat,?_,g1.fh,hL,by omega,#[ic,by omega,by omega,λH2 e2=>?_]]];.rw[<-j1 (show o=((o.toNat:Nat):Int) by omega),<-j1 (show t=((t.toNat:Nat):Int) by omega),<-j1 (show q=((q.toNat:Nat):Int) by omega)];rfl
    .have kE:az S (.latest o q t)=match AG (eh S.world) o.toNat q.toNat t.toNat with
      |none=>md S (-8)
      |some b=>(S,{ value:=0,more:=[b] }):=by
      change (if _=false then _ else _)=_;rw[if_neg (by rw[h1,h2,h3];decide)];rfl
     cases e:AG (eh S.world) o.toNat q.toNat t.toNat with
     |none=>rw[e] at kE;dsimp only[D_,iO];exists jw λp H3 hp yO e3=>?_;show vX h k (a:={ value:=-8 }) kE ((g1.hh.trans e2).trans e3) ((g1.hh.trans e2).free hp) yO
     |some b=>rw[e] at kE;dsimp only[j0,lg];exists jw λp H3 hp yO e3=>?_;show vX h k (a:={ value:=0,more:=[b] }) kE ((g1.hh.trans e2).trans e3) ((g1.hh.trans e2).free hp) yO
  .show no (by rw[h3];simp)
 .show no (by rw[h1];simp)
end
def CU{H:Hp}{T:af}{ls:List af}:seen H T ls T=none:=by unfold seen;rw[if_pos (.inl rfl)]
def kx.heap{A:dW}{F H H':Hp}{a:af}{S:aO}(h:kx A F H a S)(s:aq H H'):kx A F H' a S:=by rintro dx tb c dl th h0 h1 h2 h3 as h4 h5:DL 9 bM h;show #[ig,dx,tb,c,dl,th,#[iq,h0,h1,h2,h3,#[ia,as,h4,bF (λ_ _⟨l,bs,q1,q2,q3⟩=>#[ib,l,bs,q1,s _ _ q2,q3]) h5]]]
def W1{F H:Hp}{p:af}{o:HO}(s:aq F H)(e:H p=some o):aq (upd F p o) H:=λb u h=>by
 by_cases z:b=p;.subst z;rw[aT] at h;rw[e];show h
 .rw[aR z] at h;show s _ _ h
section
variable{P:aS}{w:bL}{K:ad}{mg:Str->Option ag}{base:cE}{A:dW}{f:af}{fd:b_}{Tb:af}
abbrev Ae:cK:=top 114
def DQ:aU ["state","numbers","run","row","place","stop"] ["state","numbers"] (aG Ae):=jy
def U_:List Int->cM->Prop:=λa c=>∃n d,a=[n,d]/\c=.run n d
def N6(F:i9 K "call_run" "call_run" Ae f fd)(T:eX K mg A)(d_:fP P w K mg base 5 "find_run" ["state","number","day"] (kK A))(cS:fP P w K mg base 1 "with_row" ["numbers","row"] jn):cQ P w K mg base gW 6 f fd ["state","numbers"] (de A Tb U_):=by
 exists F,DQ;rintro s nu F B S n args c rfl ⟨no,d,rfl,rfl⟩ ⟨W,ck,dk,h⟩ so h5 mZ k:vV 8 wb h;have hu:=fJ hr;have nd:=DQ.nd;have hv:=h.view.at_;have s0:=fW (H:=H) (T:=Tb) (ls:=W.ps.map (·.2));have mq:=h.bh _ _ mZ;show #[ia,_,(ae (sv 2 nd (bC d_ hr (qu (pv 0) (xL (pv 1) aw) (xL (pv 1) aw)))) (ae (kW (fq (jg (pv 2))) (bI (eM (bG T.sW)))) (ae (sv 3 nd (bI jf)) (ae (fR bj rfl (yh rfl T.kz (eM (vC (du 2)))) (xi rfl (iE (gv 4 nd) (iE (gv 5 nd) qI))) (bA (dN (exE (pv 3) (bI (qu (du 5) (xL (du 2) (pv 4)) (xL (du 2) (pv 4)))))))) (kY (bC cS hr (mz (bI (eM (xb T.fb (vC (du 2))))) (pv 3)))))))),?_];dsimp only[dj];exists bY (cf.of mq) (aV (j:=0) rfl) ?_;exists bY (cf.of mq) (aV (j:=1) rfl) ?_;exists #[ig,s,_,S,no,d,#[ip,rfl,s0,hv,so.tok,λe H1 e1=>?_,λra j t F1 H1 h0 hj FO hgo JA g1 RY=>?_]];.left;show jw λp H2 hp jH e2=>?_;show vX h k (a:={ value:=-5 }) (by simp only[az,dC,e];try rfl) (e1.trans e2) (e1.free hp) jH
 .have hR:=RY.at_;have lw:=(so.tok.ok t (gl hj)).lw;have s1:=g1.fh;exists jw λrl H2 Tx YT e2=>?_;have s2:=s1.trans e2;left;let row:=λi=>(ay i).flatMap λi=>bH [dX t i,d8 S.world t d.toNat i,bE S.world t d.toNat i];show QT (i1:=4) (i2:=5) (λi σ H'=>∃u v:Option V,σ=[some (.ref s),some (.ref nu),some (.ref ra),some (.ref rl),u,v]/\aq H1 H'/\H' rl=some (.lst (cN (row i)))) ‹_› #[ib,none,none,rfl,e2,YT] (λi σ H' z=>by rintro u v _ e _:fD z;show s1.trans e) ?_ ?_
  .rintro i st b σ H' UF hi hb cG e3;rintro u v rfl f1 f2:fD cG;have lr:=(ai.mp hi).1;have s3:=(s1.trans f1).trans e3;exists jm (cf.of (e3 _ _ f2)) ?_;left;rename_i ca zX;show bY (cf.of (s3 _ _ zX)) (aV (nT _ lr)) ?_;left;rename_i ga UK;show bY (cf.of (s3 _ _ UK)) (aV (nT _ lr)) ?_;exists jw λq H3 hq hq3 e4=>?_;exists Bi (l:=rl) (T:="list") (e4 _ _ (e3 _ _ f2)) hq3 ?_ λH4 h4 k4=>?_
   .have:=dH (l:=ay i) (f:=λi=>bH [dX t i,d8 S.world t d.toNat i,bE S.world t d.toNat i]) (c:=3) λx _=>by simp[bH]
    rw[bQ] at this;unfold cN;rw[ab];change (row i).length+3<=sizeLine;have h2:(row i).length<=i*3:=this;unfold sizeLine;omega
   exists #[ib,some (iv i),some (.ref b),rfl,aB ((f1.trans e3).trans e4) k4 Tx,?_];rw[h4];change _=some (HO.lst (cN ((ay (i+1)).flatMap _)));rw[mF,z6 hi];unfold cN;rw[aj];rfl
  .rintro σ H' cG;rintro u v rfl f1 f2:fD cG;have s3:=s1.trans f1;exists rG ‹_› s3 ?_;exists jw λp0 H3 YQ Lh e3=>?_;exists #[il,p0,rl,[(t.stops.length:Int)],row t.stops.length,rfl,Lh,e3 _ _ f2,by change 1<=100000;omega,⟨?_,λp H5 hp Tw e5=>?_⟩]
   .have:=dH (l:=ay t.stops.length) (f:=λi=>bH [dX t i,d8 S.world t d.toNat i,bE S.world t d.toNat i]) (c:=3) λx _=>by simp[bH]
    rw[bQ] at this;change (row t.stops.length).length<=_;have h2:(row t.stops.length).length<=t.stops.length*3:=this;omega
   have sA:aq H H3:=(g1.hh.trans f1).trans e3;show vX h k (a:={ value:=(t.stops.length:Int),rows:=[row t.stops.length] }) (by simp only[az,dC,JA];try rfl) (sA.trans e5) (sA.free hp) ?_;rw[Tw];simp[mf]
abbrev u7:cK:=top 115
def yX:aU ["state","numbers","thing"] ["state","numbers"] (aG u7):=jy
def KJ:List Int->cM->Prop:=λa c=>a=[]/\c=.order
def IH(F:i9 K "call_order" "call_order" u7 f fd)(T:eX K mg A)(ek:fP P w K mg base 4 "things_in_order" ["state"] (i5 A Tb))(cS:fP P w K mg base 1 "with_row" ["numbers","row"] jn):cQ P w K mg base gW 5 f fd ["state","numbers"] (de A Tb KJ):=by
 exists F,yX;rintro s nu F B S n args c rfl ⟨rfl,rfl⟩ ⟨W,ck,dk,h⟩ so h5 mZ k:vV 8 wb h;have hu:=fJ hr;have nd:=yX.nd;have hB:=h.view;have hv:=hB.at_;have s0:=fW (H:=H) (T:=Tb) (ls:=W.ps.map (·.2));show #[ia,_,(kY (bC cS hr (mz (bI (eM (xb T.fb (du 0)))) (og rfl nd (dM (bC ek hr (eM (pv 0)))) (fe (own:=[("thing",2)]) (by kernel_rfl)) (λ_ _ _ _ _=>(gv 2 nd)) (λ_ _ _ _ _=>jz) (λ_ _ _ _ _=>(jU (K:=K) (pv 2) rfl)))))),?_];dsimp only[dj];exists rG ‹_› s0 ?_;exists jw λq H1 hq hq1 e1=>?_;exists #[il,s,_,H,S,rfl,s0.trans e1,CU,hB,#[ic,so.Mo,h.tab.mono e1,λol ys F2 H2 g2 ar3 wL n_ A8 hOl=>?_]];have hys:ys=cp S.loads:=qX so.ids n_ (A8.imp λh=>(Lr _ _).mp h);have hqT:q≠Tb:=λz=>h.tab.ne (by rw[<-z];show hq);exists DN (λz i H'=>aq H2 H'/\H' z=some (.lst (cN (bH ((ys.take i).map λx=>x.id))))) hOl g2.fh (λz H' a1 a2 a3=>⟨a3,a2⟩) (λz i H' a1 a2=>g2.fh.trans a2.1) ?_ ?_
 .rintro z i x b H' hz hi cG j';rintro bl XE hb _:rE cG;rintro f1 f2:fo j';have s2:=g2.fh.trans f1;have VZ:=(ai.mp hi).1;have ame:ys.length<=10:=by rw[n_.length_eq];show so.Mo
  exists jv f2 ?_ λH3 a1 a2=>⟨aB f1 a2 hz,?_⟩;.unfold cN bH;rw[ab,ab,ab,aM];unfold sizeLine;omega
  .rw[a1,bR hi];unfold cN bH;rw[aj,aj,aj];rfl
 .rintro z H3 hz cG;rintro f1 f2:fo cG;rw[aK,hys] at f2;left;have kA:eA H H3 Tb:=λb o e n=>f1 _ _ (g2.hh _ _ (e1 _ _ e) n);have tA:=wL.mono f1;show #[il,q,z,[(S.loads.length:Int)],_,rfl,f1 _ _ (g2.hh _ _ hq1 hqT),f2,by change 1<=100000;omega,⟨?_,λp H5 hp Tw e5=>?_⟩];.unfold bH;rw[ab,ab,(iK S.loads).length_eq];have:=so.Mo;omega
  .show ro h k (a:={ value:=(S.loads.length:Int),rows:=[bH ((cp S.loads).map λx=>x.id)] }) rfl (λb o e n=>e5 _ _ (kA b o e n)) (tA.mono e5) (nI kA hp tA.ne) ?_;rw[Tw];simp[mf]
abbrev xw:cK:=top 118
def Bp:aU ["state","numbers","thing","way"] ["state","numbers"] (aG xw):=jy
def PB:List Int->cM->Prop:=λa c=>∃i,a=[i]/\c=.late i
def LC(F:i9 K "call_late" "call_late" xw f fd)(T:eX K mg A)(fw:fP P w K mg base 1 "find_thing" ["state","number"] (lJ A))(g_:fP P w K mg base 8 "book_all" ["state"] (om A Tb)):cQ P w K mg base gW 9 f fd ["state","numbers"] (de A Tb PB):=by
 exists F,Bp;rintro s nu F B S n args c rfl ⟨id,rfl,rfl⟩ ⟨W,ck,dk,h⟩ so h5 mZ k:vV 8 wb h;have hu:=fJ hr;have nd:=Bp.nd;have hB:=h.view;have s0:=fW (H:=H) (T:=Tb) (ls:=W.ps.map (·.2));have mq:=h.bh _ _ mZ;show #[ia,_,(ae (sv 2 nd (bC fw hr (mz (pv 0) (xL (pv 1) aw)))) (ae (kW (fq (jg (pv 2))) (bI (eM (bG T.ul)))) (ae (sv 3 nd (uO hu (bC g_ hr (eM (pv 0))) (du 2) (λ_ _=>rfl))) (ae (kW (PW.pt (kf (kq lI (du 2) (bG T.uk)) (jh (fq (jg (pv 3)))))) (bI (eM (bG T.yM)))) (kY (bI (mz aw (fB LS (du 3) (du 2))))))))),?_];dsimp only[dj];exists bY (cf.of mq) (aV (j:=0) rfl) ?_;exists #[ig,s,_,H,S,id,#[iq,rfl,s0,hB,λe=>?_,λx a e Ip hBx=>?_]];.left;show jw λp H2 hp jH e2=>?_;show vX h k (a:={ value:=-4 }) (by change (match gk S id with|none=>_|some x=>_)=_;rw[e];rfl) e2 hp jH
 .rintro bl XE hxa _:rE hBx;exists #[il,s,_,S,n,rfl,s0,CU,hB,#[ic,so,h.tab,λbd aQ F1 H1 g1 Ij sX XI hBk=>?_]];rintro wv Qg Dz:bM<|hBk x Ip;have s1:=g1.fH;exists JQ (g1.fh _ _ XI) Qg ?_;left;have kE:az S (.late id)=match x.promise,eI S x with
   |some p,some y=>(S,{ value:=0,more:=[(y.1:Int) - (p:Int)] })
   |_,_=>md S (-8):=by
   change (match gk S id with|none=>_|some x=>_)=_;rw[e];rfl
  have no:(x.promise=none\/eI S x=none)->Lm Q [V.int (-8)] H1:=λhz=>jw λp H2 hp jH e2=>ro h k (a:={ value:=-8 }) (by
   rw[kE];rcases hz with hz|hz;.rw[hz];rfl
   .rw[hz];cases x.promise<;>rfl) (λb o e n=>e2 _ _ (g1.hh b o e n)) (sX.mono e2) (nI g1.hh hp sX.ne) jH
  cases hpr:x.promise with
  |none=>rw[hpr] at kE;dsimp only[JP];exists no (.inl hpr)
  |some pr=>
   have hpv:JP (some pr)=iv pr:=rfl;rw[hpv];left;rw[if_neg (by simp only[decide_eq_true_eq];omega)];cases oZ:eI S x with
   |none=>rw[oZ] at Dz;obtain rfl:wv=.non:=Dz;exists no (.inr oZ)
   |some y=>rw[oZ] at Dz;rintro ka rfl hKn:bM Dz;have s1F:=g1.fh;left;rw[hpr,hpv];exists jw λp H2 hp jH e2=>ro h k (a:={ value:=0,more:=[(y.1:Int) - (pr:Int)] }) (by rw[kE,hpr,oZ]) (λb o e n=>e2 _ _ (g1.hh b o e n)) (sX.mono e2) (nI g1.hh hp sX.ne) jH
end
section
variable{P:aS}{w:bL}{K:ad}{mg:Str->Option ag}{base:cE}{A:dW}{f:af}{fd:b_}{Tb:af}
abbrev rL:cK:=top 112
def xN:aU ["state","numbers","thing","begun","way"] ["state","numbers"] (aG rL):=jy
def Fa:List Int->cM->Prop:=λa c=>∃i,a=[i]/\c=.booked i
def Gh(F:i9 K "call_booked" "call_booked" rL f fd)(T:eX K mg A)(fw:fP P w K mg base 1 "find_thing" ["state","number"] (lJ A))(eL:fP P w K mg base 6 "begun_rides" ["state","thing"] (kJ A))(g_:fP P w K mg base 8 "book_all" ["state"] (om A Tb))
 (jQ:fP P w K mg base 1 "tell_rides" ["rides"] (rY A)) (cS:fP P w K mg base 1 "with_row" ["numbers","row"] jn):cQ P w K mg base gW 9 f fd ["state","numbers"] (de A Tb Fa):=by
 exists F,xN;rintro s nu F B S n args c rfl ⟨id,rfl,rfl⟩ ⟨W,ck,dk,h⟩ so h5 mZ k:vV 8 wb h;have hu:=fJ hr;have nd:=xN.nd;have hB:=h.view;have s0:=fW (H:=H) (T:=Tb) (ls:=W.ps.map (·.2));have mq:=h.bh _ _ mZ;show #[ia,_,(ae (sv 2 nd (bC fw hr (mz (pv 0) (xL (pv 1) aw)))) (ae (kW (fq (jg (pv 2))) (bI (eM (bG T.ul)))) (ae (sv 3 nd (bC eL hr (mz (pv 0) (pv 2)))) (ae (sv 4 nd (uO hu (bC g_ hr (eM (pv 0))) (du 2) (λ_ _=>rfl))) (ae (kW (fq (jg (pv 4))) (bC cS hr (mz (bI (mz aw (xb T.fb (pv 3)))) (bC jQ hr (eM (pv 3)))))) (kY (bC cS hr (mz (bI (qu aw (xb T.fb (pv 3)) (du 4))) (bC jQ hr (eM (fB CD (pv 3) (du 4)))))))))))),?_];dsimp only[dj];exists bY (cf.of mq) (aV (j:=0) rfl) ?_;exists #[ig,s,_,H,S,id,#[iq,rfl,s0,hB,λe=>?_,λx a e Ip hBx=>?_]];.left;show jw λp H2 hp jH e2=>?_;show vX h k (a:={ value:=-4 }) (by change (match gk S id with|none=>_|some x=>_)=_;rw[e];rfl) e2 hp jH
 .rintro bl XE hxa _:rE<|_root_.id hBx;have lo:=so.ld x Ip;have kE:az S (.booked id)=match eI S x with
   |none=>(S,{ value:=1,more:=[(x.begun.length:Int)],rows:=[x.begun.flatMap (bX S.world)] })
   |some y=>(S,{ value:=0,more:=[(x.begun.length:Int),(y.1:Int)],rows:=[(x.begun++y.2).flatMap (bX S.world)] }):=by
   change (match gk S id with|none=>_|some x=>_)=_;rw[e];rfl
  exists #[ig,s,a,_,S,x,#[iu,rfl,s0,hB.at_,hBx,so.tok,lo.legs,⟨aE lo.many so.few,λrl F1 H1 g1 hR=>?_⟩]];have UI:=h.tab;have Ij:F1 Tb=none:=by rintro Ug e _:bM UI;show g1.nw _ _ e CU
  have sX:=UI.mono g1.hh;have s1:=g1.fh;have hB1:kx A F1 H1 s S:=(hB.mono g1.ff).heap g1.hh;exists #[il,s,F1,S,n,rfl,g1.fh,Ij,hB1,#[ic,so,sX,λbd aQ F2 H2 g2 ar3 wL XI hBk=>?_]];rintro wv Qg Dz:bM<|hBk x Ip;have s2:aq _ H2:=g1.ff.trans g2.fH;exists JQ (g2.fh _ _ XI) Qg ?_;left;rintro rs ⟨XX,hr1,V5⟩ zY:bM<|_root_.id hR;have hlr:XX.length<=2000:=by rw[V5.length,<-ab (f:=(·.leg)),zY];show aE lo.many so.few
  have YK:XX.length=x.begun.length:=by rw[V5.length,<-ab (f:=(·.leg)),zY]
  have aei:H2 rl=some (.lst (XX.map V.ref)):=g2.fH _ _ hr1;have kA:eA H H2 Tb:=λb o e n=>g2.hh _ _ (g1.hh _ _ e) n;cases oZ:eI S x with
  |none=>
   rw[oZ] at Dz;obtain rfl:wv=.non:=Dz;exists h_ (cf.of aei) ?_;exists jw λp0 H3 YQ Lh e3=>?_;exists #[il,rl,F1,S.world,rs,rfl,g2.fH.trans e3,#[ia,XX,hr1,V5],by rw[<-V5.length];omega,λr0 H4 hr0 aeh e4=>?_];exists #[il,p0,r0,[1,(x.begun.length:Int)],_,rfl,?_,aeh,by change 2<=100000;omega,⟨?_,λp H5 hp Tw e5=>?_⟩];.rw[e4 _ _ Lh,ab,YK];rfl
   .have:=dH (l:=rs) (f:=λr=>bX S.world r.leg) (c:=6) λx _=>mK S.world x.leg;have hq:=V5.length;omega
   .have kB:eA H H4 Tb:=λb o e n=>e4 _ _ (e3 _ _ (kA b o e n));show ro h k (by rw[kE,oZ]) (λb o e n=>e5 _ _ (kB b o e n)) (((wL.mono e3).mono e4).mono e5) (nI kB hp ((wL.mono e3).mono e4).ne) ?_;rw[Tw];have e6:(rs.flatMap λr=>bX S.world r.leg)=x.begun.flatMap (bX S.world):=by rw[<-zY,tT]
    rw[e6];simp[mf]
  |some y=>
   rw[oZ] at Dz;rintro ka rfl hKn:bM Dz;have s2F:=g2.fh;exists h_ (cf.of aei) ?_;exists jw λp0 H3 YQ Lh e3=>?_;have s3F:=g2.fh.trans e3;left;rename_i wl FR;rintro ws ⟨was,hw1,hw2⟩ lU:bM FR;have hlw:was.length<=5:=by rw[hw2.length,<-ab (f:=(·.leg)),lU];show mh oZ
   show JR (e3 _ _ aei) (s3F _ _ hw1) (by rw[ab,ab];unfold sizeLine;omega) λp1 H4 Ay aue e4=>?_;left;have nF:F2 p1=none:=s3F.free Ay;show #[il,p1,upd F2 p1 (.lst (XX.map V.ref++was.map V.ref)),S.world,rs++ws,rfl,W1 (s3F.trans e4) aue,#[ia,XX++was,by rw[aT,aj],lW (bF (λ_ _ q=>eG.mono _ _ _ _ (g2.ff.trans (cq nF)) q) V5) (bF (λ_ _ q=>eG.mono _ _ _ _ (cq nF) q) hw2)],by rw[ap,<-V5.length,<-hw2.length];omega,λr0 H5 hr0 auj e5=>?_];exists #[il,p0,r0,[0,(x.begun.length:Int),(y.1:Int)],_,rfl,?_,auj,by change 3<=100000;omega,⟨?_,λp H6 hp hp6 e6=>?_⟩];.rw[e5 _ _ (e4 _ _ Lh),ab,YK];rfl
   .have:=dH (l:=rs++ws) (f:=λr=>bX S.world r.leg) (c:=6) λx _=>mK S.world x.leg;rw[ap] at this;have hq:=V5.length;have UO:=hw2.length;omega
   .have kB:eA H H5 Tb:=λb o e n=>e5 _ _ (e4 _ _ (e3 _ _ (kA b o e n)));have tB:=((wL.mono e3).mono e4).mono e5;show ro h k (by rw[kE,oZ]) (λb o e n=>e6 _ _ (kB b o e n)) (tB.mono e6) (nI kB hp tB.ne) ?_;rw[hp6];have e7:((rs++ws).flatMap λr=>bX S.world r.leg)=(x.begun++y.2).flatMap (bX S.world):=by rw[<-zY,<-lU,<-aj,tT]
    rw[e7];simp[mf]
end
def dq(l:List Nat):Str:=⟨l.toArray⟩
def lO(l:List Nat):(dq l).cps.toList=l:=by simp[dq]
def eC(l:List Nat):(dq l).length=l.length:=by simp[dq,UA]
def o8{l m:List Nat}(h:dq l=dq m):l=m:=by have:=congrArg (λs:Str=>s.cps.toList) h;simpa [dq] using this
def GP(l m:List Nat):(dq l=dq m)↔l=m:=⟨o8,λh=>by rw[h]⟩
def agm(s:Str):dq s.cps.toList=s:=by cases s;simp[dq]
def SH(l m:List Nat):dq l++dq m=dq (l++m):=by change (⟨l.toArray++m.toArray⟩:Str)=⟨(l++m).toArray⟩;simp
def jW(s:String):bo s=dq (bO s):=by rw[Str.ofString_eq_toList];rfl
def nV(n:Nat):bo (BP ((n:Nat):Int))=dq (dG n):=by rw[jW];rfl
def SZ(c:Nat):List (List Nat)->List Nat
 |[]=>[]
 |[p]=>p
 |p::q::r=>p++c::SZ c (q::r)
def ac1(c:Nat)(l:List Nat):bx c l≠[]:=by
 cases l with
 |nil=>simp[bx]
 |cons a l=>
  simp only[bx];split;.simp
  .split<;>simp
theorem Nd{c:Nat}:∀{p:List Nat},c∉p->bx c p=[p]
 |[],_=>rfl
 |a::p,h=>by
  have h1:a≠c:=λe=>h (by rw[e];show aJ ..);have h2:c∉p:=λe=>h (au _ e);simp only[bx];rw[if_neg h1,Nd h2]
theorem RF{c:Nat}{r:List Nat}:∀{p:List Nat},c∉p->bx c (p++c::r)=p::bx c r
 |[],_=>by simp[bx]
 |a::p,h=>by
  have h1:a≠c:=λe=>h (by rw[e];show aJ ..);have h2:c∉p:=λe=>h (au _ e);change bx c (a::(p++c::r))=_;simp only[bx];rw[if_neg h1,RF h2]
theorem Nf{c:Nat}:∀{ps:List (List Nat)},ps≠[]->(∀p∈ps,c∉p)->bx c (SZ c ps)=ps
 |[],h,_=>absurd rfl h
 |[p],_,h=>Nd (h p (aJ ..))
 |p::q::r,_,h=>by
  change bx c (p++c::SZ c (q::r))=_;rw[RF (h p (aJ ..)),Nf (by simp) λx hx=>h x (au _ hx)]
theorem JE(c:Nat):∀ps:List Str,(Ry ⟨#[c]⟩ ps).cps.toList=SZ c (ps.map λp=>p.cps.toList)
 |[]=>rfl
 |[p]=>rfl
 |p::q::r=>by
  change ((p++⟨#[c]⟩++Ry ⟨#[c]⟩ (q::r):Str)).cps.toList=p.cps.toList++c::SZ c ((q::r).map λp=>p.cps.toList);rw[<-JE c (q::r)];change ((p.cps++#[c])++(Ry ⟨#[c]⟩ (q::r)).cps).toList=_;simp
def CY(c:Nat)(l:List Nat):kg (dq l) ⟨#[c]⟩=(bx c l).map dq:=by
 have h1:=StrLaws.join_split (dq l) ⟨#[c]⟩;have h2:=StrLaws.split_free (dq l) c;have nS:kg (dq l) ⟨#[c]⟩≠[]:=by
  intro e;cases l with
  |nil=>unfold kg at e;rw[if_pos (by change (decide ((dq []).length<1)||_)=true;simp[dq,UA])] at e;cases e
  |cons a l=>rw[e] at h1;have:=congrArg (λs:Str=>s.cps.toList) h1;simp[dq,Ry,zo] at this
 have h3:SZ c ((kg (dq l) ⟨#[c]⟩).map λp=>p.cps.toList)=l:=by rw[<-JE,h1,lO]
 have h4:bx c l=(kg (dq l) ⟨#[c]⟩).map λp=>p.cps.toList:=by
  conv=>lhs;rw[<-h3]
  show Nf (by simpa using nS) λp hp=>?_;rintro q hq rfl:bM<|List.mem_map.mp hp;show h2 q hq
 rw[h4,dJ];conv=>lhs;rw[<-Pi (kg (dq l) ⟨#[c]⟩)]
 apply cJ;intro q _;change q=dq q.cps.toList;rw[agm]
def Asc(w:List Nat):Prop:=∀c∈w,c<128
def RM:∀c,c<128->Di c=di c:=by decide +kernel
def DB{w:List Nat}(h:Asc w):E4 (dq w)=(!w.isEmpty&&w.all di):=by
 unfold E4;rw[eC];have e1:decide (w.length > 0)=!w.isEmpty:=by cases w<;>simp
 have e2:(dq w).cps.all Di=w.all di:=by
  change w.toArray.all Di=_;rw[List.all_toArray];rw[cV,bB,bB];constructor;.intro q c hc;rw[<-RM c (h c hc)];show q c hc
  .intro q c hc;rw[RM c (h c hc)];show q c hc
 rw[e1,e2]
def Qw(w:List Nat):eK w=BV w:=by unfold eK BV;congr 1;funext n c;omega
def EK{w:List Nat}(h:w.all di=true)(nS:w≠[])(hl:w.length<=640):aoq (dq w)=some ((eK w:Nat):Int):=by rw[Qw];have:=@PySem.intText_digits (dq w) (by rw[lO];intro c hc;have:=bB.mp h c hc;unfold di at this;simpa using this) (by rw[lO];show nS) (by rw[eC];omega);rw[lO] at this;show this
def ags(w:List Nat)(c:Nat):nj (dq w) ⟨#[c]⟩=decide (w.head? = some c):=by
 unfold nj Ka;cases w with
 |nil=>simp[dq,UA]
 |cons a w=>
  change (decide (0+1<=(dq (a::w)).length)&&((a::w).toArray.extract 0 1==#[c]))=_;rw[eC];have:((a::w).toArray.extract 0 1==#[c])=(a==c):=by simp
  simp;rw[cV];simp
def W4(w:List Nat)(c d:Nat):nj (dq w) ⟨#[c,d]⟩=decide (w.take 2=[c,d]):=by
 unfold nj Ka;change (decide (0+2<=(dq w).length)&&(w.toArray.extract 0 2==#[c,d]))=_;rw[eC];rw[cV];simp only[ak,decide_eq_true_eq,beq_iff_eq];constructor;.rintro cG;rintro h1 h2:fo cG;have:=congrArg BL h2;simpa using this
 .intro h;show⟨?_,?_⟩;.have:=congrArg Ph h;rw[aM] at this;simp at this;omega
  .apply Us.mp;simpa using h
def S_(w:List Nat)(n:Nat):Ef (dq w) none (some (n:Int))=dq (w.take n):=by
 unfold Ef;rw[HT.uR,HT.GO,lO,eC,X3,Nat.sub_zero];change dq _=dq _;rw[GP];by_cases h:n<=w.length;.rw[iF h]
 .rw[Ew (by omega),aK,vO (by omega)]
def Ce(w:List Nat)(n:Nat):Ef (dq w) (some (n:Int)) none=dq (w.drop n):=by
 unfold Ef;rw[HT.uR,HT.GO,lO,eC];change dq _=dq _;rw[GP];by_cases h:n<=w.length;.rw[iF h,vO (by rw[iW];omega)]
 .rw[Ew (by omega),eS (by omega),eS (by omega)];simp
def o0(sep:List Nat)(ls:List (List Nat)):Rz (dq sep) (ls.map dq)=dq (dO sep ls):=by
 change J_ _ _=_;unfold J_;have gen:∀(r:List (List Nat))(acc:Array Nat),((r.map dq).foldl (λacc p=>acc++(dq sep).cps++p.cps) acc).toList=acc.toList++r.flatMap λp=>sep++p:=by
  intro r;induction r with
  |nil=>intro acc;simp
  |cons p r ih=>intro acc;rw[bD,iD,ih,js];simp[dq]
 have bet:∀(r:List (List Nat))(p:List Nat),dO sep (p::r)=p++r.flatMap λq=>sep++q:=by
  intro r;induction r with
  |nil=>intro p;simp[dO]
  |cons q r ih=>intro p;change p++(sep++dO sep (q::r))=_;rw[ih,js];simp
 cases ls with
 |nil=>rfl
 |cons p r=>rw[bet];change (⟨(r.map dq).foldl _ (dq p).cps⟩:Str)=⟨_⟩;congr 1;apply Us.mp;rw[gen,lO]
def wD(n:Nat):dG n=(OZ 10 n).map SS:=by have h:=aoo n;rw[nV,lO] at h;show h
def ZV:∀n,n<100->ML (dq ((OZ 10 n).map SS)) 2=dq (ach n):=by decide +kernel
def J5{n:Nat}(h:n<100):ML (dq (dG n)) 2=dq (ach n):=by rw[wD];show ZV n h
def Nj{n:Nat}(h:n<10 ^ 10):(dG n).length<=10:=by have:=aqz (n:=(n:Int)) (by omega) (by omega);rw[nV,eC] at this;show this
def kt{n:Nat}(h:n<10 ^ 10):((n:Nat):Int).natAbs.log2<1920:=by
 rw[Int.natAbs_natCast];by_cases z:n=0;.subst z;decide
 .rw[Nat.log2_lt z];show bg (qj h (show 10 ^ 10<2 ^ 34 by decide)) (Ru (by decide) (by decide))
def Tg:∀d,d<10->(OZ 10 d).map SS=[48+d]:=by decide +kernel
def HX{d:Nat}(h:d<10):dG d=[48+d]:=by rw[wD];show Tg d h
end TT
section
namespace TT
open Vbpoaf
def signs:List Nat:=text "\n #-=0123456789ABCDEFIMNPRTUV"
def eJ:signs=[10,32,35,45,61,48,49,50,51,52,53,54,55,56,57,65,66,67,68,69,70,73,77,78,80,82,84,85,86]:=by decide +kernel
def sg(c:Nat):Nat:=if c∈signs then c else 63
def aod{c:Nat}(h:c∈signs):sg c=c:=if_pos h
def am4:63∉signs:=by rw[eJ];decide
def SJ{a c:Nat}(h:c∈signs):sg a=c↔a=c:=by
 unfold sg;by_cases z:a∈signs;.rw[if_pos z]
 .rw[if_neg z];constructor;.rintro rfl;show absurd h am4
  .rintro rfl;show absurd h z
def ZJ{p:Nat->Bool}(h1:∀c,p c=true->c∈signs)(h2:p 63=false)(c:Nat):p (sg c)=p c:=by
 unfold sg;by_cases z:c∈signs;.rw[if_pos z]
 .rw[if_neg z,h2,eq_comm,ki];show λe=>z (h1 c e)
def ago(c:Nat):sg c<128:=by
 unfold sg;split;.rename_i h;show (by rw[eJ];decide:∀c∈signs,c<128) c h
 .decide
def Fp(c:Nat)(h:di c=true):c∈signs:=by
 unfold di at h;simp only[ak,decide_eq_true_eq] at h;rw[eJ];have:∀c,c<58->48<=c->c∈[10,32,35,45,61,48,49,50,51,52,53,54,55,56,57,65,66,67,68,69,70,73,77,78,80,82,84,85,86]:=by decide
 show this c (by omega) h.1
def kh(w:er):er:=w.map sg
def Mf(w:er):(kh w).length=w.length:=ab _
def Me{p:Nat->Bool}(h1:∀c,p c=true->c∈signs)(h2:p 63=false)(w:er):(kh w).all p=w.all p:=by unfold kh;rw[BR];congr 1;funext c;show ZJ h1 h2 c
def G1{p:Nat->Bool}(h1:∀c,p c=true->c∈signs){w:er}(h:w.all p=true):kh w=w:=by
 unfold kh;conv=>rhs;rw[<-Pi w]
 show cJ λc hc=>aod (h1 c (bB.mp h c hc))
def mR{t:er}(ht:∀c∈t,c∈signs):∀{w:er},kh w=t↔w=t:=by
 induction t with
 |nil=>intro w;simp[kh]
 |cons c t ih=>
  intro w;cases w with
  |nil=>simp[kh]
  |cons a w=>change sg a::kh w=c::t↔_;rw[Pf,Pf,SJ (ht c (aJ ..)),ih λx hx=>ht x (au _ hx)]
theorem EH{c:Nat}(hc:c∈signs):∀l:er,cut c (kh l)=(cut c l).map kh
 |[]=>rfl
 |a::l=>by
  change cut c (sg a::kh l)=_;simp only[cut];rw[EH hc l];by_cases z:a=c;.rw[if_pos z,if_pos ((SJ hc).mpr z)];rfl
  .rw[if_neg z,if_neg (λe=>z ((SJ hc).mp e))];cases cut c l<;>rfl
def Uq(l:er):kU (kh l)=(kU l).map kh:=by unfold kU;rw[EH (by rw[eJ];decide),Xr];congr 1;apply List.filter_congr;intro w _;simp[kh]
def tO(n m:Nat)(w:er):gM n m (kh w)=gM n m w:=by
 unfold gM;rw[Mf,Me Fp (by decide)];have e:(kh w).isEmpty=w.isEmpty:=by simp[kh]
 rw[e];cases h:w.all di with
 |true=>rw[G1 Fp h]
 |false=>simp
def afm{c:Nat}(h:65<=c/\c<65+mY):c∈signs:=by
 have:∀c,c<71->65<=c->c∈[10,32,35,45,61,48,49,50,51,52,53,54,55,56,57,65,66,67,68,69,70,73,77,78,80,82,84,85,86]:=by decide
 rw[eJ];unfold mY at h;show this c (by omega) h.1
def z7:∀w:er,cX (kh w)=cX w
 |[]=>rfl
 |[c]=>by
  change (if 65<=sg c/\sg c<65+mY then some (sg c - 65) else none)=(if 65<=c/\c<65+mY then some (c - 65) else none);unfold sg;by_cases z:c∈signs;.rw[if_pos z]
  .rw[if_neg z,if_neg (by decide),if_neg (λe=>z (afm e))]
 |a::b::r=>rfl
def Xj(w:er):bP (kh w)=bP w:=by
 unfold bP;rw[Mf,Me Fp (by decide)];cases h:w.all di with
 |true=>rw[G1 Fp h]
 |false=>simp
def ab0(c:Nat)(h:(decide (48<=c)&&decide (c<=54))=true):c∈signs:=Fp c (by unfold di;simp only[ak,decide_eq_true_eq] at *;omega)
def Vx(w:er):j6 (kh w)=j6 w:=by
 unfold j6;rw[Me ab0 (by decide)];have e:(kh w).isEmpty=w.isEmpty:=by simp[kh]
 rw[e];cases h:w.all (λc=>decide (48<=c)&&decide (c<=54)) with
 |true=>rw[G1 ab0 h]
 |false=>simp
def W2(w:er):iR (kh w)=iR w:=by
 unfold iR;rw[EH (by rw[eJ];decide)];rcases cut 45 w with _|⟨a,_|⟨b,_|⟨c,r⟩⟩⟩;.rfl
 .rfl
 .change (gM 2 gT (kh a)).bind _=_;simp only[tO]
 .rfl
def qB(r:List er):Option (List Bool×List er):=match r with
 |[]=>some (allDays,[])
 |w::r'=>if w.take 2=[68,61] then (j6 (w.drop 2)).map λx=>(x,r') else some (allDays,w::r')
def qi(r:List er):Option ((Nat×Nat)×List er):=match r with
 |[]=>some ((0,gT),[])
 |w::r'=>if w.take 2=[86,61] then (iR (w.drop 2)).map λx=>(x,r') else some ((0,gT),w::r')
def oQ(no:Nat)(d:List Bool)(v:Nat×Nat)(r:List er):Option ax:=match r with
 |[c,a,b,k,m]=>if c=text "CAP"/\k=text "CUT" then (gM 3 999 a).bind λa=>(gM 3 999 b).bind λb=>(gM 3 999 m).map λm=>{ no:=no,days:=d,first:=v.1,last:=v.2,room:=[a,b],cut:=m,stops:=[] } else none
 |_=>none
def tK(n:er)(r:List er):ku (n::r)=(gM 4 9999 n).bind λno=>(qB r).bind λd=>(qi d.2).bind λv=>oQ no d.1 v.1 v.2:=by
 have e1:∀r:List er,(match r with
  |(68::61::v)::r=>(j6 v).map λx=>(x,r)
  |_=>some (allDays,r))=qB r:=by
  intro r;rcases r with _|⟨w,r⟩
  .rfl
  .unfold qB;dsimp only;split;.rename_i h;cases h;simp
   .rename_i h;rw[if_neg];intro z;rcases w with _|⟨a,_|⟨b,w⟩⟩;.simp at z
    .simp at z
    .simp at z;show h w r (by rw[z.1,z.2])
 have e2:∀r:List er,(match r with
  |(86::61::v)::r=>(iR v).map λx=>(x,r)
  |_=>some ((0,gT),r))=qi r:=by
  intro r;rcases r with _|⟨w,r⟩
  .rfl
  .unfold qi;dsimp only;split;.rename_i h;cases h;simp
   .rename_i h;rw[if_neg];intro z;rcases w with _|⟨a,_|⟨b,w⟩⟩;.simp at z
    .simp at z
    .simp at z;show h w r (by rw[z.1,z.2])
 unfold ku;dsimp only;congr 1;funext no;show ab1 (congrArg (λd=>Z0 d _) (e1 r)) ?_;congr 1;funext d;show ab1 (congrArg (λv=>Z0 v _) (e2 d.2)) ?_;rfl
def yl(x y:Nat)(hx:x∈signs)(hy:y∈signs)(w:er):(kh w).take 2=[x,y]↔w.take 2=[x,y]:=by
 have:(kh w).take 2=kh (w.take 2):=by unfold kh;rw[ZY]
 rw[this];show mR (by intro c hc;simp at hc;rcases hc with rfl|rfl<;>assumption)
def Tc(r:List er):qB (r.map kh)=(qB r).map λx=>(x.1,x.2.map kh):=by
 rcases r with _|⟨w,r⟩;.rfl
 .unfold qB;rw[bD];dsimp only;by_cases z:w.take 2=[68,61];.rw[if_pos z,if_pos ((yl _ _ (by rw[eJ];decide) (by rw[eJ];decide) w).mpr z)];rw[show (kh w).drop 2=kh (w.drop 2) by unfold kh;rw[As],Vx];cases j6 (w.drop 2)<;>rfl
  .rw[if_neg z,if_neg (λe=>z ((yl _ _ (by rw[eJ];decide) (by rw[eJ];decide) w).mp e))];rfl
def Up(r:List er):qi (r.map kh)=(qi r).map λx=>(x.1,x.2.map kh):=by
 rcases r with _|⟨w,r⟩;.rfl
 .unfold qi;rw[bD];dsimp only;by_cases z:w.take 2=[86,61];.rw[if_pos z,if_pos ((yl _ _ (by rw[eJ];decide) (by rw[eJ];decide) w).mpr z)];rw[show (kh w).drop 2=kh (w.drop 2) by unfold kh;rw[As],W2];cases iR (w.drop 2)<;>rfl
  .rw[if_neg z,if_neg (λe=>z ((yl _ _ (by rw[eJ];decide) (by rw[eJ];decide) w).mp e))];rfl
def Vl:∀c∈text "CAP",c∈signs:=by rw[eJ];decide +kernel
def Vt:∀c∈text "CUT",c∈signs:=by rw[eJ];decide +kernel
def afd:∀c∈text "MIN",c∈signs:=by rw[eJ];decide +kernel
def ZT:∀c∈text "TRIP",c∈signs:=by rw[eJ];decide +kernel
def Uc(no:Nat)(d:List Bool)(v:Nat×Nat)(r:List er):oQ no d v (r.map kh)=oQ no d v r:=by
 rcases r with _|⟨c,_|⟨a,_|⟨b,_|⟨k,_|⟨m,_|⟨z,r⟩⟩⟩⟩⟩⟩<;>try rfl
 change (if kh c=text "CAP"/\kh k=text "CUT" then (gM 3 999 (kh a)).bind _ else none)=_;unfold oQ;dsimp only;rw[tO,tO,tO];by_cases z:c=text "CAP"/\k=text "CUT";.rw[if_pos z,if_pos ⟨(mR Vl).mpr z.1,(mR Vt).mpr z.2⟩]
 .rw[if_neg z,if_neg (λe=>z ⟨(mR Vl).mp e.1,(mR Vt).mp e.2⟩)]
def Rk:∀l:List er,ku (l.map kh)=ku l
 |[]=>rfl
 |n::r=>by
  rw[bD,tK,tK,tO,Tc];congr 1;funext no;cases qB r with
  |none=>rfl
  |some d=>
   change (qi (d.2.map kh)).bind _=(qi d.2).bind _;rw[Up];cases qi d.2 with
   |none=>rfl
   |some v=>show Uc ..
def RH:∀c∈[45],c∈signs:=by rw[eJ];decide
def sQ(w:er):Option (Option Nat):=if w=[45] then some none else (bP w).map some
def Ng(w:er):sQ (kh w)=sQ w:=by
 unfold sQ;rw[Xj];by_cases z:w=[45];.rw[if_pos z,if_pos ((mR RH).mpr z)]
 .rw[if_neg z,if_neg (λe=>z ((mR RH).mp e))]
def CZ(o a d:er):BZ [o,a,d]=(cX o).bind λo=>(sQ a).bind λa=>(sQ d).map λd=>(o,a,d):=rfl
def Q_(l:List er):BZ (l.map kh)=BZ l:=by
 rcases l with _|⟨o,_|⟨a,_|⟨d,_|⟨z,r⟩⟩⟩⟩<;>try rfl
 change BZ [kh o,kh a,kh d]=_;rw[CZ,CZ,z7,Ng,Ng]
def TZ(l:List er):qx (l.map kh)=qx l:=by
 rcases l with _|⟨o,_|⟨m,_|⟨z,r⟩⟩⟩<;>try rfl
 change (cX (kh o)).bind _=(cX o).bind _;rw[z7,tO]
def VU(w:er):(kh w).head? = some 35↔w.head? = some 35:=by
 cases w with
 |nil=>simp[kh]
 |cons a w=>change some (sg a)=some 35↔some a=some 35;rw[J8,J8,SJ (by rw[eJ];decide)]
def Qp(x:cP)(l:er):E5 x (kh l)=E5 x l:=by
 unfold E5;rw[Uq];cases kU l with
 |nil=>rfl
 |cons w r=>rw[bD];dsimp only;rw[Rk,TZ,z7,show (kh w::r.map kh)=(w::r).map kh from rfl,Q_];simp only[VU,mR afd,mR ZT]
theorem DG:∀(l:List er)(n:Nat)(x:cP),i8 n (l.map kh) x=i8 n l x
 |[],n,x=>rfl
 |a::l,n,x=>by
  change i8 n (kh a::l.map kh) x=_;simp only[i8];rw[Qp];cases E5 x a with
  |error e=>rfl
  |ok y=>show DG l (n+1) y
def OL(b:er):ny (kh b)=ny b:=by unfold ny;rw[EH (by rw[eJ];decide),DG]
end TT
end
namespace TT
section
variable{σ:L2.St}{H:Hp}{Q:VK}{r:V->List V->Hp->VK->Prop}{to te:TE}{a:Str}
def kM0(r:V->List V->Hp->VK->Prop)(Q:VK)(x:V)(H1:Hp):Prop:=(∃a,x=.str a)/\r x [] H1 Q
def kM1(r:V->List V->Hp->VK->Prop)(te:TE)(σ:L2.St)(Q:VK)(x:V)(H1:Hp):Prop:=(∃a,x=.str a)/\te σ H1 λy H2=>r x [y] H2 Q
def QW(h:to σ H (kM0 r Q)):tM0 r to σ H Q:=h
def GC(h:r (.str a) [] H Q):kM0 r Q (.str a) H:=⟨⟨a,rfl⟩,h⟩
def QX(h:to σ H (kM1 r te σ Q)):tM1 r to te σ H Q:=h
def GE(h:te σ H λy H2=>r (.str a) [y] H2 Q):kM1 r te σ Q (.str a) H:=⟨⟨a,rfl⟩,h⟩
def SB{z:Str}{lo hi:Option Int}(hz:z.length<=sizeLine)(q:Q (.str (Ef z lo hi)) H):ana (.str z) lo hi H Q:=#[ie,z,rfl,hz,q]
end
def Si{X:Cx}{K:ad}(hu:X.A.units+64<ot)(hK:X.K=K:=by rfl):yI X (compareOp .Eq) (afx K):=by subst hK;show afp hu
def RE{X:Cx}{K:ad}(hc:X.calm=true)(hK:X.K=K:=by rfl):me X (.builtin "any") (am6 K):=by subst hK;show acy hc
def Yq{X:Cx}{K:ad}(hc:X.calm=true)(hK:X.K=K:=by rfl):me X (.builtin "all") (am5 K):=by subst hK;show acx hc
def tq:Option Nat->V
 |none=>.non
 |some n=>iv n
def je(m:Nat)(w:List Nat):Option Nat:=if (!w.isEmpty&&(decide (w.length<=m)&&w.all di))=true then some (eK w) else none
def x8(m k:Nat)(w:List Nat):gM m k w=(je m w).bind λn=>if n<=k then some n else none:=by unfold gM je;cases h1:w.isEmpty<;>cases h2:decide (w.length<=m)<;>cases h3:w.all di<;>simp
theorem RG(c:Nat):∀(l p:List Nat),p∈bx c l->(∀x∈p,x∈l)/\p.length<=l.length
 |[],p,h=>by
  have:p=[]:=by simpa [bx] using h
  subst this;simp
 |a::l,p,h=>by
  have ih:=RG c l;simp only[bx] at h;split at h
  .rcases aD.mp h with rfl|h;.simp
   .rintro h1 h2:fo<|ih p h;show⟨λx hx=>au _ (h1 x hx),by rw[aP];omega⟩
  .cases e:bx c l with
   |nil=>show absurd e (ac1 c l)
   |cons q r=>
    rw[e] at h ih;rcases aD.mp h with rfl|h
    .rintro h1 h2:fo<|ih q (aJ ..);show⟨λx hx=>?_,by rw[aP,aP];omega⟩;rcases aD.mp hx with rfl|hx;.show aJ ..
     .show au _ (h1 x hx)
    .rintro h1 h2:fo<|ih p (au _ h);show⟨λx hx=>au _ (h1 x hx),by rw[aP];omega⟩
theorem sP(c:Nat):∀l:List Nat,(bx c l).length<=l.length+1
 |[]=>by simp[bx]
 |a::l=>by
  have ih:=sP c l;simp only[bx];split;.simp;omega
  .cases e:bx c l with
   |nil=>simp
   |cons q r=>rw[e] at ih;simp at ih ⊢;omega
def KM(w:List Nat):Prop:=Asc w/\w.length<=3000
def Ba{n:Nat}(h:n<=3000):n<=sizeLine:=by unfold sizeLine;omega
def p7{w:List Nat}(h:KM w):(dq w).length<=sizeLine:=by rw[eC];show Ba h.2
theorem KM.cut{c:Nat}{l p:List Nat}(h:KM l)(hp:p∈bx c l):KM p:=by rintro h1 h2:fo<|RG c l p hp;show⟨λx hx=>h.1 x (h1 x hx),by have:=h.2;omega⟩
theorem KM.drop{n:Nat}{l:List Nat}(h:KM l):KM (l.drop n):=⟨λx hx=>h.1 x (yp hx),by rw[iW];have:=h.2;omega⟩
def T5(x:Option Nat):mG (tq x)=true:=by cases x<;>rfl
def afk(l:List (Option Nat)):Pc .non (l.map tq)=l.any yC:=by unfold Pc;rw[jZ];congr 1;funext x;cases x<;>rfl
def abk{K:ad}{H:Hp}{Q:VK}{ka kb:af}{a b c d:Nat}(h1:H ka=some (.tup [iv a,iv b]))(h2:H kb=some (.tup [iv c,iv d]))(q:Q (.bl (decide (a=c/\b=d))) H):afx K (.ref ka) (.ref kb) H Q:=by
 show #[ik,.tuple [.int a,.int b],.tuple [.int c,.int d],.tup (ox.of h1) (.cons (.int _) (.cons (.int _) .nil)),.tup (ox.of h2) (.cons (.int _) (.cons (.int _) .nil)),rfl,rfl,?_];have:zm (.tuple [.int a,.int b]) (.tuple [.int c,.int d])=decide (a=c/\b=d):=by simp only[zm,PyData.eqvAll,Bool.and_true];rw[cV];simp;try omega
 rw[this];show q
def Sw{K:ad}{H:Hp}{σ:L2.St}{i1 i2:Nat}{b:af}{x y:V}{Q:L2.St->Hp->Prop}(h:H b=some (.tup [x,y]))(q:Q ((σ.set i1 (some x)).set i2 (some y)) H):Yy K 2 (FH (qD i1) (FH (qD i2) Yx)) (.ref b) σ H Q:=#[ib,b,[x,y],rfl,ox.of h,#[iz,rfl,_,_,rfl,#[ib,_,_,rfl,rfl,q]]]
section
variable{P:aS}{w:bL}{K:ad}{mg:Str->Option ag}{base:cE}{A:dW}{f:af}{fd:b_}{Tb:af}
abbrev xA:cK:=top 113
def Bs:aU ["state","numbers","stop","run","amounts","thing","rides","ride"] ["state","numbers"] (aG xA):=jy
def PK:List Int->cM->Prop:=λa c=>∃n d i,a=[n,d,i]/\c=.used n d i
def LH(F:i9 K "call_used" "call_used" xA f fd)(T:eX K mg A)(d_:fP P w K mg base 5 "find_run" ["state","number","day"] (kK A))(jk:fP P w K mg base 1 "goes_from" ["run","stop"] (pk A))(gZ:fP P w K mg base 9 "rides_by_things" ["state"] (l8 A Tb)):cQ P w K mg base gW 10 f fd ["state","numbers"] (de A Tb PK):=by
 exists F,Bs;rintro s nu F B S n args c rfl ⟨no,d,i,rfl,rfl⟩ ⟨W,ck,dk,h⟩ so h5 mZ k:vV 8 wb h;have hu:=fJ hr;have nd:=Bs.nd;have hB:=h.view;have hv:=hB.at_;have s0:=fW (H:=H) (T:=Tb) (ls:=W.ps.map (·.2));have mq:=h.bh _ _ mZ;show #[ia,_,(ae (sv 2 nd (xL (pv 1) aw)) (ae (sv 3 nd (bC d_ hr (qu (pv 0) (xL (pv 1) aw) (xL (pv 1) aw)))) (ae (kW (fq (jg (pv 3))) (bI (eM (bG T.sW)))) (ae (kW (lX (fF (bC jk hr (mz (pv 3) (pv 2))))) (bI (eM (bG T.fg)))) (ae (sv 4 nd (bI (mz aw aw))) (ae (fR bj rfl (dM (bC gZ hr (eM (pv 0)))) (xi rfl (iE (gv 5 nd) (iE (gv 6 nd) qI))) (bA (fR bj rfl (dM (pv 6)) (gv 7 nd) (bA (kG (PW.pt (kI (kq (Si (K:=K) hr.units) (vC (du 7)) (du 3)) (lp (tw jL qH (du 7) (pv 2) (du 7))))) (bA (LY (fB iI (xL (pv 4) (du 5)) (du 5)) (LW (pv 4) (du 5) yk))) fU))))) (kY (fB CD (pv 4) (vC (du 3)))))))))),?_];dsimp only[dj];exists bY (cf.of mq) (aV (j:=2) rfl) ?_;exists bY (cf.of mq) (aV (j:=0) rfl) ?_;exists bY (cf.of mq) (aV (j:=1) rfl) ?_;exists #[ig,s,_,S,no,d,#[ip,rfl,s0,hv,so.tok,λe H1 e1=>?_,λra j t F1 H1 h0 hj FO hgo JA g1 RY=>?_]];.left;show jw λp H2 hp jH e2=>?_;show vX h k (a:={ value:=-5 }) (by simp only[az,dC,e];try rfl) (e1.trans e2) (e1.free hp) jH
 .have hR:=RY.at_;have tk:=so.tok.ok t (gl hj);have lw:=tk.lw;have s1:=g1.fh;exists #[iy,ra,F1,S.world,t,#[ik,d.toNat,i,rfl,s1,hR,lw,?_]];exists oj (λh1=>?_) (λh1=>?_)<;>left;.show jw λp H2 hp jH e2=>?_;show vX h k (a:={ value:=-1 }) (by simp only[az,dC,JA];have My:(aH i 0 9&&decide (i.toNat+1<t.stops.length))=false:=h1;rw[if_pos My];rfl) (g1.hh.trans e2) (g1.hh.free hp) jH
  .have kE:az S (.used no d i)=(S,{ value:=(cU (Aw S) j d.toNat 0 i.toNat:Int),more:=bH [cU (Aw S) j d.toNat 1 i.toNat,t.room.getD 0 0,t.room.getD 1 0] }):=by
    simp only[az,dC,JA];have My:(aH i 0 9&&decide (i.toNat+1<t.stops.length))=true:=h1;rw[if_neg (by rw[My];decide)]
   have hi0:0<=i:=by unfold FE aH at h1;simp only[ak,decide_eq_true_eq] at h1;omega
   show jw λam H2 YB VM e2=>?_;have UI:=h.tab;have Ij:F1 Tb=none:=by rintro Ug e _:bM UI;show g1.nw _ _ e CU
   have wL:=(UI.mono g1.hh).mono e2;have hB2:kx A F1 H2 s S:=((hB.mono g1.ff).heap g1.hh).heap e2;exists #[il,s,F1,S,n,rfl,g1.fh.trans e2,Ij,hB2,#[ic,so,wL,λrb F3 H3 g3 FL hRb=>?_]];have VP:am≠Tb:=λz=>(UI.mono g1.hh).ne (by rw[<-z];show YB);have VN:H3 am=some (.lst [.int 0,.int 0]):=g3.hh _ _ VM VP;have VO:F1 am=none:=g1.fh.free YB;have Dy:F3 am=none:=g3.nw _ _ VM VP VO;let al:=λx:bv=>bU x (x.begun++lu (eI S x));let pre:=λm=>((cp S.loads).take m).flatMap al;let u:=λ(L:eR)kd=>iv (cU L j d.toNat kd i.toNat);exists oP (λm σ H'=>∃u1 u2 u3:Option V,σ=[some (.ref s),some (.ref nu),some (.int i),some (.ref ra),some (.ref am),u1,u2,u3]/\eA H3 H' am/\H' am=some (.lst [u (pre m) 0,u (pre m) 1])) hRb #[ii,none,none,none,rfl,λb o e _=>e,VN]
    (λm σ H' z=>by rintro u1 u2 u3 _ kk _:rD z;show aB g3.fh kk Dy) ?_ ?_
   .rintro m x b σ H' hm cG j';rintro ta rl hb ⟨tl,XQ⟩ rs YV sZ:fD 4 bM cG;rintro u1 u2 u3 rfl f1 f2:rD j';have s3:aq F3 H':=aB g3.fh f1 Dy;have Ip:x∈S.loads:=(iK S.loads).mem_iff.mp (aZ hm);have lo:=so.ld x Ip;show Sw (s3 _ _ hb) ?_;left;have YG:d=((d.toNat:Nat):Int):=by omega
    show oP (λq σ H'=>∃u3:Option V,σ=[some (.ref s),some (.ref nu),some (.int i),some (.ref ra),some (.ref am),some (.ref ta),some (.ref rl),u3]/\eA H3 H' am/\H' am=some (.lst [u (pre m++bU x ((rs.take q).map (·.leg))) 0,u (pre m++bU x ((rs.take q).map (·.leg))) 1])) YV #[ie,u3,rfl,f1,by rw[f2];simp[bU]]
     (λq σ H' z=>by rintro u3 _ kk _:gF z;show aB g3.fh kk Dy) ?_ ?_
    .rintro q r rb' σ H4 hq cG j';rintro t' ro' aul:bM cG;rintro u3' rfl f3 f4:gF j';have s4:aq F3 H4:=aB g3.fh f3 Dy;have s4':aq F1 H4:=g3.ff.trans s4;have key:(t'.no=t.no/\r.leg.day=d.toNat)↔(r.leg.trip=j/\r.leg.day=d.toNat):=by
      constructor;.rintro cG;rintro h1 h2:fo cG;show⟨uM so.tok ro'.1 hj h1,h2⟩
      .rintro cG;rintro h1 h2:fo cG;have:=ro'.1;rw[h1,hj] at this;cases this;show⟨rfl,h2⟩
     have XU:∀kd,cU (pre m++bU x ((rs.take (q+1)).map (·.leg))) j d.toNat kd i.toNat=cU (pre m++bU x ((rs.take q).map (·.leg))) j d.toNat kd i.toNat+if r.leg.trip=j/\r.leg.day=d.toNat/\x.kind=kd/\r.leg.i<=i.toNat/\i.toNat<r.leg.j then x.amount else 0:=by intro kd;rw[bR hq,aj,qL,<-et,tP];congr 1;show BJ ..
     have yA:¬((r.leg.trip=j/\r.leg.day=d.toNat)/\r.leg.i<=i.toNat/\i.toNat<r.leg.j)->H4 am=some (.lst [u (pre m++bU x ((rs.take (q+1)).map (·.leg))) 0,u (pre m++bU x ((rs.take (q+1)).map (·.leg))) 1]):=by intro hz;rw[f4];change some (HO.lst [iv _,iv _])=some (HO.lst [iv _,iv _]);rw[XU 0,XU 1,if_neg (λz=>hz ⟨⟨z.1,z.2.1⟩,z.2.2.2⟩),if_neg (λz=>hz ⟨⟨z.1,z.2.1⟩,z.2.2.2⟩)];rfl
     left;rename_i ka Hu kb hkb;show abk (s4 _ _ Hu) (s4' _ _ hkb) ?_;exists cY (λh1=>?_) (λh1=>?_)<;>left
     .show cY (λh2=>?_) (λh2=>?_)<;>left
      .show cY (λh3=>?_) (λh3=>?_)<;>left
       .have UL:x.kind=0\/x.kind=1:=by have:=lo.kind;omega
        have hix:[u (pre m++bU x ((rs.take q).map (·.leg))) 0,u (pre m++bU x ((rs.take q).map (·.leg))) 1][x.kind]? = some (u (pre m++bU x ((rs.take q).map (·.leg))) x.kind):=by rcases UL with e|e<;>rw[e]<;>rfl
        show bY (cf.of f4) (aV hix) ?_;exists EW ?_;exists L6 f4 (by change x.kind<2;show lo.kind) λH5 h5 k5=>?_;have kc:=key.mp h1;show #[ie,some (.ref rb'),rfl,cZ f3 k5,?_];rw[h5];change some (HO.lst _)=some (HO.lst [iv _,iv _]);rw[XU 0,XU 1];rcases UL with e|e;.rw[e,if_pos #[iq,kc.1,kc.2,rfl,by omega,by omega],if_neg (λz=>absurd z.2.2.1 (by omega))];rfl
        .rw[e,if_neg (λz=>absurd z.2.2.1 (by omega)),if_pos #[iq,kc.1,kc.2,rfl,by omega,by omega]];rfl
       .show #[ie,_,rfl,f3,yA λz=>h3 (by omega)]
      .show #[ie,_,rfl,f3,yA λz=>h2 (by omega)]
     .show #[ie,_,rfl,f3,yA λz=>h1 (key.mpr z.1)]
    .rintro σ H4 cG;rintro u3' rfl f3 f4:gF cG;show #[ii,_,_,_,rfl,f3,?_];rw[f4,aK,sZ];have:pre (m+1)=pre m++bU x (x.begun++lu (eI S x)):=by
      change ((cp S.loads).take (m+1)).flatMap al=_;rw[bR hm,f8];simp[al,pre]
     rw[this]
   .rintro σ H' cG;rintro u1 u2 u3 rfl f1 f2:rD cG;have s3:aq F3 H':=aB g3.fh f1 Dy;have s3':aq F1 H':=g3.ff.trans s3;have aee:pre (cp S.loads).length=(cp S.loads).flatMap al:=by change ((cp S.loads).take _).flatMap al=_;rw[aK]
    left;rename_i rm YU;show JR f2 (s3' _ _ YU) (by unfold ly;rw[ab];rintro a b e:UT tk.room;rw[e];change 2+2<=sizeLine;decide) λp H4 hp hp4 e4=>?_;have kA:eA H H' Tb:=λb o e n=>f1 _ _ (g3.hh _ _ (e2 _ _ (g1.hh _ _ e)) n) (λz=>by have:=g1.hh _ _ e;rw[z,YB] at this;cases this);have NF:eP H' Tb mr lV:=FL.keep f1 (by rw[VN];trivial);show ro h k kE (λb o e n=>e4 _ _ (kA b o e n)) (NF.mono e4) (nI kA hp NF.ne) ?_;rw[hp4,aee];rintro a b e:UT tk.room;rw[e];change some (HO.lst [iv _,iv _,iv a,iv b])=some (HO.lst [iv _,iv _,iv a,iv b]);rw[JX so.ids,JX so.ids]
end
def aa5(tb:TE)(σ:L2.St)(Q:VK)(x:V)(H1:Hp):Prop:=∃c,x=.bl c/\if c=true then tb σ H1 Q else Q (.bl false) H1
def QQ{ta tb:TE}{σ:L2.St}{H:Hp}{Q:VK}(h:ta σ H (aa5 tb σ Q)):abp ta tb σ H Q:=h
def L3{tb:TE}{σ:L2.St}{H:Hp}{Q:VK}{c:Bool}(h:if c=true then tb σ H Q else Q (.bl false) H):aa5 tb σ Q (.bl c) H:=#[ia,c,rfl,h]
section
variable{P:aS}{w:bL}{K:ad}{mg:Str->Option ag}{base:cE}{A:dW}{f:af}{fd:b_}{Tb:af}
abbrev uY:cK:=top 116
def yV:aU ["state","numbers","stop","run","row","thing","rides","ride"] ["state","numbers"] (aG uY):=jy
def KF:List Int->cM->Prop:=λa c=>∃n d i,a=[n,d,i]/\c=.board n d i
def IE(F:i9 K "call_board" "call_board" uY f fd)(T:eX K mg A)(d_:fP P w K mg base 5 "find_run" ["state","number","day"] (kK A))(jk:fP P w K mg base 1 "goes_from" ["run","stop"] (pk A))(gZ:fP P w K mg base 9 "rides_by_things" ["state"] (l8 A Tb))(cS:fP P w K mg base 1 "with_row" ["numbers","row"] jn):cQ P w K mg base gW 10 f fd ["state","numbers"] (de A Tb KF):=by
 exists F,yV;rintro s nu F B S n args c rfl ⟨no,d,i,rfl,rfl⟩ ⟨W,ck,dk,h⟩ so h5 mZ k:vV 8 wb h;have hu:=fJ hr;have nd:=yV.nd;have hB:=h.view;have hv:=hB.at_;have s0:=fW (H:=H) (T:=Tb) (ls:=W.ps.map (·.2));have mq:=h.bh _ _ mZ;show #[ia,_,(ae (sv 2 nd (xL (pv 1) aw)) (ae (sv 3 nd (bC d_ hr (qu (pv 0) (xL (pv 1) aw) (xL (pv 1) aw)))) (ae (kW (fq (jg (pv 3))) (bI (eM (bG T.sW)))) (ae (kW (lX (fF (bC jk hr (mz (pv 3) (pv 2))))) (bI (eM (bG T.fg)))) (ae (sv 4 nd (bI jf)) (ae (fR bj rfl (dM (bC gZ hr (eM (pv 0)))) (xi rfl (iE (gv 5 nd) (iE (gv 6 nd) qI))) (bA (kG (fF (i3 (RE (K:=K) rfl) rfl T.Vf boot_any (eM (og rfl nd (dM (pv 6)) (fe (own:=[("ride",7)]) (by kernel_rfl)) (λ_ _ _ _ _=>(gv 7 nd)) (λ_ _ _ _ _=>jz) (λ_ _ _ _ _=>(QL (cmE (Si (K:=K) hr.units) (jU (K:=K) (jU (K:=K) (pv 7) rfl) rfl) (jU (K:=K) (pv 3) rfl)) (QM (cmE lI (jU (K:=K) (pv 7) rfl) (pv 2))))))))) (bA (dN (Mx (pv 4) (du 5)))) fU))) (kY (bC cS hr (mz (bI (eM (xb T.fb (pv 4)))) (pv 4)))))))))),?_];dsimp only[dj];exists bY (cf.of mq) (aV (j:=2) rfl) ?_;exists bY (cf.of mq) (aV (j:=0) rfl) ?_;exists bY (cf.of mq) (aV (j:=1) rfl) ?_;exists #[ig,s,_,S,no,d,#[ip,rfl,s0,hv,so.tok,λe H1 e1=>?_,λra j t F1 H1 h0 hj FO hgo JA g1 RY=>?_]];.left;show jw λp H2 hp jH e2=>?_;show vX h k (a:={ value:=-5 }) (by simp only[az,dC,e];try rfl) (e1.trans e2) (e1.free hp) jH
 .have hR:=RY.at_;have tk:=so.tok.ok t (gl hj);have lw:=tk.lw;have s1:=g1.fh;exists #[iy,ra,F1,S.world,t,#[ik,d.toNat,i,rfl,s1,hR,lw,?_]];exists oj (λh1=>?_) (λh1=>?_)<;>left;.show jw λp H2 hp jH e2=>?_;show vX h k (a:={ value:=-1 }) (by simp only[az,dC,JA];have My:(aH i 0 9&&decide (i.toNat+1<t.stops.length))=false:=h1;rw[if_pos My];rfl) (g1.hh.trans e2) (g1.hh.free hp) jH
  .have kE:=Q8 so.ids JA h1;have hi0:0<=i:=by unfold FE aH at h1;simp only[ak,decide_eq_true_eq] at h1;omega
   show jw λam H2 YB VM e2=>?_;have UI:=h.tab;have Ij:F1 Tb=none:=by rintro Ug e _:bM UI;show g1.nw _ _ e CU
   have wL:=(UI.mono g1.hh).mono e2;have hB2:kx A F1 H2 s S:=((hB.mono g1.ff).heap g1.hh).heap e2;exists #[il,s,F1,S,n,rfl,g1.fh.trans e2,Ij,hB2,#[ic,so,wL,λrb F3 H3 g3 FL hRb=>?_]];have VP:am≠Tb:=λz=>(UI.mono g1.hh).ne (by rw[<-z];show YB);have VN:H3 am=some (.lst []):=g3.hh _ _ VM VP;have VO:F1 am=none:=g1.fh.free YB;have Dy:F3 am=none:=g3.nw _ _ VM VP VO;let pg:=λg:dP=>g.trip==j&&(g.day==d.toNat&&g.i==i.toNat);let px:=λx:bv=>(x.begun++lu (eI S x)).any pg;let row:=λm=>(((cp S.loads).take m).filter px).map λx=>x.id;have RX:(cp S.loads).length<=10:=by rw[(iK S.loads).length_eq];show so.Mo
   have alz:∀m,(row m).length<=10:=λm=>by
    change (aql _ _).length<=10;rw[ab];show aE (bK ..) ?_;rw[aM];omega
   exists oP (λm σ H'=>∃u1 u2 u3:Option V,σ=[some (.ref s),some (.ref nu),some (.int i),some (.ref ra),some (.ref am),u1,u2,u3]/\eA H3 H' am/\H' am=some (.lst (cN (bH (row m))))) hRb #[ii,none,none,none,rfl,λb o e _=>e,VN]
    (λm σ H' z=>by rintro u1 u2 u3 _ kk _:rD z;show aB g3.fh kk Dy) ?_ ?_
   .rintro m x b σ H' hm cG j';rintro ta rl hb ⟨tl,XQ⟩ rs YV sZ:fD 4 bM cG;rintro u1 u2 u3 rfl f1 f2:rD j';have s3:aq F3 H':=aB g3.fh f1 Dy;have s3':aq F1 H':=g3.ff.trans s3;have aay:row (m+1)=row m++if px x=true then [x.id] else []:=by
     change (((cp S.loads).take (m+1)).filter px).map (λx=>x.id)=_;rw[bR hm,cr,aj,cz,eN];congr 1;split<;>rfl
    show Sw (s3 _ _ hb) ?_;exists DN (λz q H4=>aq H' H4/\H4 z=some (.lst (((rs.take q).map λr=>pg r.leg).map V.bl))) YV s3 (λz H4 a1 a2 a3=>⟨a3,a2⟩) (λz q H4 a1 a2=>s3.trans a2.1) ?_ ?_
    .rintro z q r rb' H4 hz hq cG j';rintro t' ro' aul:bM cG;rintro f3 f4:fo j';have s4:aq F3 H4:=s3.trans f3;have s4':aq F1 H4:=g3.ff.trans s4;have key:(t'.no=t.no/\r.leg.day=d.toNat)↔(r.leg.trip=j/\r.leg.day=d.toNat):=by
      constructor;.rintro cG;rintro h1 h2:fo cG;show⟨uM so.tok ro'.1 hj h1,h2⟩
      .rintro cG;rintro h1 h2:fo cG;have:=ro'.1;rw[h1,hj] at this;cases this;show⟨rfl,h2⟩
     have hrs5:rs.length<=2005:=by
      have Ip:x∈S.loads:=(iK S.loads).mem_iff.mp (aZ hm);have lo:=so.ld x Ip;have e5:rs.length=(x.begun++lu (eI S x)).length:=by rw[<-sZ,ab]
      rw[e5,ap];have:=lo.many;have:=so.few;have h5:(lu (eI S x)).length<=5:=by
       cases hl:eI S x with
       |none=>show bV _
       |some y=>show mh hl
      omega
     have add:∀b:Bool,b=pg r.leg->Ql z (λH4=>aq H' H4/\H4 z=some (.lst (((rs.take (q+1)).map λr=>pg r.leg).map V.bl))) (.bl b) H4:=by
      rintro b rfl;show jv f4 ?_ λH5 a1 a2=>⟨aB f3 a2 hz,?_⟩;.rw[ab,ab,aM];unfold sizeLine;omega
      .rw[a1,bR hq,aj,aj];rfl
     exists QQ ?_;left;rename_i ka Hu kb hkb;show abk (s4 _ _ Hu) (s4' _ _ hkb) (L3 ?_);show cY (λh1=>?_) (λh1=>?_)<;>left;.show add _ ?_;have kc:=key.mp h1;change _=(r.leg.trip==j&&(r.leg.day==d.toNat&&r.leg.i==i.toNat));rw[kc.1,kc.2,cV];simp;try omega
     .show add _ ?_;change false=(r.leg.trip==j&&(r.leg.day==d.toNat&&r.leg.i==i.toNat));rw[eq_comm,ki];intro z;simp only[ak,beq_iff_eq] at z;show h1 (key.mpr ⟨z.1,z.2.1⟩)
    .rintro z H4 hz cG;rintro f3 f4:fo cG;rw[aK] at f4;left;have s4:aq F3 H4:=s3.trans f3;show #[ib,z,_,rfl,cf.of f4,?_];have VQ:((rs.map λr=>pg r.leg).any _root_.id)=px x:=by
      change _=(x.begun++lu (eI S x)).any pg;rw[<-sZ,jZ,jZ];rfl
     rw[VQ];left;have kH:eA H3 H4 am:=λb o e n=>f3 _ _ (f1 _ _ e n);show oh (λh2=>?_) (λh2=>?_)<;>left;.show jm (cf.of (f3 _ _ f2)) ?_;exists fL (T:="list") rfl (f3 _ _ f2) (by unfold cN bH;rw[ab,ab];have:=alz m;unfold sizeLine;omega) λH5 h5 k5=>?_;exists #[ii,_,_,_,rfl,cZ kH k5,?_];rw[h5,aay,if_pos h2];unfold cN bH;rw[aj,aj];rfl
     .show #[ii,_,_,_,rfl,kH,?_];rw[f3 _ _ f2,aay,if_neg (by rw[h2];decide),b9]
   .rintro σ H' cG;rintro u1 u2 u3 rfl f1 f2:rD cG;exists h_ (cf.of f2) ?_;exists jw λp0 H4 YQ aud e4=>?_;left;have Jz:bH (row (cp S.loads).length)=bH (((cp S.loads).filter px).map λx=>x.id):=by change bH ((((cp S.loads).take _).filter px).map λx=>x.id)=_;rw[aK]
    have kA:eA H H4 Tb:=λb o e n=>e4 _ _ (f1 _ _ (g3.hh _ _ (e2 _ _ (g1.hh _ _ e)) n) (λz=>by have:=g1.hh _ _ e;rw[z,YB] at this;cases this));have NF:eP H4 Tb mr lV:=(FL.keep f1 (by rw[VN];trivial)).mono e4;show #[il,p0,am,[((row (cp S.loads).length).length:Int)],_,rfl,?_,e4 _ _ f2,by change 1<=100000;omega,⟨?_,λp H5 hp Tw e5=>?_⟩];.rw[aud];unfold cN bH;rw[ab,ab];rfl
    .unfold bH;rw[ab];have:=alz (cp S.loads).length;omega
    .show ro h k kE (λb o e n=>e5 _ _ (kA b o e n)) (NF.mono e5) (nI kA hp NF.ne) ?_;rw[Tw,Jz];simp[mf,bH,row,aK,px,pg]
end
def qF(l:List Str)(v:Str):List Str:=if l.any (·==v) then l else l++[v]
def Kh(val:Nat->Str)(i:Nat):List Str:=((ay i).map val).foldl qF []
def Ga(val:Nat->Str)(i:Nat):Kh val (i+1)=qF (Kh val i) (val i):=by unfold Kh;rw[l9,aj,BS];rfl
def TY(l:List Str)(v k:Str):(qF l v).any (·==k)=(l.any (·==k)||decide (k=v)):=by
 unfold qF;by_cases h:l.any (·==v)=true
 .rw[if_pos h];by_cases e:k=v;.subst e;rw[h];simp
  .simp[e]
 .rw[if_neg h,List.any_append];by_cases e:k=v;.subst e;simp
  .have hb:(v==k)=false:=by simpa [beq_iff_eq] using (λz:v=k=>e z.symm)
   simp[hb,e]
def Cv(l:List Str)(v:Str):(qF l v).length=if l.any (·==v) then l.length else l.length+1:=by unfold qF;split<;>simp
theorem Qt(val:Nat->Str):∀i,(Kh val i).length<=i
 |0=>aA _
 |i+1=>by
  rw[Ga,Cv];have:=Qt val i;split<;>omega
section
variable{prog:aS}{w:bL}{A:dD}{R:Z7->ao->Prop}{I:af}{fp wr:List af}{G:Array Xw->Array Xw->Prop}{n:Nat}{P:Nat->ag->Prop}{St:Nat->ao->Prop}
def Md(W:WalksS prog w A.in1 I fp wr G n P St)(D:af)(nD:D∉fp)(val:Nat->Str)(hv:∀i v,P i v->∃t,v=.str (val i) t)(hb:n+1<scanBound):
 ∀(k i:Nat)(s:ao),n - i=k->i<=n->St i s->s.heap.SetOf (strKind prog w) D (λz=>(Kh val i).any (·==z)) (Kh val i).length->
  (∀s',Moved (D::wr) G s s'->s'.heap.SetOf (strKind prog w) D (λz=>(Kh val n).any (·==z)) (Kh val n).length->R (.ok (.ret .none)) s')->
  vR (model prog w) A (.builtin "set.update.loop" ⟨[.ref D,.ref I],[]⟩) R s:=by
 have nW:D∉wr:=λz=>nD (W.sub _ z);have sb:∀b∈wr,b∈D::wr:=λb z=>au _ z;intro k;induction k with
 |zero=>
  intro i s hk hi kE hS hR;obtain rfl:i=n:=by omega
  show codeAny_builtin sx ?_;rw[nY j5 _];change wpAny _ A.in1 (pyNext (.ref I) >>= _) _ _ s;show wpAny_bind (W.done s _ _ kE λs' mv=>?_);change wpAny _ A.in1 (ret ql) _ _ s';rintro o es ep t ho rest:xf hS;show wpAny_pure (hR s' (mv.mono sb) #[iy,o,es,ep,t,⟨mv.heap D _ nW ho,rest⟩])
 |succ k ih=>
  intro i s hk hi kE hS hR;have lt:i<n:=by omega
  show codeAny_builtin sx ?_;rw[nY j5 _];change wpAny _ A.in1 (pyNext (.ref I) >>= _) _ _ s;show wpAny_bind (W.item i s _ _ lt kE λv s' hP auv mv=>?_);rintro t rfl:bW<|hv i v hP;have hS':s'.heap.SetOf (strKind prog w) D (λz=>(Kh val i).any (·==z)) (Kh val i).length:=by rintro o es ep tb ho rest:xf hS;show #[iy,o,es,ep,tb,⟨mv.heap D _ nW ho,rest⟩]
  change wpAny _ A.in1 (holding [yr (val i) t] (setAdd D (.str (val i) t)) >>= _) _ _ s';show wpAny_bind (wpAny_holding ?_);unfold setAdd;show wpAny_holding ?_;show wpAny_bind ((strKind prog w).pyHash (k:=val i) (strKind_is _ _ _ _) ?_);have room:(Kh val i).length+1<scanBound:=by have:=Qt val i;omega
  show wpAny_setAddHashed_of (knd:=strKind prog w) (s:={ s' with toks:=s'.toks+1 }) (strKind_is _ _ _ _) rfl hS' room λh' sm hS2=>?_;have hSi:h'.SetOf (strKind prog w) D (λz=>(Kh val (i+1)).any (·==z)) (Kh val (i+1)).length:=SetOf_congr hS2 (λz=>by rw[Ga,TY]) (by rw[Ga,Cv]);show wpAny_pure ⟨Eb j5 _,ih (i+1) _ (by omega) lt (W.frame _ s' _ _ auv (yB _) λb hb o e=>?_) hSi λs2 mv2 hS3=>?_⟩;.rw[sm.2 b (λz:b=D=>nD (by rw[<-z];show hb))];show e
  .show hR s2 (Moved.trans W.gtrans ((mv.mono sb).then_heap (yB _) λb o hb e=>?_) mv2) hS3;rw[sm.2 b (λz:b=D=>hb (by rw[z];show aJ))];show e
end
def MQ:isSubtype (.type "str") (.type "set")=pure false:=by rw[aor];kernel_rfl
def AD:isSubtype (.type "str") (.type "frozenset")=pure false:=by rw[aor];kernel_rfl
section
variable{prog:aS}{w:bL}{A:dD}{E:ag->ao->Prop}{s:ao}
abbrev N1(led:Bool):iG:={ cls:=.type "set",dict:=none,data:=.set #[] 0 (.fresh 0 0 led) }
set_option maxHeartbeats 3200000 in
def HW{x:Str}{t:X7}{Q:ag->ao->Prop}(hh:A.handled=none)(hb:x.cps.size+1<scanBound)
 (h:∀(h':cE)(tk:Nat),h'.SetOf (strKind prog w) s.heap.objs.size (λz=>(Kh (λi=>⟨#[x.cps.getD i 0]⟩) x.cps.size).any (·==z)) (Kh (λi=>⟨#[x.cps.getD i 0]⟩) x.cps.size).length->
  (∀b o,b<s.heap.objs.size->s.heap.get? b=some o->h'.get? b=some o)->Q (.ref s.heap.objs.size) { s with heap:=h',toks:=tk }):
 wpAny (model prog w) A (call (.type "set") [.str x t]) Q E s:=by
 rintro c tl hmro:UT gm.mro;have azt:=gm.made;have hsub:=gm.sub;show wpAny_call (codeAny_of_tree ?_);change wpAny _ _ (callAny (.type "set") _) _ _ _;show wpAny_pure ⟨Code.quiet_builtin _ (by decide +kernel),codeAny_builtin PySem.F.entry_type_call ?_⟩;rw[Around.under_plain (weight_type_call_type "set" [.str x t] []) rfl];have h1:=gm.notType;have h2:=gm.canCreate;have hct:=PySem.F.typeCall_set_1 (.str x t);repeat (any_goals (first|assumption|wp_step))
 show ow (code_set_new_1 (.str x t) (E:=E) (Q₁:=λobj s₁=>∃led:Bool,obj=.ref s.heap.objs.size/\s₁={ s with heap:=s.heap.push (N1 led) }) λled=>#[ia,led,rfl,rfl]) λr s₁ hr=>?_;cases r with
 |error e=>show hr
 |ok fl=>
  cases fl with
  |ret obj=>
   rintro led rfl rfl:bM hr;have hS:(s.heap.push (N1 led)).get? s.heap.objs.size=some (N1 led):=bq _ rfl;have hT:Shared.TypeIs { s with heap:=s.heap.push (N1 led) } (.ref s.heap.objs.size) "set":=#[ia,_,hS,rfl];have hli:=gm.init.lookup;have hbi:=gm.init.bind (.ref s.heap.objs.size);repeat (any_goals (first|assumption|wp_step))
   show ow (codeAny_call_builtin (R:=wants (λr s₂=>r=.none/\∃h' tk,s₂={ s with heap:=h',toks:=tk }/\
    h'.SetOf (strKind prog w) s.heap.objs.size (λz=>(Kh (λi=>⟨#[x.cps.getD i 0]⟩) x.cps.size).any (·==z)) (Kh (λi=>⟨#[x.cps.getD i 0]⟩) x.cps.size).length/\
    (∀b o,b<s.heap.objs.size->s.heap.get? b=some o->h'.get? b=some o)) E) gm.init.plain PySem.F.entry_set_init (check_set_init_1 hT ?_)) λr₂ s₂ hr₂=>?_
   .have hsls:=MQ;have hslf:=AD;have nS:(kP "str"==kP "dict")=false:=by decide
    unfold Builtin.«set.__init__» noKeywords Xv;generalize hPI:pyIter=PI
    wp_walk
    subst hPI;show wpAny_pyIter_str λoi St hW st=>?_;show wpAny_bind (wpAny_runValue ?_);have hh3:A.in1.in1.in1.handled=none:=by simp[hh]
    have nf:s.heap.objs.size∉[(s.heap.push (N1 led)).objs.size]:=by rw[d7];simp only[aD,cR,or_false];show bw (vq _)
    show Md ((hW _ hh3).toS) s.heap.objs.size nf (λi=>⟨#[x.cps.getD i 0]⟩) (λi v hv=>?_) hb (x.cps.size - 0) 0 _ (by omega) (bV _) st ?_ ?_;.rintro c u e1 e2:rE hv;show⟨u,by rw[e2,Array.getD_eq_getD_getElem?,e1];rfl⟩
    .have ate:((s.heap.push (N1 led)).push oi).get? s.heap.objs.size=some (N1 led):=aC _ hS;show SetOf_congr ((aiv (knd:=strKind prog w) led).setOf ate (by unfold scanBound;omega)) (λ_=>rfl) rfl
    .intro s' mv hS';obtain⟨h',g',d',tk',os'⟩:=s';have eg:g'=s.gens:=mv.gens;have ed:d'=s.drawn:=mv.drawn;have eo:os'=s.os:=mv.os;subst eg;subst ed;subst eo;change wpAny _ _ _ _ _ _;show wpAny_pure ?_;change wpAny _ _ (ret ql) _ _ _;show wpAny_pure #[iz,rfl,h',tk',rfl,⟨hS',λb o hb e=>?_⟩];have NG:b≠s.heap.objs.size:=bw hb;have UJ:b≠(s.heap.push (N1 led)).objs.size:=by rw[d7];show bw (nc hb)
     show mv.heap b o (by simp only[aD,cR,or_false,not_or];show⟨NG,UJ⟩) (aC _ (aC _ e))
   .cases r₂ with
    |error e=>show hr₂
    |ok fl₂=>
     cases fl₂ with
     |ret r=>
      rintro rfl h' tk rfl hS' hk':N3 4 fo hr₂;repeat (any_goals (first|assumption|wp_step))
      show h _ _ hS' hk'
     |_=>show hr₂.elim
  |_=>show hr.elim
end
def Wn(z:Str):Nat:=(Kh (λi=>⟨#[z.cps.getD i 0]⟩) z.cps.size).length
def ajp(P:aS)(w:bL)(o:iG)(n:Nat):Prop:=∃S,o.SetObjOf (strKind P w) S n
def S8{X:Cx}(hc:X.calm=true):me X (.type "set") (λxs H Q=>∃z,xs=[.str z]/\z.length+1<4096/\∀p o,H p=none->ajp X.prog X.w o (Wn z)->Q (.ref p) (upd H p (.oO o (.own 0)))):=by
 intro pins s σ H xs us Q I r h;rintro z rfl hz q:gF h;rintro u rfl t rfl:bM 2 bW<|vals1 r
 show HW (I.ok.hd hc) hz λh' tk hS hk=>?_;rintro o ho hso:bM hS.objOf;have kp:∀b u,s.heap.get? b=some u->h'.get? b=some u:=λb u e=>hk b u (bf e) e;show #[ib,.ref s.heap.objs.size,_,I.laid (t':=tk) kp (aA _) (LI ho),rfl,q _ _ (I.eU.fresh (aA _)) ⟨_,hso⟩]
def HU{X:Cx}:me X (.builtin "len") (λxs H Q=>∃p o n,xs=[.ref p]/\H p=some (.oO o (.own 0))/\ajp X.prog X.w o n/\n<4096/\Q (.int n) H):=by
 intro pins s σ H xs us Q I r h;rintro p o n rfl hp ⟨S,hso⟩ hn q:rD 5 lB h;rintro u rfl rx:bM<|vals1 r
 cases rx;have ho:s.heap.get? p=some o:=(show iY X.prog X.w H s.heap p (.oO o (.own 0)) from I.eU p _ hp).1;rintro hex es ep t hd _ _ he hf:fo 1 rD 5 lB hso;subst he;show call_len_set ho hex hd hf (by omega) #[ib,.int _,H,I.tok _,⟨_,rfl⟩,q]
theorem Sd:∀(l acc:List Str),(l.foldl qF acc).length<=acc.length+l.length
 |[],acc=>aA _
 |v::l,acc=>by
  have:=Sd l (qF acc v);rw[Cv] at this;rw[iD,aP];split at this<;>omega
theorem NU:∀(l acc:List Str),(l.foldl qF acc).length=acc.length+l.length↔(l.Nodup/\∀x∈l,x∉acc)
 |[],acc=>by simp
 |v::l,acc=>by
  rw[iD,aP];by_cases h:v∈acc
  .have e:qF acc v=acc:=by unfold qF;rw[if_pos (by simpa using h)]
   rw[e];have:=Sd l acc;constructor;.intro z;omega
   .rintro cG;rintro _ z:fo cG;show absurd h (z v (aJ ..))
  .have e:qF acc v=acc++[v]:=by unfold qF;rw[if_neg (by simpa using h)]
   rw[e];have ih:=NU l (acc++[v]);rw[ap,ci] at ih;rw[show acc.length+(l.length+1)=acc.length+1+l.length by omega,ih,bJ];constructor
   .rintro cG;rintro h1 h2:fo cG;show⟨⟨λz=>h2 v z (by simp),h1⟩,λx hx=>?_⟩;rcases aD.mp hx with rfl|hx;.show h
    .show λz=>h2 x hx (fO _ z)
   .rintro cG;rintro⟨h1,h2⟩ h3:fo cG;show⟨h2,λx hx z=>?_⟩;rcases br.mp z with z|z;.show h3 x (au _ hx) z
    .rw[aX] at z;subst z;show h1 hx
def Za(w:List Nat):(ay w.length).map (λi=>(⟨#[w.toArray.getD i 0]⟩:Str))=w.map λc=>⟨#[c]⟩:=by
 apply List.ext_getElem;.simp
 .intro i h1 h2;have hi:i<w.length:=by simpa using h2
  simp[hi]
theorem Bb:∀w:List Nat,n6 w=true↔w.Nodup
 |[]=>by simp[n6]
 |a::w=>by
  unfold n6;rw[ak,Bb w,bJ];simp
theorem Cy{α β:Type}{f:α->β}(hf:∀a b,f a=f b->a=b):∀l:List α,(l.map f).Nodup↔l.Nodup
 |[]=>by simp
 |a::l=>by
  rw[bD,bJ,bJ,Cy hf l];show and_congr_left λ_=>not_congr ⟨λh=>?_,λh=>aY.mpr #[ia,a,h,rfl]⟩;rintro b hb e:bM<|List.mem_map.mp h;rw[<-hf b a e];show hb
def Se(w:List Nat):Wn (dq w)=w.length↔n6 w=true:=by
 unfold Wn Kh;have e:(dq w).cps.size=w.length:=by simp[dq]
 rw[e];change (ST qF [] ((ay w.length).map λi=>(⟨#[w.toArray.getD i 0]⟩:Str))).length=w.length↔_;rw[Za];have:=NU (w.map λc=>(⟨#[c]⟩:Str)) [];rw[ab,dg,lz] at this;rw[this,Bb,Cy (λa b h=>by simpa using h)];simp
def Y_(w:List Nat):Wn (dq w)<=w.length:=by unfold Wn;have:=Qt (λi=>⟨#[(dq w).cps.getD i 0]⟩) (dq w).cps.size;simpa [dq] using this
def Iu{l:List Nat}:∀{m:List Nat},l.Nodup->(∀x∈l,x∈m)->l.length<=m.length:=by
 induction l with
 |nil=>intro m _ _;show bV _
 |cons a l ih=>
  intro m hn hs;rintro h1 h2:fo<|List.nodup_cons.mp hn
  have ha:=hs a (aJ ..);have:=ih (m:=m.erase a) h2 λx hx=>(List.mem_erase_of_ne (a:=x) (b:=a) (λz=>h1 (by rw[<-z];show hx))).mpr (hs x (au _ hx));rw[List.length_erase_of_mem ha] at this;have hp:=List.length_pos_of_mem ha;rw[aP];omega
def Ni{w:List Nat}(h1:w.all (λc=>decide (48<=c)&&decide (c<=54))=true)(h2:w.Nodup){ns:List Int}(hp:ns.Perm (w.map λc=>((c - 48:Nat):Int)))(hs:ns.Pairwise (·<=·)):
 ns=(iZ ((ay 7).map λd=>w.contains (48+d))).map λn:Nat=>(n:Int):=by
 have hw:∀c∈w,48<=c/\c<=54:=λc hc=>by have:=bB.mp h1 c hc;simpa using this
 have hin:∀d,d∈iZ ((ay 7).map λd=>w.contains (48+d))↔d<7/\48+d∈w:=by intro d;unfold iZ;rw[eO,gV];show and_congr_right λhd=>?_;rw[qo,aF,f9 hd];simp
 have R6:(iZ ((ay 7).map λd=>w.contains (48+d))).Nodup:=Eu _ List.nodup_range;have hsd:(iZ ((ay 7).map λd=>w.contains (48+d))).Pairwise (·<·):=Eu _ List.pairwise_lt_range;have at4:(w.map λc=>((c - 48:Nat):Int)).Nodup:=by rw[Hy,Ux];rw[Hy] at h2;show ag4 (λ{a b}ha hb nS e=>nS ?_) h2;have:=hw a ha;have:=hw b hb;omega
 have at5:((iZ ((ay 7).map λd=>w.contains (48+d))).map λn:Nat=>(n:Int)).Nodup:=(Cy (λa b h=>by omega) _).mpr R6;have perm:ns.Perm ((iZ ((ay 7).map λd=>w.contains (48+d))).map λn:Nat=>(n:Int)):=by
  show hp.trans ((List.perm_ext_iff_of_nodup at4 at5).mpr λx=>?_);rw[aY,aY];constructor;.rintro cG;rintro c hc rfl:bM cG;have:=hw c hc;show #[ia,c - 48,(hin _).mpr ⟨by omega,by rw[show 48+(c - 48)=c by omega];show hc⟩,rfl]
  .rintro cG;rintro d hd rfl:bM cG;rintro _ h:fo<|(hin d).mp hd;show #[ia,48+d,h,by omega]
 show axt (le:=λa b:Int=>a<=b) (λa b _ _ h1 h2=>by omega) hs ?_ perm;rw[Ux];show hsd.imp λh=>by omega
end TT
section
local macro_rules|`(tactic| walk_at "rd1")=>`(tactic| first|with_reducible refine QW ?_|with_reducible refine GC ?_|with_reducible refine QX ?_|with_reducible refine GE ?_)
namespace TT
section
variable{P:aS}{w:bL}{K:ad}{mg:Str->Option ag}{base:cE}{A:dW}{f:af}{fd:b_}
abbrev xD:cK:=top 66
def Mc:aU ["word","most"] ["word","most"] (aG xD):=jy
def pq:Sp:=λvs H Q _=>∃(z:List Nat)(m:Nat),vs=[.str (dq z),iv m]/\KM z/\m<=640/\Q (tq (je m z)) H
def LL(F:i9 K "number_of" "number_of" xD f fd)(T:eX K mg A):cQ P w K mg base gW 1 f fd ["word","most"] pq:=by
 exists F,Mc;rintro z m rfl hz hm k:lA h;show #[ia,_,(ae (kW (PW.pt (kf (kq yR (i3 uh rfl T.fb jD (eM (pv 0))) (pv 1)) (jh (lX (fF (abf Hn Ho Gb (pv 0))))))) ju) (kY (fK oY rfl T.M0 Xu (eM (pv 0))))),?_];try dsimp only[dj]
 exists #[ie,_,rfl,p7 hz,?_];left;rw[eC];show cY (λh1=>?_) (λh1=>?_)<;>left;.rw[show je m z=none by unfold je;rw[if_neg];simp;omega] at k;show k
 .show #[ie,_,rfl,rfl,⟨trivial,?_⟩];left;rw[DB hz.1];show oj (λh2=>?_) (λh2=>?_)<;>left
  .rw[show je m z=none by
    unfold je;rw[if_neg];intro q;simp only[ak] at q;rw[q.1,q.2.2] at h2;cases h2] at k
   show k
  .simp only[ak] at h2;have nS:z≠[]:=by intro e;rw[e] at h2;simp at h2
   show #[ib,_,_,rfl,EK h2.2 nS (by omega),⟨by rw[eC];omega,?_⟩];rw[show je m z=some (eK z) by unfold je;rw[if_pos (by simp only[ak,decide_eq_true_eq];show #[ic,h2.1,by omega,h2.2])]] at k;show k
abbrev vd:cK:=top 67
def y1:aU ["word","hours","minutes"] ["word"] (aG vd):=jy
def rW:Sp:=λvs H Q _=>∃z:List Nat,vs=[.str (dq z)]/\KM z/\Q (tq (bP z)) H
def IM(F:i9 K "minutes_of" "minutes_of" vd f fd)(T:eX K mg A):cQ P w K mg base gW 1 f fd ["word"] rW:=by
 exists F,y1;rintro z rfl hz k:gF h;have nd:=y1.nd;show #[ia,_,(ae (kW (PW.pt (kf (kq oa (i3 uh rfl T.fb jD (eM (pv 0))) aw) (jh (lX (fF (abf Hn Ho Gb (pv 0))))))) ju) (ae (sv 1 nd (fK oY rfl T.M0 Xu (eM (pX Mh (pv 0) Bf (o6 aw))))) (ae (sv 2 nd (fK oY rfl T.M0 Xu (eM (pX Mh (pv 0) (o6 aw) Bf)))) (ae (kW (PW.pt (kf (kq yR (pv 1) aw) (jh (kq yR (pv 2) aw)))) ju) (kY (fB iI (fB QK (pv 1) aw) (pv 2))))))),?_];try dsimp only[dj]
 exists #[ie,_,rfl,p7 hz,?_];left;rw[eC];have no:(z.length==4&&z.all di)=false->Q .non H:=λe=>by
  have:bP z=none:=by unfold bP;rw[if_neg (by rw[e];decide)]
  rw[this] at k;show k
 show j7 (λh1=>?_) (λh1=>?_)<;>left;.show no (by rw[show (z.length==4)=false by simpa using λe=>h1 (by omega)];rfl)
 .have h4:z.length=4:=by omega
  show #[ie,_,rfl,rfl,⟨trivial,?_⟩];left;rw[DB hz.1];have nS:z.isEmpty=false:=by cases z with
   |nil=>simp at h4
   |cons=>rfl
  rw[nS];show oj (λh2=>?_) (λh2=>?_)<;>left
  .show no (by
    have:z.all di=false:=by simpa using h2
    rw[this];simp)
  .have BQ:z.all di=true:=by simpa using h2
   have a1:(z.take 2).all di=true:=bB.mpr λc hc=>bB.mp BQ c (yq hc);have a2:(z.drop 2).all di=true:=bB.mpr λc hc=>bB.mp BQ c (yp hc);have l1:(z.take 2).length=2:=by rw[aM];omega
   have l2:(z.drop 2).length=2:=by rw[iW];omega
   show SB (p7 hz) ?_;rw[show Ef (dq z) none (some 2)=dq (z.take 2) from S_ z 2];exists #[ib,_,_,rfl,EK a1 (by intro e;rw[e] at l1;cases l1) (by omega),⟨by rw[eC];omega,?_⟩];exists SB (p7 hz) ?_;rw[show Ef (dq z) (some 2) none=dq (z.drop 2) from Ce z 2];exists #[ib,_,_,rfl,EK a2 (by intro e;rw[e] at l2;cases l2) (by omega),⟨by rw[eC];omega,?_⟩];left;have ht:bP z=if eK (z.take 2)<=47/\eK (z.drop 2)<=59 then some (60*eK (z.take 2)+eK (z.drop 2)) else none:=by unfold bP;rw[if_pos (by rw[BQ,h4];rfl)]
   rw[ht] at k;show cY (λh3=>?_) (λh3=>?_)<;>left;.rw[if_neg (by omega)] at k;show k
   .show cY (λh4=>?_) (λh4=>?_)<;>left;.rw[if_neg (by omega)] at k;show k
    .rw[if_pos (by omega)] at k;show QS (.inr ⟨by decide,by decide⟩) ?_;left;rw[j1 (show ((eK (z.take 2):Nat):Int)*60+(eK (z.drop 2):Nat)=((60*eK (z.take 2)+eK (z.drop 2):Nat):Int) by omega)];show k
end
end TT
end
section
local macro_rules|`(tactic| walk_at "rd1")=>`(tactic| first|with_reducible refine QW ?_|with_reducible refine GC ?_|with_reducible refine QX ?_|with_reducible refine GE ?_)
namespace TT
section
variable{P:aS}{w:bL}{K:ad}{mg:Str->Option ag}{base:cE}{A:dW}{f:af}{fd:b_}
abbrev rS:cK:=top 60
def xS:aU ["digits","digit"] ["digits"] (aG rS):=jy
def xY:Sp:=λvs H Q _=>∃z:List Nat,vs=[.str (dq z)]/\KM z/\(j6 z=none->∀H',aq H H'->Q .non H')/\∀ds p H',j6 z=some ds->H p=none->H' p=some (.lst (ly (iZ ds)))->aq H H'->Q (.ref p) H'
def Go(F:i9 K "weekdays_of" "weekdays_of" rS f fd)(T:eX K mg A):cQ P w K mg base gW 1 f fd ["digits"] xY:=by
 exists F,xS;rintro z rfl hz kn ks:gF 3 fo h;have nd:=xS.nd;show #[ia,_,(ae (kW (PW.pt (kf (kq lI (pv 0) hU) (jh (kq oa (i3 HU rfl T.fb jD (eM (fK (S8 rfl) rfl T.aah boot_set (eM (pv 0))))) (i3 uh rfl T.fb jD (eM (pv 0))))))) ju) (ae (kW (fF (i3 (RE (K:=K) rfl) rfl T.Vf boot_any (eM (og rfl nd (LX (pv 0)) (fe (own:=[("digit",1)]) (by kernel_rfl)) (λ_ _ _ _ _=>(gv 1 nd)) (λ_ _ _ _ _=>jz) (λ_ _ _ _ _=>(cmE IU (pv 1) hU)))))) ju) (kY (i3 S' rfl T.Fh boot_sorted (eM (og rfl nd (LX (pv 0)) (fe (own:=[("digit",1)]) (by kernel_rfl)) (λ_ _ _ _ _=>(gv 1 nd)) (λ_ _ _ _ _=>jz) (λ_ _ _ _ _=>(fK oY rfl T.M0 Xu (eM (pv 1)))))))))),?_];try dsimp only[dj]
 left;have no:(!z.isEmpty&&(z.all (λc=>decide (48<=c)&&decide (c<=54))&&n6 z))=false->∀H',aq H H'->Q .non H':=λe=>kn (by unfold j6;rw[if_neg (by rw[e];decide)]);show cY (λh1=>?_) (λh1=>?_)<;>left;.show no ?_ H (aq.refl _);have:z=[]:=o8 (h1.trans (jW "").symm.symm);rw[this];rfl
 .have nS:z≠[]:=λe=>h1 (by rw[e];decide +kernel);have hze:z.isEmpty=false:=by cases z with
   |nil=>show absurd rfl nS
   |cons=>rfl
  show #[ie,_,rfl,by rw[eC];have:=hz.2;omega,λp o hp hso=>?_];exists #[ii,p,o,_,rfl,aT,#[ic,hso,by have:=Y_ z;have:=hz.2;omega,?_]];have s1:aq H (upd H p (.oO o (.own 0))):=cq hp;generalize upd H p (.oO o (.own 0))=H1 at s1 ⊢;exists #[ie,_,rfl,p7 hz,?_];left;rw[eC];show j7 (λh2=>?_) (λh2=>?_)<;>left
  .show no ?_ H1 s1;have:n6 z=false:=by
    rw[ki];intro e;show h2 (by rw[(Se z).mpr e])
   rw[this];simp
  .have V3:n6 z=true:=(Se z).mp (by omega);have UR:(dq z).cps.toList=z:=lO z;have h67:∀c:Nat,decide (c∈(bo "0123456").cps.toList)=(decide (48<=c)&&decide (c<=54)):=by
    intro c;rw[jW,lO,show bO "0123456"=[48,49,50,51,52,53,54] by decide +kernel,cV];simp only[aD,cR,or_false,decide_eq_true_eq,ak];omega
   show Sy (λd i H'=>aq H1 H'/\H' d=some (.lst (((z.take i).map λc=>!(decide (48<=c)&&decide (c<=54))).map V.bl))) (λd H' a1 a2 a3=>⟨a3,a2⟩) ?_ ?_;.rintro d i c H' hd hc cG;rintro e1 e2:fo cG;rw[UR] at hc;exists #[ib,c,_,rfl,rfl,?_];rw[h67];show jv e2 (by rw[ab,ab,aM];have:=hz.2;unfold sizeLine;omega) λH2 a1 a2=>⟨aB e1 a2 hd,?_⟩;rw[a1,bR hc,aj,aj];rfl
   .rintro d H' hd cG;rintro e1 e2:fo cG;rw[UR,aK] at e2;exists #[ib,d,_,rfl,cf.of e2,?_];left;have VQ:((z.map λc=>!(decide (48<=c)&&decide (c<=54))).any _root_.id)=!z.all λc=>decide (48<=c)&&decide (c<=54):=by
     rw[jZ];change (z.any λc=>!(decide (48<=c)&&decide (c<=54)))=_;rw[List.not_all_eq_any_not]
    rw[VQ];have s2:=s1.trans e1;show oj (λh3=>?_) (λh3=>?_)<;>left;.show no (by rw[h3];simp) H' s2
    .have hsz:z.length<=7:=Iu (m:=[48,49,50,51,52,53,54]) ((Bb z).mp V3) λc hc=>by
      have:=bB.mp h3 c hc;simp only[ak,decide_eq_true_eq] at this;simp only[aD,cR,or_false];omega
     show Sy (λd i H2=>aq H' H2/\H2 d=some (.lst (((z.take i).map λc=>((c - 48:Nat):Int)).map V.int))) (λd H' a1 a2 a3=>⟨a3,a2⟩) ?_ ?_;.rintro d2 i c H2 hd2 hc cG;rintro f1 f2:fo cG;rw[UR] at hc;have hcw:=bB.mp h3 c (aZ hc);simp only[ak,decide_eq_true_eq] at hcw;exists #[ib,dq [c],_,rfl,EK (w:=[c]) (by unfold di;simp;omega) (by simp) (by change 1<=640;decide),⟨by rw[eC];change 1<=640;decide,?_⟩];rw[show eK [c]=c - 48 by change 10*0+(c - 48)=c - 48;omega];show jv f2 (by rw[ab,ab,aM];unfold sizeLine;omega) λH3 a1 a2=>⟨aB f1 a2 hd2,?_⟩;rw[a1,bR hc,aj,aj];rfl
     .rintro d2 H2 hd2 cG;rintro f1 f2:fo cG;rw[UR,aK] at f2;exists #[ib,d2,_,rfl,cf.of f2,⟨by rw[ab];omega,λns p2 n_ A8 jH=>?_⟩];have hns:=Ni h3 ((Bb z).mp V3) n_ A8;have sA:aq H H2:=s2.trans f1;show ks ((ay 7).map λd=>z.contains (48+d)) p2 _ ?_ (sA.free jH) ?_ (sA.trans (cq jH));.unfold j6;rw[if_pos (by rw[hze,h3,V3];rfl)]
      .rw[aT,hns,dJ];rfl
abbrev CL:cK:=top 61
def GV:aU ["word","days","part"] ["word"] (aG CL):=jy
def G3:Sp:=λvs H Q _=>∃z:List Nat,vs=[.str (dq z)]/\KM z/\(iR z=none->∀H',aq H H'->Q .non H')/\∀x y p H',iR z=some (x,y)->H p=none->H' p=some (.lst [iv x,iv y])->aq H H'->Q (.ref p) H'
def Qz(F:i9 K "days_of" "days_of" CL f fd)(T:eX K mg A)(gf:fP P w K mg base 1 "number_of" ["word","most"] pq):cQ P w K mg base gW 2 f fd ["word"] G3:=by
 exists F,GV;rintro z rfl hz kn ks:gF 3 fo h;have nd:=GV.nd;show #[ia,_,(ae (Bg (i:=1) rfl nd rfl rfl (EY rfl rfl rfl rfl) (dM (Gu (pv 0) hU)) (fe (own:=[("part",2)]) (by kernel_rfl)) (λ_ _ _ _ _=>(gv 2 nd)) (λ_ _ _ _ _=>jz) (λ_ _ _ _ _=>(bC gf hr (mz (pv 2) aw)))) (ae (kW (PW.pt (kf (kq oa (xb T.fb (pv 1)) aw) (jh (kq tp ju (pv 1))))) ju) (ae (kW (PW.pt (kf (kq yR (xL (pv 1) aw) (xL (pv 1) aw)) (jh (kq yR (xL (pv 1) aw) (bG T.nE))))) ju) (kY (pv 1))))),?_];try dsimp only[dj]
 exists #[ik,_,_,rfl,rfl,rfl,by rw[eC];have:=hz.2;unfold sizeLine;omega,?_];rw[show bo "-"=⟨#[45]⟩ by decide +kernel,CY];intro pl yu;have FP:(upd H pl (.lst (((bx 45 z).map dq).map V.str))) pl=some (.lst (((bx 45 z).map dq).map V.str)):=aT;have s1:aq H (upd H pl (.lst (((bx 45 z).map dq).map V.str))):=cq yu;generalize upd H pl (.lst (((bx 45 z).map dq).map V.str))=H1 at FP s1 ⊢;have O9:=sP 45 z;have hz3:=hz.2;show Bj (xs:=((bx 45 z).map dq).map V.str) (λd i H'=>aq H1 H'/\H' d=some (.lst ((((bx 45 z).take i).map (je 2)).map tq))) (cf.of FP) (λd H' a1 a2 a3=>⟨a3,a2⟩) (λd i H' hd _ h=>cf.of (h.1 _ _ FP)) ?_ ?_;.rintro d i x H' hd hx cG;rintro e1 e2:fo cG;rw[aF,aF] at hx;rintro q hq rfl:bM<|Option.map_eq_some_iff.mp hx;rintro p hp rfl:bM<|Option.map_eq_some_iff.mp hq;exists #[ib,p,2,rfl,hz.cut (aZ hp),⟨by decide,?_⟩];show jv e2 (by rw[ab,ab,aM];unfold sizeLine;omega) λH2 a1 a2=>⟨aB e1 a2 hd,?_⟩;rw[a1,bR hp,aj,aj];rfl
 .rintro d H' hd cG;rintro e1 e2:fo cG;rw[ab,ab,aK] at e2;have s2:=s1.trans e1;exists h_ (cf.of e2) ?_;rw[ab,ab];exists j7 (λh1=>?_) (λh1=>?_)<;>left
  .show kn ?_ H' s2;unfold iR;rcases hc:bx 45 z with _|⟨a,_|⟨b,_|⟨c,r⟩⟩⟩<;>try rfl
   rw[hc] at h1;show absurd rfl h1
  .obtain⟨a,b,hc⟩:∃a b,bx 45 z=[a,b]:=by
    rcases hc:bx 45 z with _|⟨a,_|⟨b,_|⟨c,r⟩⟩⟩;.rw[hc] at h1;simp at h1
    .rw[hc] at h1;simp at h1
    .show #[ir,a,b,rfl]
    .rw[hc] at h1;simp at h1;omega
   have MD:iR z=(gM 2 gT a).bind λx=>(gM 2 gT b).bind λy=>if x<=y then some (x,y) else none:=by unfold iR;rw[hc]
   rw[x8,x8] at MD;rw[hc] at e2;show WP (.inl (cf.of e2)) rfl (bB.mpr λv hv=>by rintro o _ rfl:bM<|List.mem_map.mp hv;show T5 o) ?_;rw[afk];left;cases ha:je 2 a with
   |none=>rw[ha] at MD;rw[show ([a,b].map (je 2)).any yC=true by simp[ha]];exists kn MD H' s2
   |some x=>
    cases hb:je 2 b with
    |none=>rw[hb] at MD;rw[show ([a,b].map (je 2)).any yC=true by simp[hb]];exists kn ?_ H' s2;rw[MD,ha];change (if x<=gT then some x else none).bind _=none;split<;>rfl
    |some y=>
     rw[ha,hb] at MD;rw[show ([a,b].map (je 2)).any yC=false by simp[ha,hb]];have e3:H' d=some (.lst [iv x,iv y]):=by rw[e2];simp[ha,hb,tq]
     exists bY (cf.of e3) (aV (j:=0) rfl) ?_;exists bY (cf.of e3) (aV (j:=1) rfl) ?_;left;have aep:iR z=if x<=y/\y<=13 then some (x,y) else none:=by rw[MD];change ((if x<=13 then some x else none).bind λx=>((if y<=13 then some y else none).bind λy=>if x<=y then some (x,y) else none))=_;by_cases c1:y<=13<;>by_cases c2:x<=y<;>by_cases c3:x<=13<;>simp[c1,c2,c3]<;>omega
     show cY (λh2=>?_) (λh2=>?_)<;>left;.show kn (by rw[aep,if_neg (by omega)]) H' s2
     .show bY (cf.of e3) (aV (j:=1) rfl) ?_;exists cY (λh3=>?_) (λh3=>?_)<;>left;.show kn (by rw[aep,if_neg (by omega)]) H' s2
      .show ks x y d H' (by rw[aep,if_pos (by omega)]) (s1.free hd) e3 s2
end
end TT
end
namespace TT
def tGD(K:ad)(xs:List V):TE:=λ_ H Q=>∀a,(∀H',ox K H' a xs)->(∀H',tyV K "tuple" (.ref a) H')->Q (.ref a) H
def GD(K:ad)(mg:Str->Option ag)(x:Str)(xs:List V):Prop:=∃a,mg x=some (.ref a)/\(∀H,ox K H a xs)/\∃o,K.lookup a=some o/\o.cls=.type "tuple"/\o.dict=none
def Oj{X:Cx}{x:Str}{pos:km}{xs:List V}(h:GD X.K X.mg x xs)(hg:Gl X x:=by rfl)(hd:(x==("__debug__":Str))=false:=by decide):PE X (.Name x pos) (tGD X.K xs):=by rintro a h hs ho:gF h;show λpins s σ H Q I q=>Be (v:=.ref a) hg h rfl hd pins s σ H Q I (q a hs λH'=>.inr (.inl ⟨rfl,ho⟩))
def WO{K:ad}{xs:List V}{σ:L2.St}{H:Hp}{Q:VK}(h:∀a,(∀H',ox K H' a xs)->(∀H',tyV K "tuple" (.ref a) H')->Q (.ref a) H):tGD K xs σ H Q:=h
def r_g{K:ad}{xs:List V}{σ:L2.St}{H:Hp}{Q:VK}(h:∀a,(∀H',ox K H' a xs)->Q (.ref a) H):tG K xs σ H Q:=h
def KN(F:Hp)(wd:af)(ws:List (List Nat)):Prop:=F wd=some (.lst (ws.map λz=>V.str (dq z)))/\(∀z∈ws,KM z)/\ws.length<=3001
def KN.get{F H:Hp}{K:ad}{wd:af}{ws:List (List Nat)}{i:Nat}{z:List Nat}{Q:VK}(h:KN F wd ws)(s:aq F H)(e:ws[i]? = some z)(q:Q (.str (dq z)) H):L1 K (.ref wd) (.int (i:Nat)) H Q:=
 bY (cf.of (s _ _ h.1)) (aV (by rw[aF,e];rfl)) q
def KN.ok{F:Hp}{wd:af}{ws:List (List Nat)}{i:Nat}{z:List Nat}(h:KN F wd ws)(e:ws[i]? = some z):KM z:=h.2.1 z (aZ e)
def j_:List V:=[.str "A",.str "B",.str "C",.str "D",.str "E",.str "F"]
def qE{o:Nat}(h:o<6):j_[o]? = some (.str (dq [65+o])):=by
 have:∀o,o<6->j_[o]? = some (.str (dq [65+o])):=by decide +kernel
 show this o h
def Lu(c:Nat):cX [c]=if 65<=c/\c<71 then some (c - 65) else none:=rfl
def FY(w:List Nat):Pc (.str (dq w)) j_=(cX w).isSome:=by
 have e:∀a:Str,RS (.str a) (.str (dq w))=decide (a=dq w):=λa=>rfl;change (j_.any λy=>RS y (.str (dq w)))=_;have hl:j_=[65,66,67,68,69,70].map λc=>V.str (dq [c]):=by decide +kernel
 rw[hl,jZ];rw[cV,jE];constructor;.rintro cG;rintro c hc h:bM cG;have h':decide (dq [c]=dq w)=true:=h;rw[decide_eq_true_eq,GP] at h';subst h';simp only[aD,cR,or_false] at hc;rw[Lu,if_pos (by omega)];rfl
 .intro h;rcases w with _|⟨c,_|⟨d,r⟩⟩
  .cases h
  .rw[Lu] at h;by_cases hh:65<=c/\c<71;.show #[ia,c,by simp only[aD,cR,or_false];omega,by change decide (dq [c]=dq [c])=true;simp]
   .rw[if_neg hh] at h;cases h
  .cases h
def rF{w:List Nat}{o:Nat}(h:cX w=some o):w=[65+o]/\o<6:=by
 rcases w with _|⟨c,_|⟨d,r⟩⟩;.cases h
 .rw[Lu] at h;by_cases hh:65<=c/\c<71;.rw[if_pos hh] at h;cases h;show⟨by rw[show 65+(c - 65)=c by omega],by omega⟩
  .rw[if_neg hh] at h;cases h
 .cases h
def yQ{o:Nat}(h:o<6):∀m,m<o->∀v,j_[m]? = some v->RS v (.str (dq [65+o]))=false:=by
 have:∀o,o<6->∀m,m<o->(match j_[m]? with
  |some v=>RS v (.str (dq [65+o]))
  |none=>false)=false:=by decide +kernel
 intro m hm v hv;have:=this o h m hm;rw[hv] at this;show this
def xZ(st:List eE)(ws:List (List Nat)):Option eE:=match ws with
 |[w0,a,d]=>(cX w0).bind λo=>if 5<=st.length\/(st.any λs=>s.office==o)=true then none else match st.getLast? with
  |none=>if a=[45] then (bP d).map λg=>{ office:=o,arr:=g,dep:=g } else none
  |some p=>(bP a).bind λc=>if p.dep<c then (if d=[45] then some { office:=o,arr:=c,dep:=c } else (bP d).bind λg=>if c<=g then some { office:=o,arr:=c,dep:=g } else none) else none
 |_=>none
def tJ:bP [45]=none:=by decide
def Ra(st:List eE)(w0 a d:List Nat):xZ st [w0,a,d]=(cX w0).bind λo=>if 5<=st.length\/(st.any λs=>s.office==o)=true then none else match st.getLast? with
 |none=>if a=[45] then (bP d).map λg=>{ office:=o,arr:=g,dep:=g } else none
 |some p=>(bP a).bind λc=>if p.dep<c then (if d=[45] then some { office:=o,arr:=c,dep:=c } else (bP d).bind λg=>if c<=g then some { office:=o,arr:=c,dep:=g } else none) else none:=rfl
def W6(t:ax)(ws:List (List Nat)):(match BZ ws with
 |some s=>li (t,false) s.1 s.2.1 s.2.2
 |none=>none)=(xZ t.stops ws).map λe=>({ t with stops:=t.stops++[e] },decide (ws[2]? = some [45])):=by
 rcases ws with _|⟨w0,_|⟨a,_|⟨d,_|⟨z,r⟩⟩⟩⟩<;>try rfl
 rw[CZ,Ra];cases ho:cX w0 with
 |none=>rfl
 |some o=>
  simp only[Option.bind_some];unfold sQ;by_cases hc:5<=t.stops.length\/(t.stops.any λs=>s.office==o)=true
  .rw[if_pos hc];have hz:∀a d,li (t,false) o a d=none:=λa d=>by unfold li Ya;rw[if_pos (.inr hc)]
   split
   .rename_i s hs;have:s.1=o:=by
     cases h1:(if a=[45] then some none else (bP a).map some) with
     |none=>rw[h1] at hs;cases hs
     |some a'=>
      cases h2:(if d=[45] then some none else (bP d).map some) with
      |none=>rw[h1,h2] at hs;cases hs
      |some d'=>rw[h1,h2] at hs;cases hs;rfl
    rw[this,hz];rfl
   .rfl
  .rw[if_neg hc];have hw:∀a d,li (t,false) o a d=match t.stops.getLast?,a,d with
    |none,none,some d=>some ({ t with stops:=[{ office:=o,arr:=d,dep:=d }] },false)
    |some p,some a,some d=>if p.dep<a/\a<=d then some ({ t with stops:=t.stops++[{ office:=o,arr:=a,dep:=d }] },false) else none
    |some p,some a,none=>if p.dep<a then some ({ t with stops:=t.stops++[{ office:=o,arr:=a,dep:=a }] },true) else none
    |_,_,_=>none:=λa d=>by
    unfold li Ya;rw[if_neg (by rintro (h|h);(cases h);show hc h)];dsimp only;generalize t.stops.getLast? = g;rcases g with _|p<;>rcases a with _|a<;>rcases d with _|d<;>rfl
   cases hl:t.stops.getLast? with
   |none=>
    have Lf:t.stops=[]:=qP.mp hl;by_cases ha:a=[45]
    .subst ha;by_cases hd:d=[45];.subst hd;simp[hw,tJ,hl]
     .cases hd2:bP d with
      |none=>simp[hw,hd2,hd]
      |some g=>simp[hw,hd2,hd,hl,Lf]
    .cases XH:bP a with
     |none=>simp[hw,XH,ha]
     |some c=>
      by_cases hd:d=[45];.subst hd;simp[hw,ha,XH,hl]
      .cases hd2:bP d with
       |none=>simp[hw,hd2,hd,ha,XH]
       |some g=>simp[hw,hd2,hd,ha,XH,hl]
   |some p=>
    by_cases ha:a=[45]
    .subst ha;by_cases hd:d=[45];.subst hd;simp[hw,tJ,hl]
     .cases hd2:bP d with
      |none=>simp[hw,hd2,hd,tJ]
      |some g=>simp[hw,hd2,hd,hl,tJ]
    .cases XH:bP a with
     |none=>simp[hw,XH,ha]
     |some c=>
      by_cases hd:d=[45];.subst hd;by_cases hpc:p.dep<c<;>simp[hw,ha,XH,hl,hpc]
      .cases hd2:bP d with
       |none=>simp[hw,hd2,hd,ha,XH]
       |some g=>
        by_cases hpc:p.dep<c;.by_cases hcg:c<=g<;>simp[hw,hd2,hd,ha,XH,hl,hpc,hcg]
        .simp[hw,hd2,hd,ha,XH,hl,hpc]
end TT
section
local macro_rules|`(tactic| walk_at "rd1")=>`(tactic| first|with_reducible refine QW ?_|with_reducible refine GC ?_|with_reducible refine QX ?_|with_reducible refine GE ?_|with_reducible refine TT.r_g ?_|with_reducible refine WO ?_)
namespace TT
section
variable{P:aS}{w:bL}{K:ad}{mg:Str->Option ag}{base:cE}{A:dW}{f:af}{fd:b_}
abbrev xo:cK:=lK (top 4) 0
def L8:aU ["self","office","comes","goes"] ["self","office","comes","goes"] (aG xo):=jy
def ph(A:dW):Sp:=λvs H Q _=>∃(x dx:af)(e:eE),vs=[.ref x,iv e.office,iv e.arr,iv e.dep]/\H x=some (.ins A.stop dx [])/\∀H',H' x=some (.ins A.stop dx (Nu e))->eA H H' x->Q .non H'
def Lw(F:i9 K "__init__" "Stop.__init__" xo f fd)(T:eX K mg A):cQ P w K mg base gW 1 f fd ["self","office","comes","goes"] (ph A):=by exists F,L8;rintro x dx e rfl hx k:rD h;show #[ia,_,(ae (cF (pv 0) (pv 1) rfl) (ae (cF (pv 0) (pv 2) rfl) (bA (cF (pv 0) (pv 3) rfl)))),?_];dsimp only[dj];exists dL hx T.stop λH1 h1 k1=>?_;exists dL h1 T.stop λH2 h2 k2=>?_;exists dL h2 T.stop λH3 h3 k3=>?_;show k H3 h3 (cZ (cZ k1 k2) k3)
def Vb(A:dW)(H:Hp)(Q:VK)(o:Option eE):Prop:=(o=none->∀H',aq H H'->Q .non H')/\∀e p dx H',o=some e->H p=none->H' p=some (.ins A.stop dx (Nu e))->aq H H'->Q (.ref p) H'
def GF{H H0:Hp}{Q:VK}{o c g:Nat}(s:aq H0 H)(k:∀p dx H',H0 p=none->H' p=some (.ins A.stop dx (Nu { office:=o,arr:=c,dep:=g }))->aq H0 H'->Q (.ref p) H'):kMk A.stop (ph A) [] E0 Q [iv o,iv c,iv g] H:=by show pY λx dx H3 h1 h2 h3=>?_;show #[ii,x,dx,{ office:=o,arr:=c,dep:=g },rfl,h2,λH4 h4 k4=>⟨rfl,?_⟩];show k x dx H4 (s.free h1) h4 (aB (s.trans h3) k4 (s.free h1))
abbrev vc:cK:=top 64
def y0:aU ["office","words","goes"] ["office","words"] (aG vc):=jy
def FA(o:Nat)(a d:List Nat):Option eE:=if a=[45] then (bP d).map λg=>{ office:=o,arr:=g,dep:=g } else none
def ze(A:dW):Sp:=λvs H Q _=>∃(o:Nat)(wd:af)(F:Hp)(w0 a d:List Nat),vs=[iv o,.ref wd]/\aq F H/\KN F wd [w0,a,d]/\Vb A H Q (FA o a d)
def IL(F:i9 K "first_stop" "first_stop" vc f fd)(T:eX K mg A)(jP:fP P w K mg base 1 "minutes_of" ["word"] rW)(Kn:MY P w K mg base 1 "Stop" A.stop ["self","office","comes","goes"] (ph A)):cQ P w K mg base gW 3 f fd ["office","words"] (ze A):=by
 exists F,y0;rintro o wd F w0 a d rfl s0 hw kn ks:EN 6 EO h;have nd:=y0.nd;show #[ia,_,(ae (sv 2 nd (bC jP hr (eM (xL (pv 1) aw)))) (ae (kW (PW.pt (kf (kq oa (xL (pv 1) aw) hU) (jh (fq (jg (pv 2)))))) ju) (kY (tu Kn hr (qu (pv 0) (pv 2) (pv 2)))))),?_];dsimp only[dj];exists hw.get (i:=2) s0 rfl ?_;exists #[ie,d,rfl,hw.ok (i:=2) rfl,?_];exists hw.get (i:=1) s0 rfl ?_;left;have hd:bo "-"=dq [45]:=by decide +kernel
 show j7 (λh1=>?_) (λh1=>?_)<;>left;.show kn (by unfold FA;rw[if_neg (λz=>h1 (by rw[z,hd]))]) H (aq.refl _)
 .have ha:a=[45]:=o8 (h1.trans hd);cases ht:bP d with
  |none=>rw[show tq none=V.non from rfl];exists kn (by unfold FA;rw[if_pos ha,ht];rfl) H (aq.refl _)
  |some g=>rw[show tq (some g)=iv g from rfl];exists GF (aq.refl _) λp dx H' h1 h2 h3=>ks _ p dx H' (by unfold FA;rw[if_pos ha,ht];rfl) h1 h2 h3
abbrev p_:cK:=top 65
def vF:aU ["office","words","went","comes","goes"] ["office","words","went"] (aG p_):=jy
def DK(o w:Nat)(a d:List Nat):Option eE:=(bP a).bind λc=>if w<c then (if d=[45] then some { office:=o,arr:=c,dep:=c } else (bP d).bind λg=>if c<=g then some { office:=o,arr:=c,dep:=g } else none) else none
def vJ(A:dW):Sp:=λvs H Q _=>∃(o n:Nat)(wd:af)(F:Hp)(w0 a d:List Nat),vs=[iv o,.ref wd,iv n]/\aq F H/\KN F wd [w0,a,d]/\Vb A H Q (DK o n a d)
def En(F:i9 K "further_stop" "further_stop" p_ f fd)(T:eX K mg A)(jP:fP P w K mg base 1 "minutes_of" ["word"] rW)(Kn:MY P w K mg base 1 "Stop" A.stop ["self","office","comes","goes"] (ph A)):cQ P w K mg base gW 3 f fd ["office","words","went"] (vJ A):=by
 exists F,vF;rintro o n wd F w0 a d rfl s0 hw kn ks:EN 6 Ix h;have nd:=vF.nd;show #[ia,_,(ae (sv 3 nd (bC jP hr (eM (xL (pv 1) aw)))) (ae (kW (PW.pt (kf (fq (jg (pv 3))) (jh (kq jL (pv 3) (pv 2))))) ju) (ae (kW (kq lI (xL (pv 1) aw) hU) (tu Kn hr (qu (pv 0) (pv 3) (pv 3)))) (ae (sv 4 nd (bC jP hr (eM (xL (pv 1) aw)))) (ae (kW (PW.pt (kf (fq (jg (pv 4))) (jh (kq qH (pv 4) (pv 3))))) ju) (kY (tu Kn hr (qu (pv 0) (pv 3) (pv 4))))))))),?_];dsimp only[dj];exists hw.get (i:=1) s0 rfl ?_;exists #[ie,a,rfl,hw.ok (i:=1) rfl,?_];left;have hd:bo "-"=dq [45]:=by decide +kernel
 cases ha:bP a with
 |none=>rw[show tq none=V.non from rfl];exists kn (by unfold DK;rw[ha];rfl) H (aq.refl _)
 |some c=>
  rw[show tq (some c)=iv c from rfl];exists cY (λh1=>?_) (λh1=>?_)<;>left;.show kn (by unfold DK;rw[ha];change (if n<c then _ else none)=none;rw[if_neg (by omega)]) H (aq.refl _)
  .have hn:∀x,(if n<c then x else none)=(x:Option eE):=λx=>if_pos (by omega);show hw.get (i:=2) s0 rfl ?_;exists cY (λh2=>?_) (λh2=>?_)<;>left;.have hd2:d=[45]:=o8 (h2.trans hd);show GF (aq.refl _) λp dx H' h1 h2 h3=>ks _ p dx H' (by unfold DK;rw[ha];change (if n<c then _ else none)=_;rw[hn,if_pos hd2]) h1 h2 h3
   .have hd2:¬d=[45]:=λz=>h2 (by rw[z,hd]);show hw.get (i:=2) s0 rfl ?_;exists #[ie,d,rfl,hw.ok (i:=2) rfl,?_];left;cases hg:bP d with
    |none=>rw[show tq none=V.non from rfl];exists kn (by unfold DK;rw[ha];change (if n<c then _ else none)=_;rw[hn,if_neg hd2,hg];rfl) H (aq.refl _)
    |some g=>
     rw[show tq (some g)=iv g from rfl];exists cY (λh3=>?_) (λh3=>?_)<;>left;.show kn (by unfold DK;rw[ha];change (if n<c then _ else none)=_;rw[hn,if_neg hd2,hg];change (if c<=g then _ else none)=none;rw[if_neg (by omega)]) H (aq.refl _)
     .show GF (aq.refl _) λp dx H' h1 h2 h3=>ks _ p dx H' (by unfold DK;rw[ha];change (if n<c then _ else none)=_;rw[hn,if_neg hd2,hg];change (if c<=g then _ else none)=_;rw[if_pos (by omega)]) h1 h2 h3
abbrev CS:cK:=top 63
def GZ:aU ["before","words","office","stop"] ["before","words"] (aG CS):=jy
def G7(A:dW):Sp:=λvs H Q _=>∃(sl wd:af)(F:Hp)(ws:List (List Nat))(st:List eE)(as:List af)(o:Nat),vs=[.ref sl,.ref wd]/\aq F H/\H sl=some (.lst (as.map V.ref))/\cg (qV A F) as st/\st.length<=5/\KN F wd ws/\(∃w0 r,ws=w0::r/\cX w0=some o)/\Vb A H Q (xZ st ws)
def QF(F:i9 K "stop_of" "stop_of" CS f fd)(T:eX K mg A)(L:GD K mg "LETTERS" j_)(pL:fP P w K mg base 3 "further_stop" ["office","words","went"] (vJ A))(t8:fP P w K mg base 3 "first_stop" ["office","words"] (ze A)):cQ P w K mg base gW 4 f fd ["before","words"] (G7 A):=by
 exists F,GZ;rintro sl wd F ws st as o rfl s0 Cr UM h5 hw ⟨w0,r,rfl,ho⟩ kn ks:EN 6 Ix 5 EO h;have nd:=GZ.nd;have hlen:=UM.length;show #[ia,_,(ae (kW (PW.pt (kf (kq oa (xb T.fb (pv 1)) aw) (jh (kq lI (xb T.fb (pv 0)) (bG T.A4))))) ju) (ae (sv 2 nd (Sk Hl qw Hq JI (Oj L) (eM (xL (pv 1) aw)))) (ae (kW (kq tp (pv 2) (og rfl nd (dM (pv 0)) (fe (own:=[("stop",3)]) (by kernel_rfl)) (λ_ _ _ _ _=>(gv 3 nd)) (λ_ _ _ _ _=>jz) (λ_ _ _ _ _=>(jU (K:=K) (pv 3) rfl)))) ju) (ae (kW (kq lI (xb T.fb (pv 0)) aw) (bC t8 hr (mz (pv 2) (pv 1)))) (kY (bC pL hr (qu (pv 2) (pv 1) (vC (xL (pv 0) (Sn Mr aw)))))))))),?_];dsimp only[dj];exists h_ (cf.of (s0 _ _ hw.1)) ?_;rw[ab];exists j7 (λh1=>?_) (λh1=>?_)<;>left
 .show kn ?_ H (aq.refl _);rcases r with _|⟨a,_|⟨d,_|⟨z,r⟩⟩⟩<;>try rfl
  show absurd rfl h1
 .obtain⟨a,d,rfl⟩:∃a d,r=[a,d]:=by
   rcases r with _|⟨a,_|⟨d,_|⟨z,r⟩⟩⟩;.simp at h1
   .simp at h1
   .show #[ir,a,d,rfl]
   .simp at h1;omega
  show h_ (cf.of Cr) ?_;rw[ab,hlen];left;have hS:=Ra st w0 a d;rw[ho] at hS;have no:(5<=st.length\/(st.any λs=>s.office==o)=true)->xZ st [w0,a,d]=none:=λz=>by rw[hS];change (if _ then _ else _)=_;rw[if_pos z]
  show cY (λh2=>?_) (λh2=>?_)<;>left;.show kn (no (.inl (by omega))) H (aq.refl _)
  .rintro la Pb XR;show⟨XR _,?_⟩;exists hw.get (i:=0) s0 rfl ?_;left;rintro rfl XM:fo<|rF ho;show #[ig,la,j_,_,o,_,#[iu,rfl,rfl,Pb _,rfl,rfl,qE XM,#[ic,by change decide (dq _=dq _)=true;simp,λm v hm hv=>yQ XM m hm v hv,?_]]];exists Bj (xs:=as.map V.ref) (λz i H'=>aq H H'/\H' z=some (.lst (ly ((st.take i).map λs=>s.office)))) (cf.of Cr) (λz H' a1 a2 a3=>⟨a3,a2⟩) (λz i H' hz _ h=>cf.of (h.1 _ _ Cr)) ?_ ?_;.rintro z i x H' hz hx cG;rintro e1 e2:fo cG;rintro b hb rfl:bM<|o7 hx;rintro sp MD YD:bM<|fE UM hb;have s1:=s0.trans e1;exists jv e2 (by unfold ly;rw[ab,ab,aM];unfold sizeLine;omega) λH2 a1 a2=>⟨aB e1 a2 hz,?_⟩;rw[a1,bR MD];unfold ly;rw[aj,aj];rfl
   .rintro z H1 hz cG;rintro e1 e2:fo cG;rw[ab,hlen,aK] at e2;have s1:=s0.trans e1;show WP (.inl (cf.of e2)) rfl (FB _) ?_;left;have hin:Pc (V.int (o:Int)) (ly (st.map λs=>s.office))=st.any λs=>s.office==o:=by
     rw[EJ,jZ];congr 1;funext s;change ((s.office:Int)==(o:Int))=(s.office==o);rw[cV,beq_iff_eq,beq_iff_eq];omega
    rw[hin];show oh (λh3=>?_) (λh3=>?_)<;>left;.show kn (no (.inr h3)) H1 e1
    .have Tz:xZ st [[65+o],a,d]=match st.getLast? with
      |none=>FA o a d
      |some p=>DK o p.dep a d:=by
      rw[hS];change (if _ then _ else _)=_;rw[if_neg (by rintro (z|z);(omega);rw[h3] at z;cases z)];cases st.getLast?<;>rfl
     show h_ (cf.of (e1 _ _ Cr)) ?_;rw[ab,hlen];exists cY (λh4=>?_) (λh4=>?_)<;>left
     .have Lf:st=[]:=by cases st with
       |nil=>rfl
       |cons=>simp at h4;omega
      rw[Lf] at Tz kn ks;show #[iy,o,wd,F,_,#[ik,a,d,rfl,s1,hw,λz H2 e2=>kn (Tz.trans z) H2 (e1.trans e2),λe p dx H2 z h1 h2 h3=>ks e p dx H2 (Tz.trans z) (e1.free h1) h2 (e1.trans h3)]]
     .obtain⟨p,hp⟩:∃p,st.getLast? = some p:=by
       cases hq:st.getLast? with
       |none=>rw[qP] at hq;rw[hq] at h4;show absurd rfl h4
       |some p=>show⟨p,rfl⟩
      rw[hp] at Tz;have MB:=hp;rw[jj] at MB;rintro b hb YD:bM<|oe UM MB;show bY (cf.of (e1 _ _ Cr)) (KO (v:=.ref b) (by rw[jj,ab,hlen,aF,hb];rfl)) ?_;exists #[ig,o,p.dep,wd,F,_,#[ik,a,d,rfl,s1,hw,λz H2 e2=>kn (Tz.trans z) H2 (e1.trans e2),λe p dx H2 z h1 h2 h3=>ks e p dx H2 (Tz.trans z) (e1.free h1) h2 (e1.trans h3)]]
end
end TT
end
namespace TT
def Gd(K:ad)(H:Hp)(y:V):Prop:=y=.non\/(∃i,y=.int i)\/∃a xs,y=.ref a/\cf K H a xs
def NN:ag->Bool
 |.none=>true
 |_=>false
def awi(K:ad):R2:=λx y H Q=>∃p ys,x=.non/\y=.ref p/\cf K H p ys/\(∀v∈ys,Gd K H v)/\Q (.bl (ys.any λv=>decide (v=.non))) H
def QJ{X:Cx}(hu:X.A.units+64<ot):yI X (compareOp .In) (awi X.K):=by
 intro pins s σ H x y v u Q I rx ry h;rintro p ys rfl rfl hq eU q:lA 5 fo h;cases rx;cases ry;rintro its r pl hz:gF<|I.list hq
 have eqs:∀{ys:List V}{us:List ag},eV ys us->(∀v∈ys,Gd X.K H v)->∀u∈us,BO X.A.in1 s u .none (NN u):=by
  intro ys us r;induction r with
  |nil=>intro _ u hu;cases hu
  |cons ry t ih=>
   intro nG u hm;rcases aD.mp hm with rfl|hm
   .rcases nG _ (aJ ..) with rfl|⟨i,rfl⟩|⟨a,xs,rfl,hs⟩;.cases ry;show O3 _
    .rintro t rfl:bW ry;show Jj i t
    .cases ry;rintro _ _ pl2 _:gF<|I.list hs;show aqs pl2.isList (by first|show (show X.A.units<ot by omega)|show (show X.A.units+1<ot by omega))
   .show ih (λv hv=>nG v (au _ hv)) u hm
 have arj:∀{ys:List V}{us:List ag},eV ys us->(∀v∈ys,Gd X.K H v)->us.any NN=ys.any λv=>decide (v=.non):=by
  intro ys us r;induction r with
  |nil=>intro _;rfl
  |cons ry t ih=>
   intro nG;rw[iS,iS,ih λv hv=>nG v (au _ hv)];congr 1;rcases nG _ (aJ ..) with rfl|⟨i,rfl⟩|⟨a,xs,rfl,hs⟩
   .cases ry;rfl
   .rintro t rfl:bW ry;rfl
   .cases ry;rfl
 show U2 NN pl.isList (λw hw=>eqs r eU w (by simpa using hw)) #[ib,.bl _,H,I,rfl,?_];rw[show its.toArray.any NN=its.any NN by simp,arj r eU];show q
def xk{a b:TS}{D:qO}{σ:L2.St}{H:Hp}(M:L2.St->Hp->Prop)(hJ:∀σ' H',M σ' H'->b D σ' H')(h:(∀σ' H',M σ' H'->b D σ' H')->a { D with nx:=b D } σ H):ZQ a b D σ H:=h hJ
def Ta(xs:List V)(i:Nat):Cf xs (some (i:Int)) none=xs.drop i:=by
 unfold Cf;rw[HT.uR,HT.GO];by_cases h:i<=xs.length;.rw[iF h,vO (by rw[iW];omega)]
 .rw[Ew (by omega),eS (by omega),eS (by omega)];simp
theorem JJ:∀(w:List Nat)(n:Nat),w.all di=true->w.foldl (λn c=>10*n+(c - 48)) n<(n+1)*10 ^ w.length
 |[],n,_=>by simp
 |c::w,n,h=>by
  rw[lQ,ak] at h;have hc:c - 48<=9:=by have:=h.1;unfold di at this;simp only[ak,decide_eq_true_eq] at this;omega
  have ih:=JJ w (10*n+(c - 48)) h.2;rw[iD,aP,Nat.pow_succ];show bg ih ?_;rw[Nat.mul_comm (10 ^ w.length) 10,<-Nat.mul_assoc];show gX _ (by omega)
def Sh{m:Nat}{w:List Nat}{k:Nat}(h:je m w=some k):k<10 ^ m:=by
 unfold je at h;split at h;.rename_i hc;cases h;simp only[ak,decide_eq_true_eq] at hc;have:=JJ w 0 hc.2.2;rw[lz,Nat.one_mul] at this;show bg this (Ru (by decide) hc.2.1)
 .cases h
def aog(w:List Nat):gM 4 9999 w=je 4 w:=by
 rw[x8];cases h:je 4 w with
 |none=>rfl
 |some k=>have:=Sh h;change (if k<=9999 then some k else none)=some k;rw[if_pos (by omega)]
def SR(w:List Nat):gM 3 999 w=je 3 w:=by
 rw[x8];cases h:je 3 w with
 |none=>rfl
 |some k=>have:=Sh h;change (if k<=999 then some k else none)=some k;rw[if_pos (by omega)]
end TT
section
local macro_rules|`(tactic| walk_at "rd1")=>`(tactic| first|with_reducible refine QW ?_|with_reducible refine GC ?_|with_reducible refine QX ?_|with_reducible refine GE ?_|with_reducible refine TT.r_g ?_|with_reducible refine WO ?_)
local macro_rules|`(tactic| walk_at "rds")=>`(tactic| repeat ((fail_if_success (with_reducible refine mO ?_));(first|walk_at "rd1"|walk_at "fld")))
namespace TT
section
variable{P:aS}{w:bL}{K:ad}{mg:Str->Option ag}{base:cE}{A:dW}{f:af}{fd:b_}
abbrev xp:cK:=lK (top 5) 0
def L9:aU ["self","number","weekdays","days","rooms","cut"] ["self","number","weekdays","days","rooms","cut"] (aG xp):=jy
def fT(no fi la cu:Nat)(w r l:af):List (Str×V):=[("number",iv no),("weekdays",.ref w),("first_day",iv fi),("last_day",iv la),("rooms",.ref r),("cut",iv cu),("stops",.ref l)]
def Bz(A:dW):Sp:=λvs H Q _=>∃(x dx w da r:af)(no fi la cu:Nat),vs=[.ref x,iv no,.ref w,.ref da,.ref r,iv cu]/\H x=some (.ins A.trip dx [])/\H da=some (.lst [iv fi,iv la])/\
 ∀l H',H l=none->H' l=some (.lst [])->H' x=some (.ins A.trip dx (fT no fi la cu w r l))->eA H H' x->Q .non H'
def Lx(F:i9 K "__init__" "Trip.__init__" xp f fd)(T:eX K mg A):cQ P w K mg base gW 1 f fd ["self","number","weekdays","days","rooms","cut"] (Bz A):=by
 exists F,L9;rintro x dx w da r no fi la cu rfl hx R4 k:vV 8 gF 3 fo h;have nx:da≠x:=oy R4 hx;show #[ia,_,(ae (cF (pv 0) (pv 1) rfl) (ae (cF (pv 0) (pv 2) rfl) (ae (cF (pv 0) (xL (pv 3) aw) rfl) (ae (cF (pv 0) (xL (pv 3) aw) rfl) (ae (cF (pv 0) (pv 4) rfl) (ae (cF (pv 0) (pv 5) rfl) (bA (cF (pv 0) (bI jf) rfl)))))))),?_];dsimp only[dj];exists dL hx T.trip λH1 h1 k1=>?_;exists dL h1 T.trip λH2 h2 k2=>?_;exists bY (cf.of (k2 _ _ (k1 _ _ R4 nx) nx)) (aV (j:=0) rfl) ?_;exists dL h2 T.trip λH3 h3 k3=>?_;exists bY (cf.of (k3 _ _ (k2 _ _ (k1 _ _ R4 nx) nx) nx)) (aV (j:=1) rfl) ?_;exists dL h3 T.trip λH4 h4 k4=>?_;exists dL h4 T.trip λH5 h5 k5=>?_;exists dL h5 T.trip λH6 h6 k6=>?_;have kA:=cZ (cZ (cZ (cZ (cZ k1 k2) k3) k4) k5) k6;exists jw λl H7 hl hl7 e7=>?_;exists dL (e7 _ _ h6) T.trip λH8 h8 k8=>?_;have nl:l≠x:=cA (aI h6 hl);show k l H8 ?_ (k8 _ _ hl7 nl) h8 (λb o e n=>k8 _ _ (e7 _ _ (kA b o e n)) n);cases e:H l with
 |none=>rfl
 |some o=>rw[kA _ _ e nl] at hl;cases hl
abbrev CT:cK:=top 59
def G0:aU ["words","weekdays","days","at","rest","number","rooms","cut"] ["words"] (aG CT):=jy
def E_(H H':Hp)(v:V)(o:Option (List Nat)):Prop:=match o with
 |none=>v=.non
 |some xs=>∃p,v=.ref p/\H p=none/\H' p=some (.lst (ly xs))
def E_.mono{H H1 H2:Hp}{v:V}{o:Option (List Nat)}(s:aq H1 H2)(h:E_ H H1 v o):E_ H H2 v o:=by
 cases o with
 |none=>show h
 |some xs=>rintro p e n q:gF h;show #[ie,p,e,n,s _ _ q]
def E_.ok{H H1:Hp}{v:V}{o:Option (List Nat)}(h:E_ H H1 v o):Gd K H1 v:=by
 cases o with
 |none=>show .inl h
 |some xs=>rintro p e n q:gF h;show .inr (.inr #[im,p,_,e,cf.of q])
theorem E_.non{H H1:Hp}{v:V}{o:Option (List Nat)}(h:E_ H H1 v o):decide (v=.non)=o.isNone:=by
 cases o with
 |none=>rw[show v=.non from h];rfl
 |some xs=>rintro p e n q:gF h;rw[e];rfl
def Rg{no:Nat}{d:List Bool}{v:Nat×Nat}{R:List (List Nat)}(h:R.length≠5):oQ no d v R=none:=by
 rcases R with _|⟨c,_|⟨a,_|⟨b,_|⟨k,_|⟨m,_|⟨z,r⟩⟩⟩⟩⟩⟩<;>try rfl
 show absurd rfl h
def G8(A:dW):Sp:=λvs H Q _=>∃(wd:af)(F:Hp)(wt:List Nat)(l:List (List Nat)),vs=[.ref wd]/\aq F H/\KN F wd (wt::l)/\(ku l=none->∀H',aq H H'->Q .non H')/\
 ∀t p dx w r sl H',ku l=some t->H p=none->H w=none->H r=none->H sl=none->sl≠w->sl≠r->H' p=some (.ins A.trip dx (Nv t w r sl))->H' w=some (.lst (ly (iZ t.days)))->H' r=some (.lst (ly t.room))->H' sl=some (.lst [])->aq H H'->Q (.ref p) H'
def QG(F:i9 K "trip_of" "trip_of" CT f fd)(T:eX K mg A)(gf:fP P w K mg base 1 "number_of" ["word","most"] pq)(aci:MY P w K mg base 1 "Trip" A.trip ["self","number","weekdays","days","rooms","cut"] (Bz A))(qU:fP P w K mg base 1 "weekdays_of" ["digits"] xY)(B2:fP P w K mg base 2 "days_of" ["word"] G3):cQ P w K mg base gW 3 f fd ["words"] (G8 A):=by
 exists F,G0;rintro wd F wt l rfl s0 hw kn ks:xf 5 Cz h;have nd:=G0.nd;show #[ia,_,(ae (sv 1 nd (fK AU rfl T.PM boot_list (eM (uP T.pP)))) (ae (sv 2 nd (bI (mz aw (bG T.nE)))) (ae (sv 3 nd aw) (ae (kG (PW.pt (kI (kq qH (pv 3) (xb T.fb (pv 0))) (lp (fF (Gs oK oM rB (xL (pv 0) (pv 3)) hU))))) (ae (sv 1 nd (bC qU hr (eM (pX Mh (xL (pv 0) (pv 3)) (o6 aw) Bf)))) (bA (sv 3 nd (fB iI (pv 3) aw)))) fU) (ae (kG (PW.pt (kI (kq qH (pv 3) (xb T.fb (pv 0))) (lp (fF (Gs oK oM rB (xL (pv 0) (pv 3)) hU))))) (ae (sv 2 nd (bC B2 hr (eM (pX Mh (xL (pv 0) (pv 3)) (o6 aw) Bf)))) (bA (sv 3 nd (fB iI (pv 3) aw)))) fU) (ae (sv 4 nd (pX Mg (pv 0) (o6 (pv 3)) Bf)) (ae (kW (PW.pt (kf (kq oa (xb T.fb (pv 4)) aw) (kf (kq oa (xL (pv 4) aw) hU) (jh (kq oa (xL (pv 4) aw) hU))))) ju) (ae (sv 5 nd (bC gf hr (mz (xL (pv 0) aw) aw))) (ae (sv 6 nd (bI (mz (bC gf hr (mz (xL (pv 4) aw) aw)) (bC gf hr (mz (xL (pv 4) aw) aw))))) (ae (sv 7 nd (bC gf hr (mz (xL (pv 4) aw) aw))) (ae (kW (kq (QJ hr.units) ju (bI (dS (pv 5) (dS (pv 1) (dS (pv 2) (qu (xL (pv 6) aw) (xL (pv 6) aw) (pv 7))))))) ju) (kY (tu aci hr (dS (pv 5) (dS (pv 1) (qu (pv 2) (pv 6) (pv 7))))))))))))))))),?_];dsimp only[dj];have wl:(wt::l).length=l.length+1:=rfl;walk_at "rds"
 with_reducible show mO ?_
 walk_at "rds";intro a7 ha7;walk_at "rds";show #[ib,a7,_,rfl,.inr (ha7 _),λw0 hw0=>?_];have hw1:(upd H w0 (.lst [V.int 0,V.int 1,V.int 2,V.int 3,V.int 4,V.int 5,V.int 6])) w0=some (.lst (ly (iZ gU))):=by rw[aT];rfl
 have e1:aq H (upd H w0 (.lst [V.int 0,V.int 1,V.int 2,V.int 3,V.int 4,V.int 5,V.int 6])):=cq hw0;generalize upd H w0 (.lst [V.int 0,V.int 1,V.int 2,V.int 3,V.int 4,V.int 5,V.int 6])=H1 at hw1 e1 ⊢;walk_at "rds"
 with_reducible show mO ?_
 walk_at "rds";show jw λd0 H2 YG adu e2=>?_;have s2:=e1.trans e2;have aky:H d0=none:=e1.free YG;walk_at "rds"
 with_reducible show mO ?_
 walk_at "rds"
 with_reducible show xk (λσ' H'=>∃(a:Nat)(wv:V)(od:Option (List Bool)),σ'=[some (.ref wd),some wv,some (.ref d0),some (iv a),none,none,none,none]/\aq H H'/\H' d0=some (.lst (ly [0,13]))/\E_ H H' wv (od.map iZ)/\qB (l.drop 1)=od.map λx=>(x,(wt::l).drop a)) ?_ (λJ=>?_)
 .rintro σ' H3 cG;rintro a wv od rfl s3 hd3 Qg hE:rD 5 lB cG;have Lj:=s0.trans s3
  with_reducible show xk (λσ' H'=>∃(a:Nat)(wv dv:V)(od:Option (List Bool))(ov:Option (Nat×Nat)),σ'=[some (.ref wd),some wv,some dv,some (iv a),none,none,none,none]/\aq H H'/\E_ H H' wv (od.map iZ)/\E_ H H' dv (ov.map λv=>[v.1,v.2])/\
   ∀no,((qB (l.drop 1)).bind λd=>(qi d.2).bind λv=>oQ no d.1 v.1 v.2)=od.bind λds=>ov.bind λv=>oQ no ds v ((wt::l).drop a)) ?_ (λJ2=>?_)
  .rintro σ' H4 cG;rintro a wv dv od ov rfl s4 Qg hdv hE2:DL cG;have Lj:=s0.trans s4;exists WX (cf.of (Lj _ _ hw.1)) λrl H5 Tx NL e5=>?_;rw[Ta,<-As] at NL;have s5:=s4.trans e5;exists h_ (cf.of NL) ?_;rw[ab];left;have FO:(∀no ds v,oQ no ds v ((wt::l).drop a)=none)->ku l=none:=by
    intro hz;cases l with
    |nil=>rfl
    |cons n r=>
     rw[tK];cases gM 4 9999 n with
     |none=>rfl
     |some no=>
      show (hE2 no).trans ?_;cases od with
      |none=>rfl
      |some ds=>
       cases ov with
       |none=>rfl
       |some v=>show hz no ds v
   show j7 (λh1=>?_) (λh1=>?_)<;>left;.show kn (FO λno ds v=>Rg (by omega)) H5 s5
   .obtain⟨c,a1,b1,k1,m1,hR⟩:∃c a1 b1 k1 m1,(wt::l).drop a=[c,a1,b1,k1,m1]:=by
     generalize (wt::l).drop a=R at h1;rcases R with _|⟨c,_|⟨a1,_|⟨b1,_|⟨k1,_|⟨m1,_|⟨z,r⟩⟩⟩⟩⟩⟩;.simp at h1
     .simp at h1
     .simp at h1
     .simp at h1
     .simp at h1
     .show #[ig,c,a1,b1,k1,m1,rfl]
     .simp at h1;omega
    rw[hR] at NL;have hWr:∀z∈[c,a1,b1,k1,m1],KM z:=λz hz=>hw.2.1 z (yp (by rw[hR];show hz));show bY (cf.of NL) (aV (j:=0) rfl) ?_;left;rw[jW "CAP"];have hP:∀no ds v,oQ no ds v ((wt::l).drop a)=if c=bO "CAP"/\k1=bO "CUT" then (je 3 a1).bind λa=>(je 3 b1).bind λb=>(je 3 m1).map λm=>{ no:=no,days:=ds,first:=v.1,last:=v.2,room:=[a,b],cut:=m,stops:=[] } else none:=λno ds v=>by
     rw[hR];change (if c=bO "CAP"/\k1=bO "CUT" then (gM 3 999 a1).bind λa=>(gM 3 999 b1).bind λb=>(gM 3 999 m1).map λm=>_ else none)=_;rw[SR,SR,SR]
    show j7 (λh2=>?_) (λh2=>?_)<;>left;.show kn (FO λno ds v=>by rw[hP,if_neg (λz=>h2 (by rw[z.1]))]) H5 s5
    .show bY (cf.of NL) (aV (j:=3) rfl) ?_;left;rw[jW "CUT"];show j7 (λh3=>?_) (λh3=>?_)<;>left;.show kn (FO λno ds v=>by rw[hP,if_neg (λz=>h3 (by rw[z.2]))]) H5 s5
     .have hck:c=bO "CAP"/\k1=bO "CUT":=⟨o8 h2,o8 h3⟩;obtain⟨n,r,rfl⟩:∃n r,l=n::r:=by
       cases l with
       |nil=>have:=congrArg Ph hR;rw[iW] at this;simp at this;omega
       |cons n r=>show #[ir,n,r,rfl]
      show hw.get (i:=1) (Lj.trans e5) rfl ?_;exists #[ib,n,4,rfl,hw.ok (i:=1) rfl,⟨by decide,?_⟩];exists bY (cf.of NL) (aV (j:=1) rfl) ?_;exists #[ib,a1,3,rfl,hWr _ (by simp),⟨by decide,?_⟩];exists bY (cf.of NL) (aV (j:=2) rfl) ?_;exists #[ib,b1,3,rfl,hWr _ (by simp),⟨by decide,?_⟩];exists jw λrm H6 YU aek e6=>?_;exists bY (cf.of (e6 _ _ NL)) (aV (j:=4) rfl) ?_;exists #[ib,m1,3,rfl,hWr _ (by simp),⟨by decide,?_⟩];exists bY (cf.of aek) (aV (j:=0) rfl) ?_;exists bY (cf.of aek) (aV (j:=1) rfl) ?_;exists jw λnl H7 hnl at7 e7=>?_;have e57:aq H4 H7:=(e5.trans e6).trans e7;have ama:=Qg.mono e57;have ak0:=hdv.mono e57;have YO:∀o:Option Nat,Gd K H7 (tq o):=λo=>by
       cases o with
       |none=>show .inl rfl
       |some k=>show .inr (.inl ⟨k,rfl⟩)
      have hon:∀o:Option Nat,decide (tq o=.non)=o.isNone:=λo=>by cases o<;>rfl
      show #[ik,nl,_,rfl,rfl,cf.of at7,?_,?_]
      .intro v hv;simp only[aD,cR,or_false] at hv;rcases hv with rfl|rfl|rfl|rfl|rfl|rfl
       .show YO _
       .show ama.ok
       .show ak0.ok
       .show YO _
       .show YO _
       .show YO _
      have VQ:([tq (je 4 n),wv,dv,tq (je 3 a1),tq (je 3 b1),tq (je 3 m1)].any λv=>decide (v=.non))=((je 4 n).isNone||(od.isNone||(ov.isNone||((je 3 a1).isNone||((je 3 b1).isNone||(je 3 m1).isNone))))):=by simp only[iS,List.any_nil,hon,Qg.non,hdv.non,Bool.or_false];cases od<;>cases ov<;>rfl
      rw[VQ];left;have hT:ku (n::r)=(je 4 n).bind λno=>od.bind λds=>ov.bind λv=>(je 3 a1).bind λa=>(je 3 b1).bind λb=>(je 3 m1).map λm=>{ no:=no,days:=ds,first:=v.1,last:=v.2,room:=[a,b],cut:=m,stops:=[] }:=by rw[tK,aog];congr 1;funext no;show (hE2 no).trans ?_;congr 1;funext ds;congr 1;funext v;rw[hP,if_pos hck]
      have s7:aq H H7:=s4.trans e57;cases hn:je 4 n with
      |none=>rw[if_pos (by simp)];left;rw[hn] at hT;show kn hT H7 s7
      |some no=>
       cases od with
       |none=>rw[if_pos (by simp)];left;rw[hn] at hT;show kn hT H7 s7
       |some ds=>
        cases ov with
        |none=>rw[if_pos (by simp)];left;rw[hn] at hT;show kn hT H7 s7
        |some v=>
         cases ha:je 3 a1 with
         |none=>rw[if_pos (by simp)];left;rw[hn,ha] at hT;show kn hT H7 s7
         |some ra=>
          cases hb:je 3 b1 with
          |none=>rw[if_pos (by simp)];left;rw[hn,ha,hb] at hT;show kn hT H7 s7
          |some rb=>
           cases hm:je 3 m1 with
           |none=>rw[if_pos (by simp)];left;rw[hn,ha,hb,hm] at hT;show kn hT H7 s7
           |some cu=>
            rw[hn,ha,hb,hm] at hT;rw[if_neg (by simp)];left;rintro wa rfl hwn hw7:gF ama;rintro da rfl _ as5:gF ak0;show pY λx dx H8 g1 g2 g3=>?_;show #[iw,x,dx,wa,da,rm,no,v.1,v.2,#[ie,cu,rfl,g2,⟨g3 _ _ as5,λsl H9 Cr auu hx9 k9=>⟨rfl,?_⟩⟩]];have ael:H7 rm=some (.lst (ly [ra,rb])):=by rw[e7 _ _ aek,ha,hb];rfl
            have aun:H rm=none:=(s4.trans e5).free YU;have s8:=s7.trans g3;have nx:∀{b o},H7 b=some o->b≠x:=λh z=>by rw[z,g1] at h;cases h
            show ks _ x dx wa rm sl H9 hT (s7.free g1) hwn aun (s8.free Cr) (λz=>by rw[z] at Cr;rw[g3 _ _ hw7] at Cr;cases Cr) (λz=>by rw[z] at Cr;rw[g3 _ _ ael] at Cr;cases Cr) hx9 (k9 _ _ (g3 _ _ hw7) (nx hw7)) (k9 _ _ (g3 _ _ ael) (nx ael)) auu (aB s8 k9 (s7.free g1))
  .have JW:∀(ov:Option (Nat×Nat))(a':Nat),qi ((wt::l).drop a)=(ov.map λv=>(v,(wt::l).drop a'))->∀no,((qB (l.drop 1)).bind λd=>(qi d.2).bind λv=>oQ no d.1 v.1 v.2)=od.bind λds=>ov.bind λv=>oQ no ds v ((wt::l).drop a'):=by
    intro ov a' hv no;rw[hE];cases od with
    |none=>rfl
    |some ds=>change (qi ((wt::l).drop a)).bind _=_;rw[hv];cases ov<;>rfl
   walk_at "rds";show h_ (cf.of (Lj _ _ hw.1)) ?_;rw[ab,wl];walk_at "rds";show cY (λh1=>?_) (λh1=>?_)<;>walk_at "rds"
   .have ha:a<(wt::l).length:=by rw[wl];omega
    rintro z hz:bW (⟨_,bb ha⟩:∃z,(wt::l)[a]? = some z);have hdr:(wt::l).drop a=z::(wt::l).drop (a+1):=by rw[eW ha,(ai.mp hz).2]
    show hw.get (i:=a) Lj hz ?_;walk_at "rds";show #[ib,_,_,rfl,rfl,?_];rw[show bo "V="=⟨#[86,61]⟩ by decide +kernel,W4];walk_at "rds";show cY (λh2=>?_) (λh2=>?_)<;>walk_at "rds"
    .with_reducible show mO ?_
     walk_at "rds";show hw.get (i:=a) Lj hz ?_;walk_at "rds";show SB (p7 (hw.ok hz)) ?_;rw[show Ef (dq z) (some 2) none=dq (z.drop 2) from Ce z 2];walk_at "rds";have hvp:∀ov,iR (z.drop 2)=ov->qi ((wt::l).drop a)=ov.map λv=>(v,(wt::l).drop (a+1)):=λov e=>by
      rw[hdr];change (if z.take 2=[86,61] then _ else _)=_;rw[if_pos h2,e]
     show #[ie,z.drop 2,rfl,(hw.ok hz).drop,⟨λe H4 e4=>?_,λx y p H4 e hp hp4 e4=>?_⟩];.walk_at "rds";rw[j1 (show ((a:Nat):Int)+1=((a+1:Nat):Int) by omega)];show J2 _ _ #[ig,a+1,wv,.non,od,none,#[iq,rfl,s3.trans e4,Qg.mono e4,rfl,JW none (a+1) (hvp none e)]]
     .walk_at "rds";rw[j1 (show ((a:Nat):Int)+1=((a+1:Nat):Int) by omega)];show J2 _ _ #[ig,a+1,wv,.ref p,od,some (x,y),#[iq,rfl,s3.trans e4,Qg.mono e4,#[ie,p,rfl,s3.free hp,hp4],JW (some (x,y)) (a+1) (hvp _ e)]]
    .show J2 _ _ #[ig,a,wv,.ref d0,od,some (0,13),#[iq,rfl,s3,Qg,#[ie,d0,rfl,aky,hd3],JW _ a ?_]];rw[hdr];change (if z.take 2=[86,61] then _ else _)=_;rw[if_neg h2];rfl
   .show J2 _ _ #[ig,a,wv,.ref d0,od,some (0,13),#[iq,rfl,s3,Qg,#[ie,d0,rfl,aky,hd3],JW _ a ?_]];rw[eS (by rw[wl];omega)];rfl
 .walk_at "rds";have Lj:=s0.trans s2;show h_ (cf.of (Lj _ _ hw.1)) ?_;rw[ab,wl];walk_at "rds";have same:qB (l.drop 1)=(some gU).map (λx=>(x,(wt::l).drop 2))->∃(a:Nat)(wv:V)(od:Option (List Bool)),[some (V.ref wd),some (V.ref w0),some (V.ref d0),some (V.int 2),none,none,none,none]=[some (.ref wd),some wv,some (.ref d0),some (iv a),none,none,none,none]/\aq H H2/\H2 d0=some (.lst (ly [0,13]))/\E_ H H2 wv (od.map iZ)/\qB (l.drop 1)=od.map λx=>(x,(wt::l).drop a):=λe=>
   #[ii,2,.ref w0,some gU,rfl,s2,#[ic,adu,#[ie,w0,rfl,hw0,e2 _ _ hw1],e]]
  show cY (λh1=>?_) (λh1=>?_)<;>walk_at "rds"
  .obtain⟨n,z,r,rfl⟩:∃n z r,l=n::z::r:=by
    rcases l with _|⟨n,_|⟨z,r⟩⟩;.simp at h1
    .simp at h1
    .show #[ir,n,z,⟨r,rfl⟩]
   show hw.get (i:=2) Lj rfl ?_;walk_at "rds";show #[ib,_,_,rfl,rfl,?_];rw[show bo "D="=⟨#[68,61]⟩ by decide +kernel,W4];walk_at "rds";show cY (λh2=>?_) (λh2=>?_)<;>walk_at "rds"
   .with_reducible show mO ?_
    walk_at "rds";show hw.get (i:=2) Lj rfl ?_;walk_at "rds";show SB (p7 (hw.ok (i:=2) rfl)) ?_;rw[show Ef (dq z) (some 2) none=dq (z.drop 2) from Ce z 2];walk_at "rds";have hdp:∀od,j6 (z.drop 2)=od->qB (z::r)=od.map λv=>(v,r):=λod e=>by
     change (if z.take 2=[68,61] then _ else _)=_;rw[if_pos h2,e]
    show #[ie,z.drop 2,rfl,(hw.ok (i:=2) rfl).drop,⟨λe H4 e4=>?_,λds p H4 e hp hp4 e4=>?_⟩];.walk_at "rds";show J _ _ #[ii,3,.non,none,rfl,s2.trans e4,#[ic,e4 _ _ adu,rfl,hdp none e]]
    .walk_at "rds";show J _ _ #[ii,3,.ref p,some ds,rfl,s2.trans e4,#[ic,e4 _ _ adu,#[ie,p,rfl,s2.free hp,hp4],hdp _ e]]
   .show J _ _ (same ?_);change (if z.take 2=[68,61] then _ else _)=_;rw[if_neg h2];rfl
  .show J _ _ (same ?_);have:l.drop 1=[]:=eS (by omega);rw[this,show (wt::l).drop 2=l.drop 1 from rfl,this];rfl
end
end TT
end
section
namespace TT
open Vbpoaf
def z5(x:cP)(r:List er):Except Nat cP:=if x.hand.isSome=true then .error 6 else match qx r with
 |none=>.error 6
 |some m=>if x.told.contains m.1=true then .error 6 else .ok { x with table:={ x.table with mins:=x.table.mins.set m.1 m.2 },told:=m.1::x.told }
def vM(x:cP)(r:List er):Except Nat cP:=if whole x.hand=false then .error 4 else match ku r with
 |none=>.error 2
 |some t=>if TRIPS<=(stow x).trips.length\/((stow x).trips.any λu=>u.no==t.no)=true then .error 5 else .ok { x with table:=stow x,hand:=some (t,false) }
def vL(x:cP)(ws:List er):Except Nat cP:=match x.hand with
 |some (t,false)=>match xZ t.stops ws with
  |none=>.error 3
  |some e=>.ok { x with hand:=some ({ t with stops:=t.stops++[e] },decide (ws[2]? = some [45])) }
 |_=>.error 3
def W8(x:cP)(ws:List er):(match x.hand,BZ ws with
 |some t,some s=>match li t s.1 s.2.1 s.2.2 with
  |none=>XZ 3
  |some u=>.ok { x with hand:=some u }
 |_,_=>.error 3)=vL x ws:=by
 unfold vL;rcases hx:x.hand with _|⟨t,b⟩;.rfl
 .cases b with
  |true=>
   cases BZ ws with
   |none=>rfl
   |some s=>
    have:li (t,true) s.1 s.2.1 s.2.2=none:=by unfold li;rw[if_pos (.inl rfl)]
    dsimp only;rw[this]
  |false=>
   have h:=W6 t ws;cases hs:BZ ws with
   |none=>
    rw[hs] at h;dsimp only at h ⊢;cases hq:xZ t.stops ws with
    |none=>rfl
    |some e=>rw[hq] at h;cases h
   |some s=>rw[hs] at h;dsimp only at h ⊢;rw[h];cases xZ t.stops ws<;>rfl
def lH(x:cP)(ws:List er):Except Nat cP:=match ws with
 |[]=>.ok x
 |w::r=>if w.head? = some 35 then .ok x else if w=text "MIN" then z5 x r else if w=text "TRIP" then vM x r else if (cX w).isSome=true then vL x (w::r) else .error 1
def NQ(x:cP)(l:er):E5 x l=lH x (kU l):=by
 unfold E5 lH;cases kU l with
 |nil=>rfl
 |cons w r=>dsimp only;rw[<-W8];rfl
structure TB(t:ax):Prop where
 no:t.no<=9999
 first:t.first<=t.last
 room:∀r∈t.room,r<=999
 cut:t.cut<=999
structure uc(t:ax)(b:Bool):Prop where
 days:t.days.length=7
 last:t.last<=13
 room:∃a b,t.room=[a,b]
 two:b=true->2<=t.stops.length
 lw:t.stops.length<=5
 off:∀s∈t.stops,s.office<6/\s.arr<=s.dep/\s.dep<2880
 up:t.stops.Pairwise λa b=>a.dep<b.arr
 tb:TB t
structure RI(x:cP):Prop where
 mins:x.table.mins.length=6
 Wo:∀m∈x.table.mins,m<=999
 trips:∀t∈x.table.trips,uc t true
 six:(stow x).trips.length<=6
 nos:((stow x).trips.map λt=>t.no).Nodup
 hand:∀t b,x.hand=some (t,b)->uc t b
 aff:x.hand=none->x.table.trips=[]
def RI.start:RI { table:=empty,hand:=none,told:=[] } where
 mins:=rfl
 Wo:=by intro m hm;have:m=0:=lR hm;omega
 trips:=by intro t ht;cases ht
 six:=by decide
 nos:=by simp[stow,empty]
 hand:=by intro t b h;cases h
 aff:=λ_=>rfl
theorem RI.whole{x:cP}(h:RI x):oV x.hand=match x.hand with
 |none=>true
 |some t=>t.2:=by
 rcases hx:x.hand with _|⟨t,b⟩;.rfl
 .change (b&&decide (2<=t.stops.length))=b;cases b with
  |false=>rfl
  |true=>rw[decide_eq_true ((h.hand t true hx).two rfl)];rfl
def uc.whole{t:ax}(h:uc t true):qW t:=⟨h.days,h.last,h.room,h.two rfl,h.lw,h.off,h.up⟩
def PV{w:er}{d:List Bool}(h:j6 w=some d):d.length=7:=by
 unfold j6 at h;split at h;.cases h;rw[ab,bQ]
 .cases h
def ym{n m:Nat}{w:er}{k:Nat}(h:gM n m w=some k):k<=m:=by
 rw[x8] at h;rintro j _ e:bM<|Option.bind_eq_some_iff.mp h;split at e;.cases e;assumption
 .cases e
def Ua{w:er}{v:Nat×Nat}(h:iR w=some v):v.1<=v.2/\v.2<=13:=by
 unfold iR at h;split at h
 .rintro a ha h:bM<|Option.bind_eq_some_iff.mp h;rintro b hb h:bM<|Option.bind_eq_some_iff.mp h;split at h;.cases h;show⟨by assumption,ym hb⟩
  .cases h
 .cases h
def JY{l:List er}{t:ax}(h:ku l=some t):uc t false/\t.stops=[]:=by
 cases l with
 |nil=>cases h
 |cons n r=>
  rw[tK] at h;rintro no FO h:bM<|Option.bind_eq_some_iff.mp h;rintro d hd h:bM<|Option.bind_eq_some_iff.mp h;rintro v hv h:bM<|Option.bind_eq_some_iff.mp h;have h7:d.1.length=7:=by
   unfold qB at hd;split at hd;.cases hd;rfl
   .split at hd;.rintro y hy e:bM<|Option.map_eq_some_iff.mp hd;rw[<-e];show PV hy
    .cases hd;rfl
  have h13:v.1.1<=v.1.2/\v.1.2<=13:=by
   unfold qi at hv;split at hv;.cases hv;show⟨bV _,aA _⟩
   .split at hv;.rintro y hy e:bM<|Option.map_eq_some_iff.mp hv;rw[<-e];show Ua hy
    .cases hv;show⟨bV _,aA _⟩
  unfold oQ at h;split at h
  .split at h
   .rintro a ha h:bM<|Option.bind_eq_some_iff.mp h;rintro b hb h:bM<|Option.bind_eq_some_iff.mp h;rintro m hm h:bM<|Option.map_eq_some_iff.mp h;cases h;show⟨⟨h7,h13.2,#[ir,a,b,rfl],(λz=>by cases z),bV _,(by intro s hs;cases hs),.nil,⟨ym FO,h13.1,?_,ym hm⟩⟩,rfl⟩;intro r hr;simp only[aD,cR,or_false] at hr;rcases hr with rfl|rfl;.show ym ha
    .show ym hb
   .cases h
  .cases h
def C_{w:er}{k:Nat}(h:bP w=some k):k<2880:=by
 unfold bP at h;split at h
 .split at h;.cases h;omega
  .cases h
 .cases h
def W7{t:ax}{b:Bool}{ws:List er}{e:Stop}(ht:uc t b)(h:xZ t.stops ws=some e):uc { t with stops:=t.stops++[e] } (decide (ws[2]? = some [45])):=by
 rcases ws with _|⟨w0,_|⟨a,_|⟨d,_|⟨z,r⟩⟩⟩⟩<;>try (cases h)
 rw[Ra] at h;rintro o ho h:bM<|Option.bind_eq_some_iff.mp h;rintro _ XM:fo<|rF ho;split at h;.cases h
 .rename_i hc;have h5:t.stops.length<5:=by
   rcases OW t.stops.length 5 with z|z;.show z
   .show absurd (.inl z) hc
  have main:e.office<6/\e.arr<=e.dep/\e.dep<2880/\(∀p,t.stops.getLast? = some p->p.dep<e.arr)/\(d=[45]->t.stops≠[]):=by
   cases hl:t.stops.getLast? with
   |none=>
    rw[hl] at h;dsimp only at h;split at h;.rintro g hg e':bM<|Option.map_eq_some_iff.mp h;rw[<-e'];show #[iq,XM,aA _,C_ hg,(by intro p hp;cases hp),λz=>?_];rw[z,tJ] at hg;cases hg
    .cases h
   |some p=>
    have nS:t.stops≠[]:=λz=>by rw[z] at hl;cases hl
    rw[hl] at h;dsimp only at h;rintro c hcc h:bM<|Option.bind_eq_some_iff.mp h;split at h
    .rename_i hpc;split at h;.cases h;show #[iq,XM,aA _,C_ hcc,(by intro q hq;cases hq;show hpc),λ_=>nS]
     .rintro g hg h:bM<|Option.bind_eq_some_iff.mp h;split at h;.cases h;show #[iq,XM,by assumption,C_ hg,(by intro q hq;cases hq;show hpc),λ_=>nS]
      .cases h
    .cases h
  rintro m1 m2 m3 m4 m5:EO main;show⟨ht.days,ht.last,ht.room,λz=>?_,?_,?_,?_,⟨ht.tb.no,ht.tb.first,ht.tb.room,ht.tb.cut⟩⟩
  .have hd:d=[45]:=by simpa using z
   have:=m5 hd;change 2<=(t.stops++[e]).length;rw[ap,ci];have:0<t.stops.length:=Rr.mpr this;omega
  .change (t.stops++[e]).length<=5;rw[ap,ci];omega
  .intro s hs;rcases br.mp hs with hs|hs
   .show ht.off s hs
   .cases aX.mp hs;show #[ic,m1,m2,m3]
  .change (t.stops++[e]).Pairwise _;rw[Pj];show #[ic,ht.up,Mu ..,λs hs q hq=>?_];cases aX.mp hq;obtain⟨p,hp⟩:∃p,t.stops.getLast? = some p:=by
    cases hl:t.stops.getLast? with
    |none=>rw[qP] at hl;rw[hl] at hs;cases hs
    |some p=>show⟨p,rfl⟩
   have hpe:=m4 p hp;rintro l hl:bW<|List.getLast?_eq_some_iff.mp hp;rw[hl] at hs;rcases br.mp hs with hs|hs;.have hup:=ht.up;rw[hl,Pj] at hup;have h1:=hup.2.2 s hs p (aX.mpr rfl);have h2:=ht.off p (by rw[hl];show cj _ (aX.mpr rfl));omega
   .cases aX.mp hs;show hpe
def RI.line{x y:cP}{ws:List er}(h:RI x)(e:lH x ws=.ok y):RI y:=by
 unfold lH at e;split at e;.cases e;show h
 .rename_i w r;split at e;.cases e;show h
  split at e
  .unfold z5 at e;split at e;.cases e
   .rename_i hh;cases hm:qx r with
    |none=>rw[hm] at e;cases e
    |some m=>
     rw[hm] at e;dsimp only at e;split at e;.cases e
     .cases e;have hn:x.hand=none:=by
       cases hx:x.hand with
       |none=>rfl
       |some z=>rw[hx] at hh;show absurd rfl hh
      have kE:∀(tb:eT)(to:List Nat),stow { x with table:=tb,told:=to }=tb:=λtb to=>by unfold stow;dsimp only;rw[hn]
      have hmb:m.2<=999:=by
       unfold qx at hm;split at hm;.rintro o _ hm:bM<|Option.bind_eq_some_iff.mp hm;rintro k hk hm:bM<|Option.map_eq_some_iff.mp hm;cases hm;show ym hk
       .cases hm
      have h6:=h.six;have h7:=h.nos;have hs0:stow x=x.table:=by unfold stow;rw[hn]
      rw[hs0] at h6 h7;show⟨by change (x.table.mins.set _ _).length=6;rw[jp];show h.mins,?_,h.trips,?_,?_,h.hand,h.aff⟩
      .intro k hk;rcases List.mem_or_eq_of_mem_set hk with hk|rfl
       .show h.Wo k hk
       .show hmb
      .rw[kE];show h6
      .rw[kE];show h7
  split at e
  .unfold vM at e;split at e;.cases e
   .rename_i hw;cases ht:ku r with
    |none=>rw[ht] at e;cases e
    |some t=>
     rw[ht] at e;dsimp only at e;split at e;.cases e
     .rename_i hc;cases e;have hc1:(stow x).trips.length<6:=by
       rcases OW (stow x).trips.length 6 with z|z;.show z
       .show absurd (.inl z) hc
      have YE:∀u∈(stow x).trips,u.no≠t.no:=λu hu e=>hc (.inr (jE.mpr #[ia,u,hu,by simp[e]]));have nG:∀u∈(stow x).trips,uc u true:=by
       intro u hu;rcases hx:x.hand with _|⟨v,b⟩
       .unfold stow at hu;rw[hx] at hu;show h.trips u hu
       .unfold stow at hu;rw[hx] at hu;rcases br.mp hu with hu|hu;.show h.trips u hu
        .cases aX.mp hu;rw[h.whole,hx] at hw;have hb:b=true:=by cases b with
          |true=>rfl
          |false=>show absurd rfl hw
         have:=h.hand v b hx;rw[hb] at this;show this
      have kE:(stow { x with table:=stow x,hand:=some (t,false) }).trips=(stow x).trips++[t]:=rfl;have Tv:(stow x).mins=x.table.mins:=by unfold stow;cases x.hand<;>rfl
      show⟨by change (stow x).mins.length=6;rw[Tv];show h.mins,by change ∀m∈(stow x).mins,m<=999;rw[Tv];show h.Wo,nG,?_,?_,?_,λz=>by cases z⟩;.rw[kE,ap,ci];omega
      .rw[kE,aj,dU];show #[ic,h.nos,by simp,λa ha b hb=>?_];rintro u hu rfl:bM<|List.mem_map.mp ha;have:b=t.no:=by simpa using hb
       rw[this];show YE u hu
      .intro u b hu;cases hu;show (JY ht).1
  split at e
  .unfold vL at e;split at e
   .rename_i t hx;cases hs:xZ t.stops (w::r) with
    |none=>rw[hs] at e;cases e
    |some s=>
     rw[hs] at e;cases e;have h6:=h.six;have h7:=h.nos;unfold stow at h6 h7;rw[hx] at h6 h7;show⟨h.mins,h.Wo,h.trips,?_,?_,?_,λz=>by cases z⟩;.change (x.table.trips++[_]).length<=6;rw[ap] at h6 ⊢;show h6
     .change ((x.table.trips++[_]).map λ(t:ax)=>t.no).Nodup;rw[aj] at h7 ⊢;show h7
     .intro u b hu;cases hu;show W7 (h.hand t false hx) hs
   .cases e
  .cases e
def RI.tok{x:cP}(h:RI x)(hw:oV x.hand=true):ED (stow x):=by
 have nG:∀u∈(stow x).trips,uc u true:=by
  intro u hu;rcases hx:x.hand with _|⟨v,b⟩
  .unfold stow at hu;rw[hx] at hu;show h.trips u hu
  .unfold stow at hu;rw[hx] at hu;rcases br.mp hu with hu|hu;.show h.trips u hu
   .cases aX.mp hu;rw[h.whole,hx] at hw;have hb:b=true:=hw;have:=h.hand v b hx;rw[hb] at this;show this
 show⟨?_,h.six,λt ht=>(nG t ht).whole,h.nos⟩;unfold stow;cases x.hand<;>show h.mins
def RI.all{x:cP}(h:RI x)(hw:oV x.hand=true):(∀m∈(stow x).mins,m<=999)/\∀u∈(stow x).trips,TB u:=by
 show⟨by unfold stow;cases x.hand<;>show h.Wo,λu hu=>?_⟩;rcases hx:x.hand with _|⟨v,b⟩;.unfold stow at hu;rw[hx] at hu;show (h.trips u hu).tb
 .unfold stow at hu;rw[hx] at hu;rcases br.mp hu with hu|hu;.show (h.trips u hu).tb
  .cases aX.mp hu;show (h.hand v b hx).tb
theorem F8:∀(l:List er)(n:Nat)(x:cP)(b:eT),RI x->i8 n l x=.ok b->ED b/\(∀m∈b.mins,m<=999)/\∀u∈b.trips,TB u
 |[],n,x,b,h,e=>by
  unfold i8 at e;split at e;.rename_i hw;cases e;show⟨h.tok hw,h.all hw⟩
  .cases e
 |l::r,n,x,b,h,e=>by
  unfold i8 at e;rw[NQ] at e;cases hl:lH x (kU l) with
  |error z=>rw[hl] at e;cases e
  |ok y=>rw[hl] at e;show F8 r (n+1) y b (h.line hl) e
def G_{t:er}{b:eT}(e:ny t=.ok b):ED b/\(∀m∈b.mins,m<=999)/\∀u∈b.trips,TB u:=F8 _ _ _ _ RI.start e
end TT
end
section
local macro_rules|`(tactic| walk_at "rd1")=>`(tactic| first|with_reducible refine QW ?_|with_reducible refine GC ?_|with_reducible refine QX ?_|with_reducible refine GE ?_|with_reducible refine TT.r_g ?_|with_reducible refine WO ?_)
namespace TT
def Fz(F H:Hp)(S:List af):Hp:=λb=>if b∈S then H b else F b
section
variable{F H:Hp}{S:List af}{b:af}{o:HO}
def Fz.sub(s:aq F H):aq F (Fz F H S):=λb o e=>by
 unfold Fz;split;.show s _ _ e
 .show e
def Fz.same(s:aq F H):aq (Fz F H S) H:=λb o e=>by
 unfold Fz at e;split at e;.show e
 .show s _ _ e
def Fz.get(h:b∈S)(e:H b=some o):Fz F H S b=some o:=by unfold Fz;rw[if_pos h];show e
def Fz.no(h:b∉S)(e:F b=none):Fz F H S b=none:=by unfold Fz;rw[if_neg h];show e
end
def NW(F H0:Hp):Hp:=λb=>if H0 b=none then F b else none
def uL{F H0:Hp}:aq (NW F H0) F:=λb o e=>by
 unfold NW at e;split at e;.show e
 .cases e
def j2{F F' H0:Hp}(s:aq F F'):aq (NW F H0) (NW F' H0):=λb o e=>by
 unfold NW at e ⊢;split at e;.rename_i h;rw[if_pos h];show s _ _ e
 .cases e
def qG{F H0:Hp}{b:af}{o:HO}(n:H0 b=none)(e:F b=some o):NW F H0 b=some o:=by unfold NW;rw[if_pos n];show e
def Ww:Option (ax×Bool)->Bool
 |none=>false
 |some t=>!t.2
def E9(A:dW)(G F H:Hp)(h:Option (ax×Bool))(hs:List af)(m l tl:af):Prop:=match h with
 |none=>hs=[]
 |some t=>∃(a dx w r sl:af)(bs:List af),hs=[a]/\G a=some (.ins A.trip dx (Nv t.1 w r sl))/\G w=some (.lst (ly (iZ t.1.days)))/\G r=some (.lst (ly t.1.room))/\H sl=some (.lst (bs.map V.ref))/\cg (qV A G) bs t.1.stops/\F sl=none/\sl≠m/\sl≠l/\sl≠tl
def D6(l:List Nat):List V:=l.reverse.map λo=>V.str (dq [65+o])
structure DrS(A:dW)(H0 F H:Hp)(d:af)(x:cP)(dd ta dt m l tl:af)(as hs:List af):Prop where
 dr:H d=some (.ins A.mD dd [("table",.ref ta),("told",.ref tl),("has_open",.bl (Ww x.hand))])
 h0:aq H0 F
 tb:NW F H0 ta=some (.ins A.table dt [("minutes",.ref m),("trips",.ref l)])
 mi:H m=some (.lst (ly x.table.mins))
 tr:H l=some (.lst ((as++hs).map V.ref))
 to:H tl=some (.lst (D6 x.told))
 pa:cg (gh A (NW F H0)) as x.table.trips
 ha:E9 A (NW F H0) F H x.hand hs m l tl
 sf:aq F H
 fd:F d=none
 fm:F m=none
 fl:F l=none
 ft:F tl=none
 ml:m≠l
 mt:m≠tl
 lt:l≠tl
def DrX(A:dW)(H0 F H:Hp)(d:af)(x:cP):Prop:=∃dd ta dt m l tl as hs,DrS A H0 F H d x dd ta dt m l tl as hs
section
variable{A:dW}{H0 G G' F F' H H':Hp}{d dd ta dt m l tl:af}{x:cP}{as hs:List af}
theorem E9.mono{h:Option (ax×Bool)}(hh:E9 A G F H h hs m l tl)(s:aq G G')(e:∀b xs,H b=some (.lst xs)->F b=none->b≠m->b≠l->b≠tl->H' b=some (.lst xs))(n:∀b xs,H b=some (.lst xs)->F b=none->F' b=none):E9 A G' F' H' h hs m l tl:=by
 unfold E9 at hh ⊢;cases h with
 |none=>show hh
 |some t=>rintro a dx w r sl bs h1 h2 h3 h4 h5 h6 h7 h8 h9 RX:EN 6 wb 6 Cz hh;show #[iy,a,dx,w,r,#[ik,sl,bs,h1,s _ _ h2,s _ _ h3,s _ _ h4,#[ip,e _ _ h5 h7 h8 h9 RX,bF (λ_ _ q=>q.mono s) h6,n _ _ h5 h7,h8,h9,RX]]]
def DrS.fz{S:List af}(h:DrS A H0 F H d x dd ta dt m l tl as hs)(s:aq H H')(n:∀b∈S,H b=none):DrS A H0 (Fz F H' S) H' d x dd ta dt m l tl as hs:=by
 have sf:=h.sf.trans s;have sg:aq F (Fz F H' S):=Fz.sub sf;have sm:=j2 (H0:=H0) sg;have nn:∀{b o},H b=some o->b∉S:=λe z=>by rw[n _ z] at e;cases e
 show⟨s _ _ h.dr,h.h0.trans sg,sm _ _ h.tb,s _ _ h.mi,s _ _ h.tr,s _ _ h.to,bF (λ_ _ q=>q.mono sm) h.pa,h.ha.mono sm (λb xs e _ _ _ _=>s _ _ e) (λb xs e z=>Fz.no (nn e) z),Fz.same sf,Fz.no (nn h.dr) h.fd,Fz.no (nn h.mi) h.fm,Fz.no (nn h.tr) h.fl,Fz.no (nn h.to) h.ft,h.ml,h.mt,h.lt⟩
theorem DrS.stow(h:DrS A H0 F H d x dd ta dt m l tl as hs):∃F1,aq F F1/\aq F1 H/\cg (gh A (NW F1 H0)) (as++hs) (eF x).trips/\F1 d=none/\F1 m=none/\F1 l=none/\F1 tl=none:=by
 have ha:=h.ha;unfold E9 at ha;cases hx:x.hand with
 |none=>rw[hx] at ha;show #[ie,F,aq.refl _,h.sf,#[iq,?_,h.fd,h.fm,h.fl,h.ft]];unfold eF;rw[hx,show hs=[] from ha,b9];show h.pa
 |some t=>
  rw[hx] at ha;rintro a dx w r sl bs h1 h2 h3 h4 h5 h6 h7 h8 h9 RX:EN 6 wb 6 Cz ha;have s0:aq F (Fz F H [sl]):=Fz.sub h.sf;have s1:=j2 (H0:=H0) s0;show #[ie,Fz F H [sl],s0,Fz.same h.sf,#[iq,?_,Fz.no ?_ h.fd,Fz.no ?_ h.fm,Fz.no ?_ h.fl,Fz.no ?_ h.ft]];.unfold eF;rw[hx,h1];show lW (bF (λ_ _ q=>q.mono s1) h.pa) (.cons #[iy,dx,w,r,sl,#[ij,s1 _ _ h2,s1 _ _ h3,s1 _ _ h4,#[ia,bs,qG (h.h0.free h7) (Fz.get (by simp) h5),bF (λ_ _ q=>q.mono s1) h6]]] .nil)
  .rw[aX];show oy h.dr h5
  .rw[aX];show cA h8
  .rw[aX];show cA h9
  .rw[aX];show cA RX
end
section
variable{K:ad}{mg:Str->Option ag}{A:dW}{H:Hp}{Q:VK}{d dd ta tl m l:af}{o e f:V}
def lF(T:eX K mg A)(h:H d=some (.ins A.mD dd [("table",.ref ta),("told",.ref tl),("has_open",o)]))(q:Q (.ref ta) H):fQ K "table" Q (.ref d) H:=c8 h T.mD q
def qC(T:eX K mg A)(h:H d=some (.ins A.mD dd [("table",.ref ta),("told",.ref tl),("has_open",o)]))(q:Q (.ref tl) H):fQ K "told" Q (.ref d) H:=c8 h T.mD q
def nR(T:eX K mg A)(h:H d=some (.ins A.mD dd [("table",.ref ta),("told",.ref tl),("has_open",o)]))(q:Q o H):fQ K "has_open" Q (.ref d) H:=c8 h T.mD q
def Lc(T:eX K mg A)(h:H d=some (.ins A.table dd [("minutes",.ref m),("trips",.ref l)]))(q:Q (.ref m) H):fQ K "minutes" Q (.ref d) H:=c8 h T.table q
def A1(T:eX K mg A)(h:H d=some (.ins A.table dd [("minutes",.ref m),("trips",.ref l)]))(q:Q (.ref l) H):fQ K "trips" Q (.ref d) H:=c8 h T.table q
def sS(T:eX K mg A)(h:H d=some (.ins A.i_ dd [("table",o),("fault",e),("line",f)]))(q:Q o H):fQ K "table" Q (.ref d) H:=c8 h T.i_ q
def sR(T:eX K mg A)(h:H d=some (.ins A.i_ dd [("table",o),("fault",e),("line",f)]))(q:Q e H):fQ K "fault" Q (.ref d) H:=c8 h T.i_ q
def yf(T:eX K mg A)(h:H d=some (.ins A.i_ dd [("table",o),("fault",e),("line",f)]))(q:Q f H):fQ K "line" Q (.ref d) H:=c8 h T.i_ q
end
section
variable{P:aS}{w:bL}{K:ad}{mg:Str->Option ag}{base:cE}{A:dW}{f:af}{fd:b_}
def qK(A:dW)(R:List (List Nat)->Prop)(g:cP->List (List Nat)->Except Nat cP):Sp:=λvs H Q _=>∃(d wd:af)(H0 F:Hp)(x:cP)(ws:List (List Nat)),vs=[.ref d,.ref wd]/\DrX A H0 F H d x/\KN F wd ws/\RI x/\x.told.length<=5000/\R ws/\
 (∀e H',g x ws=.error e->aq F H'->Q (iv e) H')/\∀y F' H',g x ws=.ok y->DrX A H0 F' H' d y->aq F F'->Q (iv 0) H'
def ZS(l:List Nat)(o:Nat):Pc (.str (dq [65+o])) (D6 l)=l.contains o:=by
 unfold D6 Pc;rw[jZ,cV,jE,List.contains_iff_mem];constructor
 .rintro cG;rintro c hc h:bM cG;have h':decide (dq [65+c]=dq [65+o])=true:=h;rw[decide_eq_true_eq,GP] at h';have:c=o:=by
   have:=congrArg (λz:List Nat=>z.headD 0) h';simp at this;show this
  rw[<-this];show UZ.mp hc
 .intro h;show #[ia,o,UZ.mpr h,by change decide (dq [65+o]=dq [65+o])=true;simp]
def Ue(l:List Nat):(D6 l).all mG=true:=by unfold D6;rw[BR];show bB.mpr λ_ _=>rfl
def Zb{x:cP}{r:List (List Nat)}(h:qx r=none):z5 x r=.error 6:=by unfold z5;rw[h];split<;>rfl
def Qu(o m:List Nat):qx [o,m]=(cX o).bind λo=>(je 3 m).map λm=>(o,m):=by change ((cX o).bind λo=>(gM 3 999 m).map λm=>(o,m))=_;rw[SR]
abbrev qb:cK:=top 57
def vH:aU ["draft","words","minutes"] ["draft","words"] (aG qb):=jy
def Ep(F:i9 K "read_minutes" "read_minutes" qb f fd)(T:eX K mg A)(L:GD K mg "LETTERS" j_)(gf:fP P w K mg base 1 "number_of" ["word","most"] pq):cQ P w K mg base gW 2 f fd ["draft","words"] (qK A (λws=>ws≠[]) λx ws=>z5 x ws.tail):=by
 exists F,vH;rintro d wd H0 F x ws rfl ⟨dd,ta,dt,m,l,tl,as,hs,h⟩ hw ri h5 nS ke ks:EN 6 wb 6 fo h;have nd:=vH.nd;show #[ia,_,(ae (kW (PW.pt (kf (kq yR (xb T.fb (vC (du 0))) aw) (jh (kq oa (xb T.fb (pv 1)) aw)))) (bG T.uj)) (ae (kW (PW.pt (kf (kq Bc (xL (pv 1) aw) (uP T.pE)) (jh (kq tp (xL (pv 1) aw) (du 0))))) (bG T.uj)) (ae (sv 2 nd (bC gf hr (mz (xL (pv 1) aw) aw))) (ae (kW (fq (jg (pv 2))) (bG T.uj)) (ae (dN (Mx (du 0) (xL (pv 1) aw))) (ae (LY (pv 2) (LW (vC (du 0)) (Sk Hl qw Hq JI (Oj L) (eM (xL (pv 1) aw))) yk)) (kY (bG T.kD)))))))),?_];dsimp only[dj];have tb:=h.sf _ _ (uL _ _ h.tb);left;first|show lF T h.dr ?_|show qC T h.dr ?_|show nR T h.dr ?_
 left;first|show A1 T tb ?_|show Lc T tb ?_
 exists h_ (cf.of h.tr) ?_;rw[ab];left;obtain⟨w0,rs,rfl⟩:∃w0 rs,ws=w0::rs:=by cases ws with
  |nil=>show absurd rfl nS
  |cons a b=>show #[ir,a,b,rfl]
 have no:qx rs=none->∀H',aq F H'->Q (iv 6) H':=λz H' s=>ke 6 H' (Zb z) s;show cY (λh1=>?_) (λh1=>?_)<;>left
 .show ke 6 H ?_ h.sf;change z5 x rs=_;unfold z5;rw[if_pos];cases hx:x.hand with
  |some z=>rfl
  |none=>have ha:=h.ha;rw[hx] at ha;have hp:=h.pa.length;rw[ri.aff hx] at hp;rw[show hs=[] from ha,b9,hp] at h1;simp at h1
 .have hn:x.hand=none:=by
   cases hx:x.hand with
   |none=>rfl
   |some t=>have ha:=h.ha;rw[hx] at ha;rintro a _ _ _ _ _ rfl _:EN 6 fo ha;simp at h1
  show h_ (cf.of (h.sf _ _ hw.1)) ?_;rw[ab];exists j7 (λh2=>?_) (λh2=>?_)<;>left
  .show no ?_ H h.sf;rcases rs with _|⟨a,_|⟨b,_|⟨c,r⟩⟩⟩<;>try rfl
   show absurd rfl h2
  .obtain⟨o,n,rfl⟩:∃o n,rs=[o,n]:=by
    rcases rs with _|⟨a,_|⟨b,_|⟨c,r⟩⟩⟩;.simp at h2
    .simp at h2
    .show #[ir,a,b,rfl]
    .simp at h2;omega
   show hw.get (i:=1) h.sf rfl ?_;left;intro la Pb;show SA (.inr (Pb _)) rfl (by decide +kernel) ?_;rw[show Pc (.str (dq o)) [.str "A",.str "B",.str "C",.str "D",.str "E",.str "F"]=(cX o).isSome from FY o];exists oj (λh3=>?_) (λh3=>?_)<;>left
   .show no ?_ H h.sf;rw[Qu];cases ho:cX o with
    |none=>rfl
    |some z=>rw[ho] at h3;cases h3
   .rintro oo ho:bW<|Option.isSome_iff_exists.mp h3;rintro rfl XM:fo<|rF ho;show hw.get (i:=1) h.sf rfl ?_;left;first|show lF T h.dr ?_|show qC T h.dr ?_|show nR T h.dr ?_
    show WP (.inl (cf.of h.to)) rfl (Ue _) ?_;rw[ZS];left;have hM:∀z,je 3 n=some z->z5 x [[65+oo],n]=if x.told.contains oo=true then .error 6 else .ok { x with table:={ x.table with mins:=x.table.mins.set oo z },told:=oo::x.told }:=λz hz=>by
     unfold z5;rw[hn,if_neg (by decide),Qu,ho,hz];rfl
    have hM0:je 3 n=none->qx [[65+oo],n]=none:=λz=>by rw[Qu,ho,z];rfl
    show oh (λh4=>?_) (λh4=>?_)<;>left
    .cases hz:je 3 n with
     |none=>show no (hM0 hz) H h.sf
     |some z=>show ke 6 H (by change z5 x [[65+oo],n]=_;rw[hM z hz,if_pos h4]) h.sf
    .show hw.get (i:=2) h.sf rfl ?_;exists #[ib,n,3,rfl,hw.ok (i:=2) rfl,⟨by decide,?_⟩];left;cases hz:je 3 n with
     |none=>rw[show tq none=V.non from rfl];exists no (hM0 hz) H h.sf
     |some z=>
      rw[show tq (some z)=iv z from rfl];left;first|show lF T h.dr ?_|show qC T h.dr ?_|show nR T h.dr ?_
      show jm (cf.of h.to) ?_;exists hw.get (i:=1) h.sf rfl ?_;exists fL (T:="list") rfl h.to (by unfold D6;rw[ab,List.length_reverse];unfold sizeLine;omega) λH1 t1 k1=>?_;have dtl:d≠tl:=oy h.dr h.to;have dm:d≠m:=oy h.dr h.mi;have tat:ta≠tl:=oy tb h.to;have sf1:aq F H1:=aB h.sf k1 h.ft;exists EW ?_;left;first|show lF T (k1 _ _ h.dr dtl) ?_|show qC T (k1 _ _ h.dr dtl) ?_|show nR T (k1 _ _ h.dr dtl) ?_
      left;first|show A1 T (k1 _ _ tb tat) ?_|show Lc T (k1 _ _ tb tat) ?_
      left;rintro lb YK XR;show⟨XR _,?_⟩;exists hw.get (i:=1) sf1 rfl ?_;exists #[ig,lb,j_,_,oo,_,#[iu,rfl,rfl,YK _,rfl,rfl,qE XM,#[ic,by change decide (dq _=dq _)=true;simp,λm v hm hv=>yQ XM m hm v hv,?_]]];exists L6 (k1 _ _ h.mi h.mt) (by unfold ly;rw[ab,ri.mins];show XM) λH2 m2 k2=>?_;exists ks _ F H2 (by change z5 x [[65+oo],n]=_;rw[hM z hz,if_neg (by rw[h4];decide)]) #[iw,dd,ta,dt,m,l,tl,as,hs,?_] (aq.refl _);show⟨k2 _ _ (k1 _ _ h.dr dtl) dm,h.h0,h.tb,?_,k2 _ _ (k1 _ _ h.tr h.lt) (cA h.ml),?_,h.pa,?_,aB sf1 k2 h.fm,h.fd,h.fm,h.fl,h.ft,h.ml,h.mt,h.lt⟩;.rw[m2];change _=some (HO.lst (ly (x.table.mins.set oo z)));unfold ly;rw[List.map_set]
      .rw[k2 _ _ t1 (cA h.mt)];change _=some (HO.lst (D6 (oo::x.told)));unfold D6;rw[List.reverse_cons,aj];rfl
      .have ha:=h.ha;rw[hn] at ha;change E9 A (NW F H0) F H2 x.hand hs m l tl;rw[hn];show ha
abbrev xG:cK:=top 58
def Bv:aU ["draft","words","trip","trips","other"] ["draft","words"] (aG xG):=jy
def LP(F:i9 K "read_trip" "read_trip" xG f fd)(T:eX K mg A)(B7:fP P w K mg base 3 "trip_of" ["words"] (G8 A)):cQ P w K mg base gW 4 f fd ["draft","words"] (qK A (λws=>ws≠[]) λx ws=>vM x ws.tail):=by
 exists F,Bv;rintro d wd H0 F x ws rfl ⟨dd,ta,dt,m,l,tl,as,hs,h⟩ hw ri h5 nS ke ks:EN 6 wb 6 fo h;have nd:=Bv.nd;show #[ia,_,(ae (kW (fF (du 0)) (bG T.wI)) (ae (sv 2 nd (bC B7 hr (eM (pv 1)))) (ae (kW (fq (jg (pv 2))) (bG T.Dx)) (ae (sv 3 nd (vC (du 0))) (ae (kW (PW.pt (kf (kq lI (xb T.fb (pv 3)) (bG T.A5)) (jh (kq tp (du 2) (og rfl nd (dM (pv 3)) (fe (own:=[("other",4)]) (by kernel_rfl)) (λ_ _ _ _ _=>(gv 4 nd)) (λ_ _ _ _ _=>jz) (λ_ _ _ _ _=>(jU (K:=K) (pv 4) rfl))))))) (bG T.A6)) (ae (dN (Mx (pv 3) (pv 2))) (ae (cF (pv 0) JM rfl) (kY (bG T.kD))))))))),?_];dsimp only[dj];have tb:=h.sf _ _ (uL _ _ h.tb);obtain⟨w0,rs,rfl⟩:∃w0 rs,ws=w0::rs:=by cases ws with
  |nil=>show absurd rfl nS
  |cons a b=>show #[ir,a,b,rfl]
 have ke:∀e H',vM x rs=.error e->aq F H'->Q (iv e) H':=ke;have ks:∀y F' H',vM x rs=.ok y->DrX A H0 F' H' d y->aq F F'->Q (iv 0) H':=ks;left;first|show lF T h.dr ?_|show qC T h.dr ?_|show nR T h.dr ?_
 left;have hop:Ww x.hand=!oV x.hand:=by rw[ri.whole];cases x.hand<;>rfl
 rw[hop];show oj (λh1=>?_) (λh1=>?_)<;>left;.show ke 4 H (by unfold vM;rw[if_pos h1]) h.sf
 .have hT:∀o,ku rs=o->vM x rs=match o with
   |none=>.error 2
   |some t=>if 6<=(eF x).trips.length\/((eF x).trips.any λu=>u.no==t.no)=true then .error 5 else .ok { x with table:=eF x,hand:=some (t,false) }:=λo e=>by
   unfold vM;rw[if_neg (by rw[h1];decide),e];rfl
  show #[il,wd,F,w0,rs,rfl,h.sf,hw,λe H1 s1=>?_,λt p dx wk rm sl H1 e hp hwk YU Cr nw nr Ay au8 aum aen s1=>?_];.left;show ke 2 H1 (hT _ e) (h.sf.trans s1)
  .left;first|show lF T (s1 _ _ h.dr) ?_|show qC T (s1 _ _ h.dr) ?_|show nR T (s1 _ _ h.dr) ?_
   left;first|show A1 T (s1 _ _ tb) ?_|show Lc T (s1 _ _ tb) ?_
   left;rintro F1 f1 f2 f3 g1 g2 g3 g4:Ix 5 lB h.stow;have hlen:=f3.length;have h6:=ri.six;show h_ (cf.of (s1 _ _ h.tr)) ?_;rw[ab,hlen];exists cY (λh2=>?_) (λh2=>?_)<;>left;.show ke 5 H1 (by rw[hT _ e];show if_pos (.inl (by omega))) (h.sf.trans s1)
   .show c8 Ay T.trip ?_ (Ir t wk rm sl);exists Bj (xs:=(as++hs).map V.ref) (λz i H'=>aq H1 H'/\H' z=some (.lst (ly (((eF x).trips.take i).map λu=>u.no)))) (cf.of (s1 _ _ h.tr)) (λz H' a1 a2 a3=>⟨a3,a2⟩) (λz i H' hz _ q=>cf.of (q.1 _ _ (s1 _ _ h.tr))) ?_ ?_;.rintro z i v H' hz hv cG;rintro e1 e2:fo cG;rintro b hb rfl:bM<|o7 hv;rintro u hu hbu:bM<|fE f3 hb;have s2:aq (NW F1 H0) H':=(uL.trans (f2.trans s1)).trans e1;exists jv e2 (by unfold ly;rw[ab,ab,aM];unfold sizeLine;omega) λH2 a1 a2=>⟨aB e1 a2 hz,?_⟩;rw[a1,bR hu];unfold ly;rw[aj,aj];rfl
    .rintro z H2 hz cG;rintro e1 e2:fo cG;rw[ab,hlen,aK] at e2;have s2:=s1.trans e1;show WP (.inl (cf.of e2)) rfl (FB _) ?_;have hin:Pc (V.int (t.no:Int)) (ly ((eF x).trips.map λu=>u.no))=(eF x).trips.any λu=>u.no==t.no:=by
      rw[EJ,jZ];congr 1;funext s;change ((s.no:Int)==(t.no:Int))=(s.no==t.no);rw[cV,beq_iff_eq,beq_iff_eq];omega
     rw[hin];exists oh (λh3=>?_) (λh3=>?_)<;>left;.show ke 5 H2 (by rw[hT _ e];show if_pos (.inr h3)) (h.sf.trans s2)
     .show jm (cf.of (s2 _ _ h.tr)) ?_;exists fL (T:="list") rfl (s2 _ _ h.tr) (by rw[ab,hlen];unfold sizeLine;omega) λH3 l3 k3=>?_;have dl:d≠l:=oy h.dr h.tr;exists CI (k3 _ _ (s2 _ _ h.dr) dl) T.mD (fs':=[("table",.ref ta),("told",.ref tl),("has_open",.bl true)]) λH4 d4 k4=>?_;left;have old:∀b o,H b=some o->b≠l->b≠d->H4 b=some o:=λb o e n1 n2=>k4 _ _ (k3 _ _ (s2 _ _ e) n1) n2;have new:∀b o,H1 b=some o->H b=none->H4 b=some o:=λb o e n=>k4 _ _ (k3 _ _ (e1 _ _ e) λz=>by rw[z,h.tr] at n;cases n) λz=>by rw[z,h.dr] at n;cases n
      have SG:aq F1 H4:=aB (aB (f2.trans s2) k3 g3) k4 g1;have YW:aq F1 (Fz F1 H4 [p,wk,rm]):=Fz.sub SG;have Qv:∀b o,H b=some o->b∉[p,wk,rm]:=λb o e z=>by
       simp only[aD,cR,or_false] at z;rcases z with rfl|rfl|rfl;.rw[hp] at e;cases e
       .rw[hwk] at e;cases e
       .rw[YU] at e;cases e
      have hn0:∀b,H b=none->H0 b=none:=λb n=>(h.h0.trans h.sf).free n;have slp:sl≠p:=oy aen Ay;have t0:=(JY e).2;have nsl:∀b o,H b=some o->sl≠b:=λb o e z=>by rw[<-z,Cr] at e;cases e
      have at8:¬(6<=(eF x).trips.length\/((eF x).trips.any λu=>u.no==t.no)=true):=by
       rintro (z|z);.show h2 (by omega)
       .rw[h3] at z;cases z
      show ks _ (Fz F1 H4 [p,wk,rm]) H4 (by rw[hT _ e];show if_neg at8) #[iw,dd,ta,dt,m,l,tl,as++hs,[p],?_] (f1.trans YW);have Tv:(eF x).mins=x.table.mins:=by unfold eF;cases x.hand<;>rfl
      show⟨d4,h.h0.trans (f1.trans YW),j2 (f1.trans YW) _ _ h.tb,?_,?_,?_,bF (λ_ _ q=>q.mono (j2 YW)) f3,?_,Fz.same SG,Fz.no (Qv _ _ h.dr) g1,Fz.no (Qv _ _ h.mi) g2,Fz.no (Qv _ _ h.tr) g3,Fz.no (Qv _ _ h.to) g4,h.ml,h.mt,h.lt⟩;.change H4 m=some (.lst (ly (eF x).mins));rw[Tv];show old _ _ h.mi h.ml (oy h.mi h.dr)
      .rw[k4 _ _ l3 (cA dl)];rw[aj (l₁:=as++hs)];rfl
      .show old _ _ h.to (cA h.lt) (oy h.to h.dr)
      .show #[iy,p,dx,wk,rm,#[ik,sl,[],rfl,qG (hn0 _ hp) (Fz.get (by simp) (new _ _ Ay hp)),qG (hn0 _ hwk) (Fz.get (by simp) (new _ _ au8 hwk)),qG (hn0 _ YU) (Fz.get (by simp) (new _ _ aum YU)),#[ip,new _ _ aen Cr,?_,Fz.no ?_ (f2.free Cr),nsl _ _ h.mi,nsl _ _ h.tr,nsl _ _ h.to]]];.change cg _ [] t.stops;rw[t0];show .nil
       .simp only[aD,cR,or_false];rintro (z|z|z);.show slp z
        .show nw z
        .show nr z
abbrev xF:cK:=top 62
def Bu:aU ["draft","words","stops","stop"] ["draft","words"] (aG xF):=jy
def LO(F:i9 K "read_stop" "read_stop" xF f fd)(T:eX K mg A)(B6:fP P w K mg base 4 "stop_of" ["before","words"] (G7 A)):cQ P w K mg base gW 5 f fd ["draft","words"] (qK A (λws=>∃w0 r,ws=w0::r/\(cX w0).isSome=true) vL):=by
 exists F,Bu;rintro d wd H0 F x ws rfl ⟨dd,ta,dt,m,l,tl,as,hs,h⟩ hw ri h5 ⟨w0,rs,Lj,hof⟩ ke ks:EN 6 wb 6 fo h;rintro oo ho:bW<|Option.isSome_iff_exists.mp hof;have nd:=Bu.nd;show #[ia,_,(ae (kW (lX (fF (du 0))) (bG T.wK)) (ae (sv 2 nd (vC (xL (vC (du 0)) (Sn Mr aw)))) (ae (sv 3 nd (bC B6 hr (mz (pv 2) (pv 1)))) (ae (kW (fq (jg (pv 3))) (bG T.wK)) (ae (dN (Mx (pv 2) (pv 3))) (ae (cF (pv 0) (cmE oa (xL (pv 1) aw) hU) rfl) (kY (bG T.kD)))))))),?_];dsimp only[dj];have tb:=h.sf _ _ (uL _ _ h.tb);left;first|show lF T h.dr ?_|show qC T h.dr ?_|show nR T h.dr ?_
 exists oj (λh1=>?_) (λh1=>?_)<;>left
 .show ke 3 H ?_ h.sf;unfold vL;rcases hx:x.hand with _|⟨t,b⟩;.rfl
  .rw[hx] at h1;cases b with
   |true=>rfl
   |false=>cases h1
 .obtain⟨t,hx⟩:∃t,x.hand=some (t,false):=by
   rcases hx:x.hand with _|⟨t,b⟩;.rw[hx] at h1;cases h1
   .rw[hx] at h1;cases b with
    |true=>cases h1
    |false=>show⟨t,rfl⟩
  have ha:=h.ha;rw[hx] at ha;rintro a dx wk rm sl bs rfl a2 a3 a4 a5 a6 a7 a8 a9 a10:EN 6 wb 6 Cz ha;have hS:∀o,xZ t.stops ws=o->vL x ws=match o with
   |none=>.error 3
   |some e=>.ok { x with hand:=some ({ t with stops:=t.stops++[e] },decide (ws[2]? = some [45])) }:=λo e=>by
   unfold vL;rw[hx];dsimp only;rw[e]<;>cases o<;>rfl
  first|show lF T h.dr ?_|show qC T h.dr ?_|show nR T h.dr ?_
  left;first|show A1 T tb ?_|show Lc T tb ?_
  exists bY (cf.of h.tr) (KO (v:=.ref a) (by rw[aj];simp)) ?_;exists c8 (h.sf _ _ (uL _ _ a2)) T.trip ?_ (Lq t wk rm sl);exists #[ig,sl,wd,F,ws,t.stops,#[ik,bs,oo,rfl,h.sf,a5,bF (λ_ _ q=>q.mono uL) a6,#[iq,(ri.hand t false hx).lw,hw,#[im,w0,rs,Lj,ho],λe H1 s1=>?_,λe p dp H1 he hp Ay s1=>?_]]];.left;show ke 3 H1 (hS _ e) (h.sf.trans s1)
  .exists jm (cf.of (s1 _ _ a5)) ?_;exists fL (T:="list") rfl (s1 _ _ a5) (by rw[ab,show bs.length=t.stops.length from a6.length];have:=(ri.hand t false hx).lw;unfold sizeLine;omega) λH2 l2 k2=>?_;have dsl:d≠sl:=oy h.dr a5;have sF2:aq F H2:=aB (h.sf.trans s1) k2 a7;left;obtain⟨a1,d1,rfl⟩:∃a1 d1,ws=[w0,a1,d1]:=by
    rw[Lj] at he ⊢;rcases rs with _|⟨a,_|⟨b,_|⟨c,r⟩⟩⟩;.cases he
    .cases he
    .show #[ir,a,b,rfl]
    .cases he
   show hw.get (i:=2) sF2 rfl ?_;exists CI (k2 _ _ (s1 _ _ h.dr) dsl) T.mD (fs':=[("table",.ref ta),("told",.ref tl),("has_open",.bl (!decide (dq d1=bo "-")))]) λH3 d3 k3=>?_;left;have old:∀b o,H b=some o->b≠sl->b≠d->H3 b=some o:=λb o e n1 n2=>k3 _ _ (k2 _ _ (s1 _ _ e) n1) n2;have sF3:aq F H3:=aB sF2 k3 h.fd;have kE:aq F (Fz F H3 [p]):=Fz.sub sF3;have Qv:∀b o,H b=some o->b∉[p]:=λb o e z=>by
    rw[aX] at z;rw[z,hp] at e;cases e
   have psl:p≠sl:=λz=>by rw[z,a5] at hp;cases hp
   have pd:p≠d:=λz=>by rw[z,h.dr] at hp;cases hp
   have yO:H3 p=some (.ins A.stop dp (Nu e)):=k3 _ _ (k2 _ _ Ay psl) pd;show ks _ (Fz F H3 [p]) H3 (hS _ he) #[iw,dd,ta,dt,m,l,tl,as,[a],?_] kE;show⟨?_,h.h0.trans kE,j2 kE _ _ h.tb,old _ _ h.mi (cA a8) (oy h.mi h.dr),old _ _ h.tr (cA a9) (oy h.tr h.dr),old _ _ h.to (cA a10) (oy h.to h.dr),bF (λ_ _ q=>q.mono (j2 kE)) h.pa,?_,Fz.same sF3,Fz.no (Qv _ _ h.dr) h.fd,Fz.no (Qv _ _ h.mi) h.fm,Fz.no (Qv _ _ h.tr) h.fl,Fz.no (Qv _ _ h.to) h.ft,h.ml,h.mt,h.lt⟩
   .rw[d3];have:(!decide (dq d1=bo "-"))=!decide (([w0,a1,d1]:List (List Nat))[2]? = some [45]):=by
     congr 1;rw[show bo "-"=dq [45] by decide +kernel];rw[decide_eq_decide,GP];change d1=[45]↔some d1=some [45];simp
    rw[this];rfl
   .show #[iy,a,dx,wk,rm,#[ik,sl,bs++[p],rfl,j2 kE _ _ a2,j2 kE _ _ a3,j2 kE _ _ a4,#[ip,?_,?_,Fz.no (Qv _ _ a5) a7,a8,a9,a10]]];.rw[k3 _ _ l2 (cA dsl),aj];rfl
    .show jM ⟨dp,qG ((h.h0.trans h.sf).free hp) (Fz.get (by simp) yO)⟩ (bF (λ_ _ q=>q.mono (j2 kE)) a6)
abbrev xE:cK:=top 56
def Bt:aU ["draft","words"] ["draft","words"] (aG xE):=jy
def LM(F:i9 K "read_line" "read_line" xE f fd)(T:eX K mg A)(pN:fP P w K mg base 2 "read_minutes" ["draft","words"] (qK A (λws=>ws≠[]) λx ws=>z5 x ws.tail))(wq:fP P w K mg base 4 "read_trip" ["draft","words"] (qK A (λws=>ws≠[]) λx ws=>vM x ws.tail))(wo:fP P w K mg base 5 "read_stop" ["draft","words"] (qK A (λws=>∃w0 r,ws=w0::r/\(cX w0).isSome=true) vL)):cQ P w K mg base gW 6 f fd ["draft","words"] (qK A (λ_=>True) lH):=by
 exists F,Bt;rintro d wd H0 F x ws rfl hD hw ri h5 _ ke ks:EN 6 wb 6 fo h;have sf:aq F H:=by rintro dd ta dt m l tl as hs h:vV hD;show h.sf
 have nd:=Bt.nd;show #[ia,_,(ae (kW (PW.pt (kf (kq lI (xb T.fb (pv 1)) aw) (jh (fF (Gs oK oM rB (xL (pv 1) aw) hU))))) (bG T.kD)) (ae (kW (kq lI (xL (pv 1) aw) hU) (bC pN hr (mz (pv 0) (pv 1)))) (ae (kW (kq lI (xL (pv 1) aw) hU) (bC wq hr (mz (pv 0) (pv 1)))) (ae (kW (kq tp (xL (pv 1) aw) (uP T.pE)) (bC wo hr (mz (pv 0) (pv 1)))) (kY (bG T.A2)))))),?_];dsimp only[dj];exists h_ (cf.of (sf _ _ hw.1)) ?_;rw[ab];exists cY (λh1=>?_) (λh1=>?_)<;>left
 .have:ws=[]:=by cases ws with
   |nil=>rfl
   |cons=>simp at h1;omega
  subst this;show ks x F H rfl hD (aq.refl _)
 .obtain⟨w0,rs,rfl⟩:∃w0 rs,ws=w0::rs:=by cases ws with
   |nil=>show absurd rfl h1
   |cons a b=>show #[ir,a,b,rfl]
  show hw.get (i:=0) sf rfl ?_;exists #[ib,_,_,rfl,rfl,?_];rw[show bo "#"=⟨#[35]⟩ by decide +kernel,ags];exists cY (λh2=>?_) (λh2=>?_)<;>left;.show ks x F H (by unfold lH;dsimp only;rw[if_pos h2]) hD (aq.refl _)
  .show hw.get (i:=0) sf rfl ?_;left;rw[jW "MIN"];show cY (λh3=>?_) (λh3=>?_)<;>left
   .have e3:=o8 h3;have hl:lH x (w0::rs)=z5 x rs:=by unfold lH;dsimp only;rw[if_neg h2,if_pos e3]
    show #[iy,d,wd,H0,F,#[ik,x,_,rfl,hD,hw,ri,#[ij,h5,by simp,λe H' z s=>ke e H' (hl.trans z) s,λy F' H' z q s=>ks y F' H' (hl.trans z) q s]]]
   .have e3:¬w0=bO "MIN":=λz=>h3 (by rw[z]);show hw.get (i:=0) sf rfl ?_;left;rw[jW "TRIP"];show cY (λh4=>?_) (λh4=>?_)<;>left
    .have e4:=o8 h4;have hl:lH x (w0::rs)=vM x rs:=by unfold lH;dsimp only;rw[if_neg h2,if_neg e3,if_pos e4]
     show #[iy,d,wd,H0,F,#[ik,x,_,rfl,hD,hw,ri,#[ij,h5,by simp,λe H' z s=>ke e H' (hl.trans z) s,λy F' H' z q s=>ks y F' H' (hl.trans z) q s]]]
    .have e4:¬w0=bO "TRIP":=λz=>h4 (by rw[z]);show hw.get (i:=0) sf rfl ?_;left;intro la Pb;show WP (.inr (Pb _)) rfl (by decide +kernel) ?_;rw[show Pc (.str (dq w0)) [.str "A",.str "B",.str "C",.str "D",.str "E",.str "F"]=(cX w0).isSome from FY w0];exists oh (λh6=>?_) (λh6=>?_)<;>left
     .have hl:lH x (w0::rs)=vL x (w0::rs):=by rw[show lH x (w0::rs)=_ from rfl];unfold lH;dsimp only;rw[if_neg h2,if_neg e3,if_neg e4,if_pos h6]
      show #[iy,d,wd,H0,F,#[ik,x,_,rfl,hD,hw,ri,#[ij,h5,#[im,w0,rs,rfl,h6],λe H' z s=>ke e H' (hl.trans z) s,λy F' H' z q s=>ks y F' H' (hl.trans z) q s]]]
     .show ke 1 H (by unfold lH;dsimp only;rw[if_neg h2,if_neg e3,if_neg e4,if_neg (by rw[h6];decide)]) sf
end
end TT
end
section
local macro_rules|`(tactic| walk_at "rd1")=>`(tactic| first|with_reducible refine QW ?_|with_reducible refine GC ?_|with_reducible refine QX ?_|with_reducible refine GE ?_|with_reducible refine TT.r_g ?_|with_reducible refine WO ?_)
namespace TT
def By(l:List Nat):List (ez×V):=l.map λ(c:Nat)=>((.inl (c:Int):ez),V.str ⟨#[c]⟩)
theorem SK(b:Nat):∀l:List Nat,dy (By l) (.inl (b:Int))=if b∈l then some (.str ⟨#[b]⟩) else none
 |[]=>rfl
 |c::l=>by
  change dy (((v_ (c:Int):ez),V.str ⟨#[c]⟩)::By l) _=_;by_cases h:c=b;.subst h;rw[i7 rfl,if_pos (aJ ..)]
  .rw[i6 (by intro z;injection z with z;omega),SK b l];have:b∈c::l↔b∈l:=by simp[cA h]
   by_cases hb:b∈l;.rw[if_pos hb,if_pos (this.mpr hb)]
   .rw[if_neg hb,if_neg (λz=>hb (this.mp z))]
def agp:((By signs).map (·.1)).Nodup:=by rw[eJ];decide +kernel
def ZL(b:Nat):(dy (i0 [] (By signs)) (.inl (b:Int))).getD (.str (bo "?"))=.str (dq [sg b]):=by
 rw[Hf agp,SK];unfold sg;by_cases h:b∈signs;.rw[if_pos h,if_pos h];rfl
 .rw[if_neg h,if_neg h];change V.str (bo "?")=_;rw[show bo "?"=dq [63] by decide +kernel]
theorem wz:∀ls:List (List Nat),dO [] ls=ls.flatten
 |[]=>rfl
 |[w]=>by simp[dO]
 |w::v::r=>by
  change w++([]++dO [] (v::r))=_;rw[wz (v::r)];simp
def Wd(bs:List Nat):Rz (dq []) ((bs.map λb=>[sg b]).map dq)=dq (kh bs):=by
 rw[o0,wz];congr 1;unfold kh;induction bs with
 |nil=>rfl
 |cons b r ih=>rw[bD,Uw,bD,ih];rfl
section
variable{P:aS}{w:bL}{K:ad}{mg:Str->Option ag}{base:cE}{A:dW}{f:af}{fd:b_}
abbrev Al:cK:=top 54
def DW:aU ["text","by_byte","sign","byte"] ["text"] (aG Al):=jy
def D4:Sp:=λvs H Q _=>∃(a:af)(bs:List Nat),vs=[.ref a]/\H a=some (.lst (ly bs))/\bs.length<=3000/\∀H',aq H H'->Q (.str (dq (kh bs))) H'
def Ob(F:i9 K "signs_of" "signs_of" Al f fd)(T:eX K mg A):cQ P w K mg base gW 1 f fd ["text"] D4:=by
 exists F,DW;rintro a bs rfl ha hb k:lA h;have nd:=DW.nd;have hu:=fJ hr;show #[ia,_,(ae (sv 1 nd (fK (PQ rfl) rfl T.KP ag7 (eM (og rfl nd (LX (Sm T.RV)) (fe (own:=[("sign",2)]) (by kernel_rfl)) (λ_ _ _ _ _=>(gv 2 nd)) (λ_ _ _ _ _=>jz) (λ_ _ _ _ _=>(Gv (mz (i3 M7 rfl T.Vg boot_ord (eM (pv 2))) (pv 2)))))))) (kY (ES hU (og rfl nd (dM (pv 0)) (fe (own:=[("byte",3)]) (by kernel_rfl)) (λ_ _ _ _ _=>(gv 3 nd)) (λ_ _ _ _ _=>jz) (λ_ _ _ _ _=>(Gr hu (pv 1) (pv 3) (Sm T.RU) ⟨rfl,rfl,rfl,rfl⟩)))))),?_];dsimp only[dj];have hz:(bo "\n #-=0123456789ABCDEFIMNPRTUV").cps.toList=signs:=by rw[jW,lO];rfl
 have Cr:signs.length=29:=by rw[eJ];rfl
 exists Sy (λd i H'=>aq H H'/\∃ps:List af,H' d=some (.lst (ps.map V.ref))/\ps.length=i/\cg (λp kv=>H' p=some (.tup [kV kv.1,kv.2])) ps (By (signs.take i))) (λd H' a1 a2 a3=>#[io,a3,[],a2,⟨rfl,.nil⟩]) ?_ ?_
 .rintro d i c H' hd hc cG;rintro e1 ps e2 e3 e4:EQ 3 fo cG;rw[hz] at hc;have hi:i<29:=by rw[<-Cr];show (ai.mp hc).1
  exists #[ia,c,rfl,?_];exists r_U λp H2 hp jH s2=>?_;show jv (s2 _ _ e2) (by rw[ab,e3];unfold sizeLine;omega) λH3 d3 k3=>#[io,aB (e1.trans s2) k3 hd,ps++[p],?_,⟨?_,?_⟩];.rw[d3,aj];rfl
  .rw[ap,e3];rfl
  .have pd:p≠d:=λz=>by rw[z,e2] at hp;cases hp
   rw[bR hc];change cg _ _ (aql _ (_++[c]));rw[aj];show jM (P:=λp(kv:ez×V)=>H3 p=some (.tup [kV kv.1,kv.2])) (k3 _ _ jH pd) (bF (λq kv hq=>k3 _ _ (s2 _ _ hq) λz=>?_) e4);rw[z,e2] at hq;cases hq
 .rintro d H' hd cG;rintro e1 ps e2 e3 e4:EQ 3 fo cG;rw[hz,aK] at e4;exists #[ii,d,ps,_,rfl,cf.of e2,⟨bF (λp kv hq=>ox.of hq) e4,λp hp=>?_⟩];have Ay:(upd H' p (.dK (i0 [] (By signs)))) p=some (.dK (i0 [] (By signs))):=aT;have s1:aq H (upd H' p (.dK (i0 [] (By signs)))):=e1.trans (cq hp);generalize upd H' p (.dK (i0 [] (By signs)))=H1 at Ay s1 ⊢;exists Bj (xs:=ly bs) (λd i H'=>aq H1 H'/\H' d=some (.lst ((((bs.take i).map λb=>[sg b]).map dq).map V.str))) (cf.of (s1 _ _ ha)) (λd H' a1 a2 a3=>⟨a3,a2⟩) (λd i H' hd _ h=>cf.of (h.1 _ _ (s1 _ _ ha))) ?_ ?_;.rintro d2 i v H2 hd2 hv cG;rintro f1 f2:fo cG;unfold ly at hv;rw[aF] at hv;rintro b UJ rfl:bM<|Option.map_eq_some_iff.mp hv;exists WQ (DA (f1 _ _ Ay)) ?_;exists Ab (f1 _ _ Ay) ?_;rw[ZL];show jv f2 (by rw[ab,ab,ab,aM];unfold sizeLine;omega) λH3 a1 a2=>⟨aB f1 a2 hd2,?_⟩;rw[a1,bR UJ,aj,aj,aj];rfl
  .rintro d2 H2 hd2 cG;rintro f1 f2:fo cG;unfold ly at f2;rw[ab,aK] at f2;exists #[ii,dq [],d2,(bs.map λb=>[sg b]).map dq,by rw[show bo ""=dq [] by decide +kernel],rfl,#[ic,.inl (cf.of f2),?_,?_]]
   .rw[ab,ab,dJ,dJ];have:(bs.map (((λx:Str=>x.length)∘dq)∘λb=>[sg b]))=fY bs.length 1:=by
     rw[OV];show⟨ab _,λx hx=>?_⟩;rintro b _ rfl:bM<|List.mem_map.mp hx;change (dq [sg b]).length=1;rw[eC];rfl
    rw[this,List.sum_replicate_nat];rw[eC];change _+bs.length*0<=_;omega
   .rw[Wd];show k H2 (s1.trans f1)
abbrev An:cK:=top 55
def DX:aU ["line","word"] ["line"] (aG An):=jy
def D5:Sp:=λvs H Q _=>∃z:List Nat,vs=[.str (dq z)]/\KM z/\∀p H',H p=none->aq H H'->H' p=some (.lst ((kU z).map λz=>V.str (dq z)))->Q (.ref p) H'
def Ur{z:List Nat}(h:KM z):(∀q∈kU z,KM q)/\(kU z).length<=3001:=by unfold kU;show⟨λq hq=>h.cut (eO.mp hq).1,?_⟩;show aE (bK ..) (aE (sP 32 z) (by have:=h.2;omega))
def Od(F:i9 K "words_of" "words_of" An f fd)(T:eX K mg A):cQ P w K mg base gW 1 f fd ["line"] D5:=by
 exists F,DX;rintro z rfl hz k:gF h;have nd:=DX.nd;show #[ia,_,(kY (og rfl nd (dM (Gu (pv 0) hU)) (fe (own:=[("word",1)]) (by kernel_rfl)) (λ_ _ _ _ _=>(gv 1 nd)) (λ_ _ _ _ _=>(Bh (kq oa (pv 1) hU))) (λ_ _ _ _ _=>(pv 1)))),?_];dsimp only[dj];exists #[ik,_,_,rfl,rfl,rfl,by rw[eC];have:=hz.2;unfold sizeLine;omega,?_];rw[show bo " "=⟨#[32]⟩ by decide +kernel,CY];intro pl yu;have FP:(upd H pl (.lst (((bx 32 z).map dq).map V.str))) pl=some (.lst (((bx 32 z).map dq).map V.str)):=aT;have s1:aq H (upd H pl (.lst (((bx 32 z).map dq).map V.str))):=cq yu;generalize upd H pl (.lst (((bx 32 z).map dq).map V.str))=H1 at FP s1 ⊢;have O9:=sP 32 z;have hz3:=hz.2;show Bj (xs:=((bx 32 z).map dq).map V.str) (λd i H'=>aq H1 H'/\H' d=some (.lst ((((bx 32 z).take i).filter λw=>!w.isEmpty).map λz=>V.str (dq z)))) (cf.of FP) (λd H' a1 a2 a3=>⟨a3,a2⟩) (λd i H' hd _ h=>cf.of (h.1 _ _ FP)) ?_ ?_
 .rintro d i x H' hd hx cG;rintro e1 e2:fo cG;rw[aF,aF] at hx;rintro q hq rfl:bM<|Option.map_eq_some_iff.mp hx;rintro p hp rfl:bM<|Option.map_eq_some_iff.mp hq;left;have hlen:(((bx 32 z).take i).filter λw=>!w.isEmpty).length<=3001:=by
   show aE (bK ..) ?_;rw[aM];show aE (Xt ..) (by omega)
  rw[show bo ""=dq [] by decide +kernel];show j7 (λh1=>?_) (λh1=>?_)<;>left
  .show jv e2 (by rw[ab];unfold sizeLine;omega) λH2 a1 a2=>⟨aB e1 a2 hd,?_⟩;have:p.isEmpty=false:=by cases p with
    |nil=>show absurd rfl h1
    |cons=>rfl
   rw[a1,bR hp,cr,aj];simp[this]
  .show⟨e1,?_⟩;have:p=[]:=o8 h1;rw[e2,bR hp,cr,aj,this];simp
 .rintro d H' hd cG;rintro e1 e2:fo cG;rw[ab,ab,aK] at e2;show k d H' (s1.free hd) (s1.trans e1) e2
abbrev CN:cK:=top 52
def GX:aU ["numbers","number"] ["numbers"] (aG CN):=jy
def G5:Sp:=λvs H Q _=>∃(a:af)(xs:List Int),vs=[.ref a]/\H a=some (.lst (xs.map V.int))/\∀H',aq H H'->Q (.bl (decide (xs.length<=3000)&&xs.all λz=>aH z 0 255)) H'
def QB(F:i9 K "is_text" "is_text" CN f fd)(T:eX K mg A):cQ P w K mg base gW 1 f fd ["numbers"] G5:=by
 exists F,GX;rintro a xs rfl ha k:fD h;have nd:=GX.nd;show #[ia,_,(kY (QL (cmE jL (xb T.fb (pv 0)) (bG T.Du)) (QM (i3 (Yq (K:=K) rfl) rfl T.aaf boot_all (eM (og rfl nd (dM (pv 0)) (fe (own:=[("number",1)]) (by kernel_rfl)) (λ_ _ _ _ _=>(gv 1 nd)) (λ_ _ _ _ _=>jz) (λ_ _ _ _ _=>(xh jL jL aw (pv 1) aw)))))))),?_];dsimp only[dj];exists QQ ?_;exists h_ (cf.of ha) ?_;rw[ab];exists #[ia,_,rfl,?_];show cY (λh1=>?_) (λh1=>?_)
 .exists Bj (xs:=xs.map V.int) (λd i H'=>aq H H'/\H' d=some (.lst (((xs.take i).map λz=>aH z 0 255).map V.bl))) (cf.of ha) (λd H' a1 a2 a3=>⟨a3,a2⟩) (λd i H' hd _ h=>cf.of (h.1 _ _ ha)) ?_ ?_
  .rintro d i v H' hd hv cG;rintro e1 e2:fo cG;rw[aF] at hv;rintro z hz rfl:bM<|Option.map_eq_some_iff.mp hv;have hi:i<xs.length:=(ai.mp hz).1;have hw:aH z 0 255=(decide ((0:Int)<=z)&&decide (z<=255)):=rfl;have add:∀b:Bool,b=aH z 0 255->Ql d (λH'=>aq H H'/\H' d=some (.lst (((xs.take (i+1)).map λz=>aH z 0 255).map V.bl))) (.bl b) H':=by
    rintro b rfl;show jv e2 (by rw[ab,ab,aM];unfold sizeLine;omega) λH2 a1 a2=>⟨aB e1 a2 hd,?_⟩;rw[a1,bR hz,aj,aj];rfl
   exists cY (λh2=>?_) (λh2=>?_)<;>left;.show add _ (by rw[hw,decide_eq_true h2,Aq])
   .show add _ (by rw[hw,decide_eq_false h2,kZ])
  .rintro d H' hd cG;rintro e1 e2:fo cG;rw[ab,aK] at e2;exists #[ib,d,_,rfl,cf.of e2,?_];have:(decide (xs.length<=3000)&&xs.all λz=>aH z 0 255)=((xs.map λz=>aH z 0 255).all _root_.id):=by
    rw[decide_eq_true (by omega),Aq,BR];rfl
   rw[<-this];show k H' e1
 .have:(decide (xs.length<=3000)&&xs.all λz=>aH z 0 255)=false:=by rw[decide_eq_false (by omega),kZ]
  rw[<-this];show k H (aq.refl _)
abbrev uV:cK:=lK (top 6) 0
def yT:aU ["self","letter"] ["self"] (aG uV):=jy
def rT(A:dW):Sp:=λvs H Q _=>∃(x dx:af),vs=[.ref x]/\H x=some (.ins A.table dx [])/\
 ∀m l H',H m=none->H l=none->m≠l->H' x=some (.ins A.table dx [("minutes",.ref m),("trips",.ref l)])->H' m=some (.lst (ly gL.mins))->H' l=some (.lst [])->eA H H' x->Q .non H'
def IB(F:i9 K "__init__" "Table.__init__" uV f fd)(T:eX K mg A):cQ P w K mg base gW 1 f fd ["self"] (rT A):=by
 exists F,yT;rintro x dx rfl hx k:fD h;have nd:=yT.nd;show #[ia,_,(ae (cF (pv 0) (og rfl nd (afu (uP T.pE)) (fe (own:=[("letter",1)]) (by kernel_rfl)) (λ_ _ _ _ _=>(gv 1 nd)) (λ_ _ _ _ _=>jz) (λ_ _ _ _ _=>aw)) rfl) (bA (cF (pv 0) (bI jf) rfl))),?_];dsimp only[dj];left;intro la Pb;show ant (xs:=j_) (λd i H'=>aq H H'/\H' d=some (.lst (ly (fY i 0)))) (Pb _) (λd H' a1 a2 a3=>⟨a3,a2⟩) (λd i H' hd _ h=>Pb _) ?_ ?_;.rintro d i v H' hd hv cG;rintro e1 e2:fo cG;have hi:i<6:=(ai.mp hv).1;exists jv e2 (by unfold ly;rw[ab,gt];unfold sizeLine;omega) λH3 a1 a2=>⟨aB e1 a2 hd,?_⟩;rw[a1,Pk];unfold ly;rw[aj];rfl
 .rintro m H1 hm cG;rintro e1 e2:fo cG;exists dL (e1 _ _ hx) T.table λH2 h2 k2=>?_;left;have mx:m≠x:=λz=>by rw[z,hx] at hm;cases hm
  show jw λl H3 hl hl3 s3=>?_;exists dL (s3 _ _ h2) T.table λH4 h4 k4=>?_;have lx:l≠x:=λz=>by rw[z,h2] at hl;cases hl
  show k m l H4 hm ?_ ?_ h4 (k4 _ _ (s3 _ _ (k2 _ _ e2 mx)) mx) (k4 _ _ hl3 lx) (λb o e n=>k4 _ _ (s3 _ _ (k2 _ _ (e1 _ _ e) n)) n)
  .cases e:H l with
   |none=>rfl
   |some o=>rw[k2 _ _ (e1 _ _ e) lx] at hl;cases hl
  .intro z;rw[<-z,k2 _ _ e2 mx] at hl;cases hl
abbrev uS:cK:=lK (top 50) 0
def IV:aU ["self"] ["self"] (aG uS):=jy
def y_(A:dW):Sp:=λvs H Q _=>∃(x dx:af),vs=[.ref x]/\H x=some (.ins A.mD dx [])/\
 ∀ta dt m l tl H',H ta=none->H m=none->H l=none->H tl=none->m≠l->m≠tl->l≠tl->H' x=some (.ins A.mD dx [("table",.ref ta),("told",.ref tl),("has_open",.bl false)])->H' ta=some (.ins A.table dt [("minutes",.ref m),("trips",.ref l)])->H' m=some (.lst (ly gL.mins))->H' l=some (.lst [])->H' tl=some (.lst [])->eA H H' x->Q .non H'
def Iy(F:i9 K "__init__" "Draft.__init__" uS f fd)(T:eX K mg A)(Ko:MY P w K mg base 1 "Table" A.table ["self"] (rT A)):cQ P w K mg base gW 3 f fd ["self"] (y_ A):=by
 exists F,IV;rintro x dx rfl hx k:fD h;show #[ia,_,(ae (cF (pv 0) (LT Ko hr) rfl) (ae (cF (pv 0) (bI jf) rfl) (bA (cF (pv 0) JM rfl)))),?_];dsimp only[dj];exists pY λta dt H1 h1 h2 s1=>#[ib,ta,dt,rfl,h2,λm l H2 hm hl nml t2 m2 l2 k2=>⟨rfl,?_⟩];have xt:x≠ta:=λz=>by rw[<-z,hx] at h1;cases h1
 have e2:aq H H2:=λb o e=>k2 _ _ (s1 _ _ e) λz=>by rw[z,h1] at e;cases e
 exists dL (e2 _ _ hx) T.mD λH3 h3 k3=>?_;exists jw λtl H4 ht ht4 s4=>?_;exists dL (s4 _ _ h3) T.mD λH5 h5 k5=>?_;exists dL h5 T.mD λH6 h6 k6=>?_;have mx:m≠x:=λz=>by rw[z,s1 _ _ hx] at hm;cases hm
 have lx:l≠x:=λz=>by rw[z,s1 _ _ hx] at hl;cases hl
 have tx:tl≠x:=λz=>by rw[z,h3] at ht;cases ht
 have up:∀b o,H2 b=some o->b≠x->H6 b=some o:=λb o e n=>k6 _ _ (k5 _ _ (s4 _ _ (k3 _ _ e n)) n) n;have H3n:∀b o,H2 b=some o->b≠x->b≠tl:=λb o e n z=>by rw[<-z,k3 _ _ e n] at ht;cases ht
 show k ta dt m l tl H6 h1 (s1.free hm) (s1.free hl) ?_ nml (H3n _ _ m2 mx) (H3n _ _ l2 lx) h6 (up _ _ t2 (cA xt)) (up _ _ m2 mx) (up _ _ l2 lx) (k6 _ _ (k5 _ _ ht4 tx) tx) (λb o e n=>up _ _ (e2 _ _ e) n);cases e:H tl with
 |none=>rfl
 |some o=>show absurd rfl (H3n _ _ (e2 _ _ e) tx)
abbrev p8:cK:=lK (top 51) 0
def Es:aU ["self","table","fault","line"] ["self","table","fault","line"] (aG p8):=jy
def vI(A:dW):Sp:=λvs H Q _=>∃(x dx:af)(t e l:V),vs=[.ref x,t,e,l]/\H x=some (.ins A.i_ dx [])/\∀H',H' x=some (.ins A.i_ dx [("table",t),("fault",e),("line",l)])->eA H H' x->Q .non H'
def El(F:i9 K "__init__" "Reading.__init__" p8 f fd)(T:eX K mg A):cQ P w K mg base gW 1 f fd ["self","table","fault","line"] (vI A):=by exists F,Es;rintro x dx t e l rfl hx k:Wu 6 fo h;show #[ia,_,(ae (cF (pv 0) (pv 1) rfl) (ae (cF (pv 0) (pv 2) rfl) (bA (cF (pv 0) (pv 3) rfl)))),?_];dsimp only[dj];exists dL hx T.i_ λH1 h1 k1=>?_;exists dL h1 T.i_ λH2 h2 k2=>?_;exists dL h2 T.i_ λH3 h3 k3=>?_;show k H3 h3 (cZ (cZ k1 k2) k3)
abbrev ve:cK:=top 53
def y2:aU ["text","draft","lines","place","line","fault"] ["text"] (aG ve):=jy
def zf(A:dW):Sp:=λvs H Q _=>∃(a:af)(bs:List Nat),vs=[.ref a]/\H a=some (.lst (ly bs))/\bs.length<=3000/\
 (∀e p dx H',ny bs=.error e->H p=none->H' p=some (.ins A.i_ dx [("table",.non),("fault",iv e.1),("line",iv e.2)])->e.1≠0->aq H H'->Q (.ref p) H')/\
 ∀b p dx t F' H',ny bs=.ok b->H p=none->H' p=some (.ins A.i_ dx [("table",.ref t),("fault",iv 0),("line",iv 0)])->j8 A F' t b->aq F' H'->(∀b o,H b=some o->F' b=none)->aq H H'->F' p=none->Q (.ref p) H'
def TV{x:cP}{ws:List (List Nat)}{e:Nat}(h:lH x ws=.error e):e≠0:=by
 unfold lH at h;split at h;.cases h
 .split at h;.cases h
  split at h
  .unfold z5 at h;split at h;.cases h;decide
   .split at h;.cases h;decide
    .split at h;.cases h;decide
     .cases h
  split at h
  .unfold vM at h;split at h;.cases h;decide
   .split at h;.cases h;decide
    .split at h;.cases h;decide
     .cases h
  split at h
  .unfold vL at h;split at h
   .split at h;.cases h;decide
    .cases h
   .cases h;decide
  .cases h;decide
def Ls(n:Nat)(l:List Nat)(r:List (List Nat))(x:cP):i8 n (l::r) x=match lH x (kU l) with
 |.error e=>.error (e,n)
 |.ok y=>i8 (n+1) r y:=by
 change (match E5 x l with
  |.error e=>XZ (e,n)
  |.ok y=>i8 (n+1) r y)=_
 rw[NQ]
def Uf{x y:cP}{ws:List (List Nat)}(h:lH x ws=.ok y):y.told.length<=x.told.length+1:=by
 unfold lH at h;split at h;.cases h;omega
 .split at h;.cases h;omega
  split at h
  .unfold z5 at h;split at h;.cases h
   .split at h;.cases h
    .split at h;.cases h
     .cases h;change (_::x.told).length<=_;rw[aP];omega
  split at h
  .unfold vM at h;split at h;.cases h
   .split at h;.cases h
    .split at h;.cases h
     .cases h;change x.told.length<=_;omega
  split at h
  .unfold vL at h;split at h
   .split at h;.cases h
    .cases h;change x.told.length<=_;omega
   .cases h
  .cases h
def ZK{bs:List Nat}(h:bs.length<=3000):KM (kh bs):=by show⟨λc hc=>?_,by rw[Mf];show h⟩;rintro b _ rfl:bM<|List.mem_map.mp hc;show ago b
def IO(F:i9 K "read_table" "read_table" ve f fd)(T:eX K mg A)(Yc:MY P w K mg base 3 "Draft" A.mD ["self"] (y_ A))(B1:MY P w K mg base 1 "Reading" A.i_ ["self","table","fault","line"] (vI A))(zy:fP P w K mg base 1 "signs_of" ["text"] D4)(zA:fP P w K mg base 1 "words_of" ["line"] D5)(wn:fP P w K mg base 6 "read_line" ["draft","words"] (qK A (λ_=>True) lH)):cQ P w K mg base gW 7 f fd ["text"] (zf A):=by
 exists F,y2;rintro a bs rfl ha hb ke ks:lA 5 fo h;have nd:=y2.nd;show #[ia,_,(ae (sv 1 nd (LT Yc hr)) (ae (sv 2 nd (Gu (bC zy hr (eM (pv 0))) hU)) (ae (fR bj rfl (yh rfl T.kz (eM (pv 2))) (xi rfl (iE (gv 3 nd) (iE (gv 4 nd) qI))) (ae (sv 5 nd (bC wn hr (mz (pv 1) (bC zA hr (eM (pv 4)))))) (bA (kW (kq oa (pv 5) (bG T.kD)) (tu B1 hr (qu ju (pv 5) (fB iI (pv 3) aw))))))) (ae (kW (fF (du 1)) (tu B1 hr (qu ju (bG T.wI) (fB iI (xb T.fb (pv 2)) aw)))) (kY (tu B1 hr (qu (du 1) (bG T.kD) aw))))))),?_];dsimp only[dj];rw[<-OL] at ke ks;have aev:=ZK hb;unfold ny at ke ks;exists pY λd dx H1 h1 h2 s1=>#[ib,d,dx,rfl,h2,λta dt m l tl H2 XQ hm hl htl n1 n2 n3 d2 t2 m2 l2 tl2 k2=>⟨rfl,?_⟩];have e2:aq H H2:=λb o e=>k2 _ _ (s1 _ _ e) λz=>by rw[z,h1] at e;cases e
 exists #[ib,a,bs,rfl,e2 _ _ ha,⟨hb,λH3 s3=>?_⟩];exists #[ik,_,_,rfl,rfl,rfl,by rw[eC];have:=aev.2;unfold sizeLine;omega,?_];rw[show bo "\n"=⟨#[10]⟩ by decide +kernel,CY];intro pl yu;have FP:(upd H3 pl (.lst (((bx 10 (kh bs)).map dq).map V.str))) pl=some (.lst (((bx 10 (kh bs)).map dq).map V.str)):=aT;have s4:aq H3 (upd H3 pl (.lst (((bx 10 (kh bs)).map dq).map V.str))):=cq yu;generalize upd H3 pl (.lst (((bx 10 (kh bs)).map dq).map V.str))=H4 at FP s4 ⊢;have hwc:∀z∈bx 10 (kh bs),KM z:=λz hz=>aev.cut hz;have hcc:=sP 10 (kh bs);have hw3:=aev.2;generalize bx 10 (kh bs)=ls at *;have np:∀b o,H3 b=some o->b≠pl:=λb o e z=>by rw[z,yu] at e;cases e
 have up:∀b o,H2 b=some o->H4 b=some o:=λb o e=>s4 _ _ (s3 _ _ e);have e4:aq H H4:=(e2.trans s3).trans s4;have hF:aq H (Fz H H4 [ta,pl]):=Fz.sub e4;have Qv:∀{b o},H2 b=some o->b≠ta->b∉[ta,pl]:=λ{b o}e n z=>by
  simp only[aD,cR,or_false] at z;rcases z with z|z;.show n z
  .show np _ _ (s3 _ _ e) z
 have hD0:DrX A H (Fz H H4 [ta,pl]) H4 d { table:=gL,hand:=none,told:=[] }:=by show #[iw,dx,ta,dt,m,l,tl,[],[],?_];show⟨up _ _ d2,hF,qG (s1.free XQ) (Fz.get (by simp) (up _ _ t2)),up _ _ m2,up _ _ l2,up _ _ tl2,.nil,rfl,Fz.same e4,Fz.no (Qv d2 ?_) h1,Fz.no (Qv m2 (oy m2 t2)) (s1.free hm),Fz.no (Qv l2 (oy l2 t2)) (s1.free hl),Fz.no (Qv tl2 (oy tl2 t2)) (s1.free htl),n1,n2,n3⟩;intro z;rw[<-z,h2] at XQ;cases XQ
 have MC:Fz H H4 [ta,pl] pl=some (.lst ((ls.map dq).map V.str)):=Fz.get (by simp) FP;generalize Fz H H4 [ta,pl]=F0 at hF hD0 MC;exists Sx (xs:=(ls.map dq).map V.str) (λi σ' H'=>∃u v w F' x',σ'=[some (.ref a),some (.ref d),some (.ref pl),u,v,w]/\DrX A H F' H' d x'/\aq F0 F'/\RI x'/\x'.told.length<=i/\i8 1 ls { table:=gL,hand:=none,told:=[] }=i8 (1+i) (ls.drop i) x') (cf.of FP) #[ig,none,none,none,F0,_,#[ip,rfl,hD0,aq.refl _,RI.start,aA _,rfl]] ?_ ?_ ?_;.rintro i σ' H' _ cG;rintro u v w F' x' rfl ⟨_,_,_,_,_,_,_,_,h⟩ sF _:Wu 6 lB cG;show cf.of (h.sf _ _ (sF _ _ MC))
 .rintro i y σ' H' H5 hy cG s5;rintro u v w F' x' rfl ⟨dd,ta',dt',m',l',tl',as,hs,h⟩ sF ri hto hE:DL 9 fo cG;rw[aF,aF] at hy;rintro q hq rfl:bM<|Option.map_eq_some_iff.mp hy;rintro line n9 rfl:bM<|Option.map_eq_some_iff.mp hq;have FR:=hwc line (aZ n9);have VZ:i<ls.length:=(ai.mp n9).1;exists #[ie,line,rfl,FR,λwp H6 hwp s6 au9=>?_];left;have sA:aq H' H6:=s5.trans s6;have hD6:=h.fz (S:=[wp]) sA (λb hb=>by rw[aX] at hb;rw[hb];show s5.free hwp);have sF6:aq F' (Fz F' H6 [wp]):=Fz.sub (h.sf.trans sA);rintro w1 w2:fo<|Ur FR;have VT:ls.drop i=line::ls.drop (i+1):=by
   rw[eW VZ];congr 1;show (ai.mp n9).2
  rw[VT,Ls] at hE;show #[iy,d,wp,H,_,#[ik,x',kU line,rfl,#[iw,_,_,_,_,_,_,_,_,hD6],#[ic,Fz.get (by simp) au9,w1,w2],ri,#[ij,by omega,trivial,λe H7 he s7=>?_,λy F7 H7 he hD7 s7=>?_]]]
  .have he0:=TV he;left;rw[if_pos (by simp;omega)];exists pY λp dp H8 g1 g2 g3=>#[ig,p,dp,_,_,_,#[ic,rfl,g2,λH9 g4 k9=>⟨rfl,?_⟩]];rw[he] at hE;have sH7:aq H H7:=hF.trans ((sF.trans sF6).trans s7);show ke _ p dp H9 hE (sH7.free g1) ?_ he0 (aB (sH7.trans g3) k9 (sH7.free g1));rw[g4];congr 4;congr 2;congr 1;try rw[ab,ab]
   change _=((1+_:Nat):Int);omega
  .left;rw[he] at hE;show #[ig,_,_,_,F7,y,#[ip,rfl,hD7,(sF.trans sF6).trans s7,ri.line he,?_,?_]];.have:=Uf he;omega
   .rw[hE,Mv]
 .rintro σ' H' cG;rintro u v w F' x' rfl ⟨dd,ta',dt',m',l',tl',as,hs,h⟩ sF ri hto hE:DL 9 fo cG;rw[ab,ab] at hE hto;rw[eS (aA _)] at hE;have sH:aq H H':=(hF.trans sF).trans h.sf;left;first|show nR T h.dr ?_|show lF T h.dr ?_
  left;have hop:Ww x'.hand=!oV x'.hand:=by rw[ri.whole];cases x'.hand<;>rfl
  rw[hop];have hE':i8 1 ls { table:=gL,hand:=none,told:=[] }=if oV x'.hand=true then .ok (eF x') else .error (4,1+ls.length):=hE;show oj (λg1=>?_) (λg1=>?_)<;>left
  .show h_ (cf.of (h.sf _ _ (sF _ _ MC))) ?_;exists pY λp dp H8 q1 q2 q3=>#[ig,p,dp,_,_,_,#[ic,rfl,q2,λH9 q4 k9=>⟨rfl,?_⟩]];rw[if_neg (by rw[g1];decide)] at hE';show ke _ p dp H9 hE' (sH.free q1) ?_ (λz=>by cases z) (aB (sH.trans q3) k9 (sH.free q1));rw[q4];congr 4;congr 2;congr 1;try rw[ab,ab]
   change _=((1+_:Nat):Int);omega
  .first|show nR T h.dr ?_|show lF T h.dr ?_
   exists pY λp dp H8 q1 q2 q3=>#[ig,p,dp,_,_,_,#[ic,rfl,q2,λH9 q4 k9=>⟨rfl,?_⟩]];rw[if_pos g1] at hE';rintro F1 f1 f2 f3 _ _ _ _:Ix 5 lB h.stow;have sz0:aq F1 (Fz F1 H' [m',l']):=Fz.sub f2;have sz:=j2 (H0:=H) sz0;have sl2:aq (NW (Fz F1 H' [m',l']) H) H':=uL.trans (Fz.same f2);have Tv:(eF x').mins=x'.table.mins:=by unfold eF;cases x'.hand<;>rfl
   have YH:NW (Fz F1 H' [m',l']) H p=none:=sl2.free q1;have hm0:H m'=none:=h.h0.free h.fm;have hl0:H l'=none:=h.h0.free h.fl;show ks _ p dp ta' (NW (Fz F1 H' [m',l']) H) H9 hE' (sH.free q1) ?_ #[ii,dt',m',l',j2 (f1.trans sz0) _ _ h.tb,?_,#[ia,as++hs,qG hl0 (Fz.get (by simp) h.tr),bF (λ_ _ q=>q.mono sz) f3]] (aB (sl2.trans q3) k9 YH) (λb o e=>by unfold NW;rw[if_neg (by rw[e];simp)]) (aB (sH.trans q3) k9 (sH.free q1)) YH;.rw[q4];rfl
   .rw[Tv];show qG hm0 (Fz.get (by simp) h.mi)
end
end TT
end
namespace TT
open Vbpoaf in
def mV(t:ax):er:=text "TRIP "++(decimal t.no++((if t.days=allDays then [] else text " D="++((ay 7).filter λd=>t.days.getD d false).map λd=>48+d)++
 ((if t.first=0/\t.last=gT then [] else text " V="++(decimal t.first++(45::decimal t.last)))++
 (text " CAP "++(decimal (t.room.getD 0 0)++(32::(decimal (t.room.getD 1 0)++(text " CUT "++decimal t.cut))))))))
def fM(t:ax):List (List Nat):=t.stops.zipIdx.map λx=>sE t.stops.length x.2 x.1
def o_(t:ax):fI t=mV t::fM t:=rfl
def EM(m i:Nat):List Nat:=bO "MIN "++([65+i,32]++dG m)
def d5(ms:List (Nat×Nat)):List (List Nat):=(ms.filter λm=>m.1 != 0).map λm=>EM m.1 m.2
def OD(x:eT):oU x=dO [10] (d5 x.mins.zipIdx++x.trips.flatMap fI):=rfl
def AX(t:ax):List Nat:=bO "D="++(iZ t.days).map λd=>48+d
def oq(t:ax):List Nat:=bO "V="++(dG t.first++(45::dG t.last))
def w1(t:ax):List (List Nat):=[bO "TRIP",dG t.no]
def w2(t:ax):List (List Nat):=w1 t++if t.days=gU then [] else [AX t]
def w3(t:ax):List (List Nat):=w2 t++if t.first=0/\t.last=13 then [] else [oq t]
def w4(t:ax):List (List Nat):=w3 t++[bO "CAP",dG (t.room.getD 0 0),dG (t.room.getD 1 0),bO "CUT",dG t.cut]
def wx(sep w v:List Nat)(r:List (List Nat)):dO sep (w::v::r)=w++(sep++dO sep (v::r)):=rfl
def EG(sep w:List Nat):dO sep [w]=w:=rfl
def D9(t:ax):dO [32] (w4 t)=mV t:=by
 have e1:bO "TRIP "=bO "TRIP"++[32]:=by decide +kernel
 have e2:bO " D="=32::bO "D=":=by decide +kernel
 have e3:bO " V="=32::bO "V=":=by decide +kernel
 have e4:bO " CAP "=32::(bO "CAP"++[32]):=by decide +kernel
 have e5:bO " CUT "=32::(bO "CUT"++[32]):=by decide +kernel
 unfold w4 w3 w2 w1 mV;rw[e1,e2,e3,e4,e5];change _=_++[32]++(_++((if t.days=gU then [] else 32::bO "D="++(iZ t.days).map λd=>48+d)++((if t.first=0/\t.last=13 then [] else _)++_)));by_cases h1:t.days=gU<;>by_cases h2:t.first=0/\t.last=13;.rw[if_pos h1,if_pos h2,if_pos h1,if_pos h2];simp[wx,EG]
 .rw[if_pos h1,if_neg h2,if_pos h1,if_neg h2];simp[wx,EG,oq]
 .rw[if_neg h1,if_pos h2,if_neg h1,if_pos h2];simp[wx,EG,AX]
 .rw[if_neg h1,if_neg h2,if_neg h1,if_neg h2];simp[wx,EG,AX,oq]
def amn{l:List Bool}(h:l.length=7):∃a b c d e f g,l=[a,b,c,d,e,f,g]:=by rcases l with _|⟨a,_|⟨b,_|⟨c,_|⟨d,_|⟨e,_|⟨f,_|⟨g,_|⟨z,r⟩⟩⟩⟩⟩⟩⟩⟩<;>simp at h;show #[ig,a,b,c,d,e,#[ir,f,g,rfl]]
def AW(ds:List Bool):Ey:=.list ((iZ ds).map λn=>.int (n:Nat))
def Fo{ds:List Bool}(h:ds.length=7):vt (AW ds)=true:=by rintro a b c d e f g rfl:EN 6 bW<|amn h;cases a<;>cases b<;>cases c<;>cases d<;>cases e<;>cases f<;>cases g<;>rfl
def Vw{ds:List Bool}(h:ds.length=7):zm (AW ds) (AW gU)=decide (ds=gU):=by rintro a b c d e f g rfl:EN 6 bW<|amn h;cases a<;>cases b<;>cases c<;>cases d<;>cases e<;>cases f<;>cases g<;>rfl
def VA{K:ad}{H:Hp}{a:af}{l:List Nat}(h:cf K H a (ly l)):Dp K H (.ref a) (.list (l.map λn=>.int (n:Nat))):=by
 show .lst h ?_;clear h;induction l with
 |nil=>show .nil
 |cons n l ih=>show .cons (.int _) ih
section
variable{σ:L2.St}{H:Hp}{Q:VK}{u:Str->TF}{t:TF}{te:TE}{a b:List Nat}{q:Str->Hp->Prop}
def kFZ(Q:VK)(z:Str)(H:Hp):Prop:=z.length<=sizeLine/\Q (.str z) H
def kFC(u:Str->TF)(acc:Str)(σ:L2.St)(q:Str->Hp->Prop)(z:Str)(H:Hp):Prop:=(acc++z).length<=sizeLine/\u (acc++z) σ H q
def kFI(q:Str->Hp->Prop)(v:V)(H:Hp):Prop:=∃a:Int,v=.int a/\a.natAbs.log2<1920/\q (BP a) H
def kFS(q:Str->Hp->Prop)(v:V)(H:Hp):Prop:=∃a:Str,v=.str a/\a.length<=sizeLine/\q a H
def af4(h:u (dq []) σ H (kFZ Q)):abw u σ H Q:=h
def Zz{acc:Str}(h:t σ H (kFC u acc σ q)):Xf t u acc σ H q:=h
def af3{acc:Str}(h:q acc H):abu acc σ H q:=h
def af2{z:Str}(h:q z H):abt z σ H q:=h
def awr(h:te σ H (kFI q)):abr te σ H q:=h
def aws(h:te σ H (kFS q)):abv te σ H q:=h
def Ov(hl:a.length<=3000)(h:Q (.str (dq a)) H):kFZ Q (dq a) H:=⟨by rw[eC];show Ba hl,h⟩
def mM(hl:(a++b).length<=3000)(h:u (dq (a++b)) σ H q):kFC u (dq a) σ q (dq b) H:=by unfold kFC;rw[SH];show⟨by rw[eC];show Ba hl,h⟩
def Ot{n:Nat}(hn:n<10 ^ 10)(h:q (dq (dG n)) H):kFI q (iv n) H:=#[ie,_,rfl,kt hn,by rw[show ((BP ((n:Nat):Int):String):Str)=bo (BP ((n:Nat):Int)) from rfl,nV];show h]
def Ou(hl:a.length<=3000)(h:q (dq a) H):kFS q (.str (dq a)) H:=#[ie,_,rfl,by rw[eC];show Ba hl,h]
end
def Xo{α:Type}{l:List α}{i:Nat}{x:α}(h:l[i]? = some x):l.zipIdx[i]? = some (x,i):=by rw[List.getElem?_zipIdx,h];simp
def nP{n:Nat}(h:n<=9999):(dG n).length<=10:=Nj (by omega)
def BF(n:Nat):(iQ n).length=4:=rfl
def W9(n k:Nat)(s:eE):(sE n k s).length<=11:=by unfold sE;by_cases h1:k=0<;>by_cases h2:k+1=n<;>simp[h1,h2,BF]<;>split<;>simp[BF]
def Ju(ds:List Bool):(iZ ds).length<=7:=by unfold iZ;have:=bK (λd=>ds.getD d false) (ay 7);rw[bQ] at this;show this
def Nh(t:ax):(AX t).length<=9:=by
 unfold AX;rw[ap,ab];have:=Ju t.days;have:(bO "D=").length=2:=by decide +kernel
 omega
def Mj{t:ax}(h:t.last<=13)(h2:t.first<=t.last):(oq t).length<=23:=by
 unfold oq;rw[ap,ap,aP];have h1:=nP (n:=t.first) (by omega);have h2:=nP (n:=t.last) (by omega);have:(bO "V=").length=2:=by decide +kernel
 omega
def Xn{t:ax}(h:qW t)(hb:TB t):(w4 t).length<=9/\∀w∈w4 t,w.length<=23:=by
 rintro a b hr:UT h.room;have ha:=hb.room a (by rw[hr];simp);have hbb:=hb.room b (by rw[hr];simp);have hd:(w2 t).length<=3/\∀w∈w2 t,w.length<=23:=by
  unfold w2 w1;show⟨by split<;>simp,λw hw=>?_⟩;rcases br.mp hw with hw|hw
  .simp only[aD,cR,or_false] at hw;rcases hw with rfl|rfl
   .have:(bO "TRIP").length=4:=by decide +kernel
    omega
   .have:=nP hb.no;omega
  .split at hw;.cases hw
   .cases aX.mp hw;have:=Nh t;omega
 have hs:(w3 t).length<=4/\∀w∈w3 t,w.length<=23:=by
  unfold w3;show⟨by rw[ap];split<;>simp<;>omega,λw hw=>?_⟩;rcases br.mp hw with hw|hw;.show hd.2 w hw
  .split at hw;.cases hw
   .cases aX.mp hw;show Mj h.last hb.first
 unfold w4;show⟨by rw[ap];simp;omega,λw hw=>?_⟩;rcases br.mp hw with hw|hw;.show hs.2 w hw
 .rw[hr] at hw;simp only[aD,cR,or_false] at hw;have c1:(bO "CAP").length=3:=by decide +kernel
  have c2:(bO "CUT").length=3:=by decide +kernel
  rcases hw with rfl|rfl|rfl|rfl|rfl;.omega
  .have:=nP (n:=a) (by omega);change (dG a).length<=23;omega
  .have:=nP (n:=b) (by omega);change (dG b).length<=23;omega
  .omega
  .have:=nP (n:=t.cut) (by have:=hb.cut;omega);omega
theorem wy(sep:List Nat){c:Nat}:∀ls:List (List Nat),(∀w∈ls,w.length<=c)->(dO sep ls).length<=ls.length*(c+sep.length)
 |[],_=>by simp[dO]
 |[w],h=>by have:=h w (by simp);simp[dO];omega
 |w::v::r,h=>by
  have h1:=h w (by simp);have h2:=wy sep (v::r) λx hx=>h x (au _ hx);rw[wx,ap,ap,aP,OY];omega
def Mp{t:ax}(h:qW t)(hb:TB t):(mV t).length<=216:=by rw[<-D9];rintro h1 h2:fo<|Xn h hb;have:=wy [32] (w4 t) h2;rw[ci] at this;omega
theorem W_{c:Nat}:∀ls:List Nat,(∀w∈ls,w<=c)->ls.sum<=ls.length*c
 |[],_=>by simp
 |w::r,h=>by
  have h1:=h w (by simp);have h2:=W_ r λx hx=>h x (au _ hx);rw[List.sum_cons,aP,OY];omega
def Ll{c n:Nat}{ls:List (List Nat)}{sep:List Nat}(h1:ls.length<=n)(h2:∀w∈ls,w.length<=c)(h3:n*(c+sep.length)<=16777216):((ls.map dq).map (·.length)).sum+(ls.map dq).length*(dq sep).length<=16777216:=by
 rw[dJ,ab,eC];have h4:=W_ (c:=c) (ls.map ((λx:Str=>x.length)∘dq)) λk hk=>by
  rintro w hw rfl:bM<|List.mem_map.mp hk;change (dq w).length<=c;rw[eC];show h2 w hw
 rw[ab] at h4;have h5:ls.length*(c+sep.length)<=n*(c+sep.length):=gX _ h1;rw[Nat.mul_add] at h5;omega
end TT
section
namespace TT
open Vbpoaf
def E8(rs:List bZ)(l:List cn):Prop:=∀(o:Nat)(x:Nat×List dP),(l[o]?).join=some x->∀g∈x.2,∃r∈rs,r.leg=g
def VF{rs:List bZ}{old new:List cn}{r:bZ}(hr:r∈rs)(h1:E8 rs old)(h2:E8 rs new):E8 rs (cO old new r):=by
 unfold cO;cases e:(old[r.from_]?).join with
 |none=>show h2
 |some x=>
  change E8 rs (if r.by_<(x.1:Int) then new else _);split;.show h2
  .have hs:E8 rs (new.set r.to_ (some (r.ready,x.2++[r.leg]))):=by
    intro o y hy;by_cases hl:r.to_<new.length
    .rw[qf hl] at hy;split at hy
     .cases hy;intro g hg;rcases br.mp hg with hg|hg
      .show h1 _ _ e g hg
      .cases aX.mp hg;show #[ia,r,hr,rfl]
     .show h2 o y hy
    .rw[su (by omega)] at hy;show h2 o y hy
   split;.show hs
   .split;.show hs
    .show h2
theorem Jw{rs:List bZ}{old:List cn}(h1:E8 rs old):∀(l:List bZ)(new:List cn),(∀r∈l,r∈rs)->E8 rs new->E8 rs (l.foldl (cO old) new)
 |[],new,_,h=>h
 |r::l,new,hl,h=>by rw[iD];show Jw h1 l _ (λx hx=>hl x (au _ hx)) (VF (hl r (aJ ..)) h1 h)
theorem wH{rs:List bZ}{l:List cn}(h:E8 rs l):∀n,E8 rs (cB rs n l)
 |0=>h
 |n+1=>by
  rw[mj];show Jw (wH h n) rs _ (λ_ h=>h) (wH h n)
def P6(rs:List bZ)(o t:Nat):E8 rs (dY o t):=by intro q x h g hg;have:=xU o t q x h;have:x.2=[]:=jF.mp (by omega);rw[this] at hg;cases hg
def HY{rs:List bZ}{o t q:Nat}{x:Nat×List dP}(h:dQ rs o t q=some x):∀g∈x.2,∃r∈rs,r.leg=g:=wH (P6 rs o t) 5 q x h
def T7{W:ah}(r:bZ)(h:r∈rides W):∃t,cI W r.leg.trip=some t/\goes W t r.leg.day=true/\r.leg.i<r.leg.j/\r.leg.j<t.stops.length:=by
 rw[GJ] at h;rintro k _ h:bM<|List.mem_flatMap.mp h;unfold pZ at h;cases ht:cI W k with
 |none=>rw[ht] at h;cases h
 |some t=>
  rw[ht] at h;rintro d _ h:bM<|List.mem_flatMap.mp h;unfold nJ at h;split at h;.rename_i hg;rintro g hgm rfl:bM<|List.mem_map.mp h;rintro e1 e2 e3 e4:Cz<|FV hgm;show #[ie,t,by change cI W g.trip=some t;rw[e1];show ht,by change goes W t g.day=true;rw[e2];show hg,⟨e3,e4⟩]
  .cases h
def Qn{S:aO}{x:Load}{y:Nat×List dP}(h:eI S x=some y):∀g∈y.2,∃r∈rides S.world,r.leg=g:=by
 have gen:∀(rs:List bZ)(l:List Load)(L:eR)(p:Load×cn)(y:Nat×List dP),p∈jt S rs L l->p.2=some y->∀g∈y.2,∃r∈rs,r.leg=g:=by
  intro rs l;induction l with
  |nil=>intro L p y hp;simp[jt] at hp
  |cons a l ih=>
   intro L p y hp hy;rw[oX] at hp;rcases aD.mp hp with rfl|hp
   .intro g hg;rintro r hr e:bM<|HY hy g hg
    show #[ia,r,(eO.mp hr).1,e]
   .show ih _ p y hp hy
 unfold eI XA at h;cases e:(pK S).find? λz=>z.1.id==x.id with
 |none=>rw[e] at h;cases h
 |some p=>rw[e] at h;intro g hg;rintro r hr e2:bM<|gen _ _ _ p y (qQ e) h g hg;show #[ia,r,(eO.mp hr).1,e2]
def Ri{l:List ajl}{p q:ajl->Bool}(h:∀x,p x=true->q x=true):total ((l.filter p).map λx=>x.minutes)<=total ((l.filter q).map λx=>x.minutes):=by
 induction l with
 |nil=>show aA _
 |cons x l ih=>
  rw[cz,cz];cases hp:p x with
  |true=>rw[h x hp];show pI ih _
  |false=>
   cases hq:q x with
   |true=>show aE ih (Nat.le_add_left _ _)
   |false=>simpa using ih
def Np{W:ah}{t:ax}(o:qW t){d i j:Nat}(hij:i<=j)(hj:j<t.stops.length):bE W t d i<=bE W t d j:=by
 unfold bE;have h1:((t.stops[i]?).map λs=>s.dep).getD 0<=((t.stops[j]?).map λs=>s.dep).getD 0:=by
  rcases OW i j with h|h;.rw[bb (by omega),bb hj];change t.stops[i].dep<=t.stops[j].dep;have h1:=Jf.mp o.up i j (by omega) hj h;have h2:=(o.off t.stops[j] (tX hj)).2.1;omega
  .have:i=j:=by omega
   rw[this];show aA _
 have h2:vT W t d (λk=>decide (k<=i))<=vT W t d (λk=>decide (k<=j)):=by unfold vT;show Ri λx hx=>?_;simp only[ak,decide_eq_true_eq] at hx ⊢;show #[ic,hx.1,hx.2.1,by omega]
 omega
structure S3(b:eT):Prop where
 mins:∀m∈b.mins,m<=999
 trips:∀t∈b.trips,TB t
structure Px(n:Nat)(S:aO):Prop where
 so:SOk n S
 off:S.world.off.length<=n
 Nn:S.world.delays.length<=40
 tab:S3 S.world.table
theorem ED.empty:ED gL:=⟨rfl,by decide,(by intro t ht;cases ht),by simp[gL]⟩
theorem S3.empty:S3 gL:=⟨by intro m hm;have:m=0:=lR hm;omega,by intro t ht;cases ht⟩
theorem Px.start(n:Nat)(h:n<=2000):Px n mC:=⟨⟨ED.empty,bV _,by simp[mC],(by intro x hx;cases hx),h⟩,bV _,bV _,S3.empty⟩
def Px.up{n m:Nat}{S:aO}(h:Px n S)(hm:n<=m)(h2:m<=2000):Px m S:=
 ⟨⟨h.so.tok,h.so.Mo,h.so.ids,λx hx=>let l:=h.so.ld x hx;⟨l.kind,l.from_,l.to_,l.legs,aE l.many hm⟩,h2⟩,aE h.off hm,h.Nn,h.tab⟩
def ND{W:ah}{t:ax}{d no e:Nat}(h:goes W t d=true)(hn:¬(t.no=no/\d=e)):goes { W with off:=W.off++[(no,e)] } t d=true:=by
 unfold goes at h ⊢;simp only[ak,r9,Pg,decide_eq_false_iff_not] at h ⊢;show⟨h.1,λz=>?_⟩;rcases br.mp z with z|z;.show h.2 z
 .have:=aX.mp z;cases this;show hn ⟨rfl,rfl⟩
def Th{W:ah}{t u:ax}{d e i m k:Nat}(h:¬(t.no=u.no/\d=e/\i<=k)):bE { W with delays:=W.delays++[{ no:=t.no,day:=d,at_:=i,minutes:=m }] } u e k=bE W u e k:=by
 unfold bE vT;change DAY*e+_+total (((W.delays++[_]).filter _).map _)=_;rw[cr,aj,pH,cz,eN,if_neg];.rfl
 .intro z;simp only[ak,beq_iff_eq,decide_eq_true_eq] at z;show h #[ic,z.1,z.2.1,z.2.2]
theorem Px.step{n:Nat}{S:aO}(h:Px n S)(hn:n+5<=2000)(c:Call):Px (n+5) (az S c).1:=by
 have same:Px (n+5) S:=h.up (by omega) hn;cases c with
 |clear=>show Px.start _ hn
 |table t=>
  unfold az;dsimp only;split;.show same
  .rename_i hl;split;.show same
   .split;.show same
    .rename_i b x hx;rintro h1 h2 h3:lB<|G_ hx;have Lf:S.loads=[]:=by
      cases hq:S.loads with
      |nil=>rfl
      |cons a l=>rw[hq] at hl;show absurd rfl hl
     show⟨⟨h1,h.so.Mo,h.so.ids,(by intro x hx;rw[show ({ S with world:=_ }:aO).loads=S.loads from rfl,Lf] at hx;cases hx),hn⟩,bV _,bV _,⟨h2,h3⟩⟩
 |show_=>show same
 |cancel no d=>
  unfold az dC;dsimp only;cases hr:jN S.world no d with
  |none=>show same
  |some x=>
   obtain⟨j,t⟩:=x;dsimp only;split;.show same
   .rename_i hd;show⟨⟨h.so.tok,h.so.Mo,h.so.ids,λx hx=>?_,hn⟩,?_,h.Nn,h.tab⟩
    .have l:=h.so.ld x hx;show⟨l.kind,l.from_,l.to_,λg hg=>?_,by have:=l.many;omega⟩;rintro u h1 h2 h3 h4 h5:Ix<|(l.legs g hg).ex;show⟨u,h1,ND h2 λz=>?_,h3,h4,h5⟩;rcases mU S.world no with⟨e,_⟩|⟨k,t2,e1,e2,e3⟩;.unfold jN at hr;rw[e] at hr;cases hr
     .have MA:cI S.world j=some t:=by
       unfold jN at hr;rw[e3] at hr;dsimp only at hr;split at hr;.cases hr;show e1
       .cases hr
      have hk:=uM h.so.tok h1 MA z.1;rw[hk] at h1;have hut:u=t:=by have:cI S.world j=some u:=h1;rw[MA] at this;show (bp this).symm
      subst hut;have:=Np (W:=S.world) (d:=d.toNat) (h.so.tok.ok u (gl MA)) (bV g.i) (by omega);rw[z.2] at h5;show hd (by omega)
    .change (S.world.off++[_]).length<=n+5;rw[ap,ci];have:=h.off;omega
 |delay no d i m=>
  unfold az dC;dsimp only;cases hr:jN S.world no d with
  |none=>show same
  |some x=>
   obtain⟨j,t⟩:=x;dsimp only;split;.show same
   split;.show same
   rename_i hd;split;.show same
   rename_i h40;show⟨⟨h.so.tok,h.so.Mo,h.so.ids,λx hx=>?_,hn⟩,aE h.off (by omega),?_,h.tab⟩
   .have l:=h.so.ld x hx;show⟨l.kind,l.from_,l.to_,λg hg=>?_,by have:=l.many;omega⟩;rintro u h1 h2 h3 h4 h5:Ix<|(l.legs g hg).ex;show⟨u,h1,h2,h3,h4,?_⟩;change bE _ u g.day g.i<S.now;rw[Th];.show h5
    .intro z;rcases mU S.world no with⟨e,_⟩|⟨k,t2,e1,e2,e3⟩
     .unfold jN at hr;rw[e] at hr;cases hr
     .have MA:cI S.world j=some t:=by
       unfold jN at hr;rw[e3] at hr;dsimp only at hr;split at hr;.cases hr;show e1
       .cases hr
      have hk:=uM h.so.tok h1 MA z.1.symm;rw[hk] at h1;have hut:u=t:=by have:cI S.world j=some u:=h1;rw[MA] at this;show (bp this).symm
      subst hut;have:=Np (W:=S.world) (d:=d.toNat) (h.so.tok.ok u (gl MA)) z.2.2 (by omega);rw[<-z.2.1] at h5;show hd (by omega)
   .change (S.world.delays++[_]).length<=40;rw[ap,ci];have:S.world.delays.length<40:=Xs h40;omega
 |time t=>
  unfold az;dsimp only;split;.show same
  split;.show same
  rename_i h1 h2;have ht:S.now<=t.toNat:=by omega
  have ad6:(onTo S t.toNat).loads=S.loads.map λx=>{ x with begun:=x.begun++(match eI S x with
   |none=>[]
   |some y=>y.2.filter (dI S.world t.toNat)) }:=by
   unfold onTo;change S.loads.map _=_;apply cJ;intro x _;change (match eI S x with
    |none=>x
    |some y=>{ x with begun:=x.begun++y.2.filter (dI S.world t.toNat) })=_
   cases eI S x with
   |none=>simp
   |some y=>rfl
  show⟨⟨h.so.tok,?_,?_,?_,hn⟩,aE h.off (by omega),h.Nn,h.tab⟩;.change (onTo S t.toNat).loads.length<=10;rw[ad6,ab];show h.so.Mo
  .change ((onTo S t.toNat).loads.map λx=>x.id).Nodup;rw[ad6,dJ];show h.so.ids
  .change ∀x∈(onTo S t.toNat).loads,Pw S.world t.toNat (n+5) x;rw[ad6];intro y hy;rintro x hx rfl:bM<|List.mem_map.mp hy;have l:=h.so.ld x hx;show⟨l.kind,l.from_,l.to_,λg hg=>?_,?_⟩
   .rcases br.mp hg with hg|hg;.rintro u q1 q2 q3 q4 q5:Ix<|(l.legs g hg).ex;show⟨u,q1,q2,q3,q4,by omega⟩
    .cases hl:eI S x with
     |none=>rw[hl] at hg;cases hg
     |some y=>rw[hl] at hg;rintro hg1 hg2:fo<|List.mem_filter.mp hg;rintro r hr rfl:bM<|Qn hl g hg1;rintro u q1 q2 q3 q4:gF 3 fo<|T7 r hr;show⟨u,q1,q2,q3,q4,?_⟩;unfold dI at hg2;rw[q1] at hg2;show of_decide_eq_true hg2
   .change (x.begun++_).length<=n+5;rw[ap];have:=l.many;cases hl:eI S x with
    |none=>simp;omega
    |some y=>have h5:=mh hl;have:=bK (dI S.world t.toNat) y.2;dsimp only;omega
 |earliest o t q=>
  unfold az;dsimp only;split;.show same
  .unfold S0;split<;>show same
 |bests o t q=>unfold az;dsimp only;split<;>show same
 |latest o q t=>
  unfold az;dsimp only;split;.show same
  .split<;>show same
 |post id a b k am r t=>
  unfold az;dsimp only;split;.show same
  split;.show same
  split;.show same
  split;.show same
  rename_i h1 h2 h3 h4;have hb:(within id 1 9999&&(isOffice a&&(isOffice b&&(a != b&&(within k 0 1&&(within am 1 999&&(within r 0 9&&within t 0 TIMES)))))))=true:=by simpa using h1
  simp only[ak] at hb;rintro b1 b2 b3 b4 b5 b6 b7 b8:wb 6 fo hb;unfold isOffice at b2 b3;unfold within at b1 b2 b3 b5;simp only[ak,decide_eq_true_eq] at b1 b2 b3 b5;have lr:S.loads.length<10:=Xs h3;show⟨⟨h.so.tok,?_,?_,?_,hn⟩,aE h.off (by omega),h.Nn,h.tab⟩;.change (S.loads++[_]).length<=10;rw[ap,ci];omega
  .change ((S.loads++[_]).map λ(x:Load)=>x.id).Nodup;rw[aj,dU];show #[ic,h.so.ids,by simp,λu hu v hv e=>?_];rintro x hx rfl:bM<|List.mem_map.mp hu;have hv':v=id.toNat:=by simpa using hv
   apply h2;unfold gk;rw[List.find?_isSome];show #[ia,x,hx,by rw[beq_iff_eq];omega]
  .intro x hx;rcases br.mp hx with hx|hx
   .have l:=h.so.ld x hx;show⟨l.kind,l.from_,l.to_,l.legs,by have:=l.many;omega⟩
   .cases aX.mp hx;show⟨?_,?_,?_,(by intro g hg;cases hg),bV _⟩;.change k.toNat<2;omega
    .change a.toNat<6;omega
    .change b.toNat<6;omega
 |withdraw id=>
  unfold az;dsimp only;split;.show same
  .split;.show same
   .show⟨⟨h.so.tok,aE (bK ..) h.so.Mo,?_,λx hx=>?_,hn⟩,aE h.off (by omega),h.Nn,h.tab⟩;.show (aim _ List.filter_sublist).nodup h.so.ids
    .have l:=h.so.ld x (eO.mp hx).1;show⟨l.kind,l.from_,l.to_,l.legs,by have:=l.many;omega⟩
 |booked id=>
  unfold az;dsimp only;split;.show same
  .split<;>show same
 |used no d i=>
  unfold az dC;dsimp only;split;.show same
  .split<;>show same
 |run no d=>unfold az dC;dsimp only;split<;>show same
 |order=>show same
 |board no d i=>
  unfold az dC;dsimp only;split;.show same
  .split<;>show same
 |runsOf d=>unfold az;dsimp only;split<;>show same
 |late id=>
  unfold az;dsimp only;split;.show same
  .split<;>show same
 |counts=>show same
def DY{b:eT}(o:ED b)(h:S3 b){ls:List (List Nat)}(e:ls=d5 b.mins.zipIdx++b.trips.flatMap fI):∀w∈ls,w.length<=216:=by
 subst e;intro w hw;rcases br.mp hw with hw|hw
 .unfold d5 at hw;rintro m hm rfl:bM<|List.mem_map.mp hw;have hm1:=(eO.mp hm).1;obtain⟨m1,m2⟩:=m;have:=h.mins m1 (by
   have:=List.mem_zipIdx hm1;rintro _ _ e:lB this;rw[e];show tX _)
  unfold EM;have h3:=nP (n:=m1) (by omega);have h4:(text "MIN ").length=4:=by decide +kernel
  rw[ap,ap];simp only[aP,dg];omega
 .rintro t ht hw:bM<|List.mem_flatMap.mp hw;rw[o_] at hw;rcases aD.mp hw with rfl|hw;.show Mp (o.ok t ht) (h.trips t ht)
  .unfold fM at hw;rintro x _ rfl:bM<|List.mem_map.mp hw;have:=W9 t.stops.length x.2 x.1;omega
def CV{b:eT}(o:ED b)(h:S3 b):(shown b).length<=10000:=by
 rw[OD];have h1:=DY o h rfl;have h2:(d5 b.mins.zipIdx++b.trips.flatMap fI).length<=42:=by
  rw[ap];have h3:(d5 b.mins.zipIdx).length<=6:=by unfold d5;rw[ab];show aE (bK ..) ?_;rw[gJ,o.mins];show aA _
  have h4:=dH (f:=fI) (c:=6) (l:=b.trips) λt ht=>by
   rw[o_,aP];unfold fM;rw[ab,gJ];have:=(o.ok t ht).lw;omega
  have:=o.six;have h5:b.trips.length*6<=6*6:=gX _ this;omega
 have h3:=wy [10] _ h1;rw[ci] at h3;have h4:(d5 b.mins.zipIdx++b.trips.flatMap fI).length*(216+1)<=42*(216+1):=gX _ h2;omega
def A0(a:AE):List Int:=a.value::(a.more++a.rows.flatMap λr=>(r.length:Int)::r)
def Tm(v:Int):(A0 { value:=v }).length=1:=rfl
def nA(v:Int)(m:List Int):(A0 { value:=v,more:=m }).length=m.length+1:=by simp[A0]
def lm(v:Int)(m r:List Int):(A0 { value:=v,more:=m,rows:=[r] }).length=m.length+r.length+2:=by simp[A0];omega
def Qo(w:ah)(g:dP):(bX w g).length<=6:=by unfold bX;split<;>simp
def FW(w:ah){n:Nat}{l:List dP}(h:l.length<=n):(l.flatMap (bX w)).length<=n*6:=aE (dH λg _=>Qo w g) (gX _ h)
def T8{W:ah}{no d:Int}{j:Nat}{t:ax}(hr:jN W no d=some (j,t)):t∈W.table.trips:=by
 rcases mU W no with⟨e,_⟩|⟨k,t2,e1,e2,e3⟩;.unfold jN at hr;rw[e] at hr;cases hr
 .unfold jN at hr;rw[e3] at hr;dsimp only at hr;split at hr;.cases hr;show gl e1
  .cases hr
def PL{n:Nat}{S:aO}(h:Px n S)(hn:n+5<=2000)(c:Call):(A0 (az S c).2).length<=40000:=by
 have one:∀v:Int,(A0 { value:=v }).length<=40000:=λv=>by rw[Tm];decide
 cases c with
 |clear=>show one 0
 |table t=>
  unfold az;dsimp only;split;.show one _
  .split;.show one _
   .split;.rw[nA];show dB rfl
    .rw[nA];show dB rfl
 |show_=>change (A0 { value:=_,rows:=[bH (shown S.world.table)] }).length<=40000;rw[lm];have:=CV h.so.tok h.tab;unfold bH;rw[ab];simp only[dg];omega
 |cancel no d=>
  unfold az dC;dsimp only;split;.show one _
  .split<;>show one _
 |delay no d i m=>
  unfold az dC;dsimp only;split;.show one _
  .split;.show one _
   split;.show one _
   split;.show one _
   .show one _
 |time t=>
  unfold az;dsimp only;split;.show one _
  split;.show one _
  .show one _
 |earliest o t q=>
  unfold az;dsimp only;split;.show one _
  .unfold S0;split;.show one _
   .rename_i y hy;rw[lm];have:=FW S.world (mE hy);simp only[dg];omega
 |bests o t q=>
  unfold az;dsimp only;split;.show one _
  .rw[lm];have h1:(pD (rides S.world) o.toNat t.toNat q.toNat).length<=6:=by
    rw[M4];show aE (J7 ..) ?_;rw[bQ];show aA _
   have h2:=dH (f:=λx:Nat×Nat=>[(x.1:Int),(x.2:Int)]) (c:=2) (l:=pD (rides S.world) o.toNat t.toNat q.toNat) λ_ _=>aA _;simp only[dg];omega
 |latest o q t=>
  unfold az;dsimp only;split;.show one _
  .split;.show one _
   .rw[nA];show dB rfl
 |post id a b k am r t=>
  unfold az;dsimp only;split;.show one _
  split;.show one _
  split;.show one _
  split;.show one _
  .rw[nA];show dB rfl
 |withdraw id=>
  unfold az;dsimp only;split;.show one _
  .split;.show one _
   .show one _
 |booked id=>
  unfold az;dsimp only;split;.show one _
  .rename_i x hx;have Ip:x∈S.loads:=qQ hx;have hb:=(h.so.ld x Ip).many;split;.rw[lm];have:=FW S.world (n:=2000) (l:=x.begun) (by omega);simp only[aP,dg];omega
   .rename_i y hy;rw[lm];have h5:y.2.length<=5:=mh hy;have:=FW S.world (n:=2005) (l:=x.begun++y.2) (by rw[ap];omega);simp only[aP,dg];omega
 |used no d i=>
  unfold az dC;dsimp only;split;.show one _
  .split;.show one _
   .rw[nA];show dB rfl
 |run no d=>
  unfold az dC;dsimp only;split;.show one _
  .rename_i x hx;obtain⟨j,t⟩:=x;have h5:=(h.so.tok.ok t (T8 hx)).lw;rw[lm];have:=dH (f:=λi=>bH [dX t i,d8 S.world t d.toNat i,bE S.world t d.toNat i]) (c:=3) (l:=ay t.stops.length) λ_ _=>aA _;rw[bQ] at this;simp only[dg];omega
 |order=>change (A0 { value:=_,rows:=[bH ((cp S.loads).map λx=>x.id)] }).length<=40000;rw[lm];unfold bH;rw[ab,ab,(iK S.loads).length_eq];have:=h.so.Mo;simp only[dg];omega
 |board no d i=>
  unfold az dC;dsimp only;split;.show one _
  .split;.show one _
   .rw[lm];unfold bH;rw[ab,ab];have h2:(pK S).length<=10:=by
     rw[<-ab (f:=λp:Load×cn=>p.1),zH,(iK S.loads).length_eq];show h.so.Mo
    simp only[dg];show aE (Rt (pI (aE (bK ..) h2) _) _) (by decide)
 |runsOf d=>
  unfold az;dsimp only;split;.show one _
  .rw[lm];unfold bH;rw[ab,ab];have h2:=h.so.tok.six;simp only[dg];show aE (Rt (pI (aE (bK ..) h2) _) _) (by decide)
 |late id=>
  unfold az;dsimp only;split;.show one _
  .split;.rw[nA];show dB rfl
   .show one _
 |counts=>show dB rfl
end TT
end
section
local macro_rules|`(tactic| walk_at "rd1")=>`(tactic| first|with_reducible refine QW ?_|with_reducible refine GC ?_|with_reducible refine QX ?_|with_reducible refine GE ?_|with_reducible refine TT.r_g ?_|with_reducible refine WO ?_|with_reducible refine af4 ?_|with_reducible refine Zz ?_|with_reducible refine af3 ?_|with_reducible refine af2 ?_|with_reducible refine awr ?_|with_reducible refine aws ?_)
local macro_rules|`(tactic| walk_at "rds")=>`(tactic| repeat ((fail_if_success (with_reducible refine mO ?_));(first|walk_at "rd1"|walk_at "fld")))
local macro_rules|`(tactic| walk_at "rdn")=>`(tactic| repeat ((fail_if_success (with_reducible refine L5 ?_));(fail_if_success (with_reducible refine QR ?_));(first|walk_at "rd1"|walk_at "fld")))
namespace TT
section
variable{P:aS}{w:bL}{K:ad}{mg:Str->Option ag}{base:cE}{A:dW}{f:af}{fd:b_}
def Da(l:List (List Nat)):List V:=l.map λz=>V.str (dq z)
def BH(a b:List (List Nat)):Da (a++b)=Da a++Da b:=aj
abbrev u_:cK:=top 73
def IZ:aU ["minutes"] ["minutes"] (aG u_):=jy
def zc:Sp:=λvs H Q _=>∃n:Nat,vs=[iv n]/\n<2880/\Q (.str (dq (iQ n))) H
def IJ(F:i9 K "clock_text" "clock_text" u_ f fd)(T:eX K mg A):cQ P w K mg base gW 1 f fd ["minutes"] zc:=by
 exists F,IZ;rintro n rfl hn k:gF h;show #[ia,_,(kY (fB QI (Gs Jg Jh NX (fK jS rfl T.Dq BM (eM (fB Sj (pv 0) aw))) aw) (Gs Jg Jh NX (fK jS rfl T.Dq BM (eM (fB Wv (pv 0) aw))) aw))),?_];try dsimp only[dj]
 exists QS ⟨by decide,by decide⟩ ?_;left;have e1:((n:Int) / 60)=((n / 60:Nat):Int):=by omega
 have e2:((n:Int)%60)=((n%60:Nat):Int):=by omega
 show #[ie,_,rfl,by rw[e1];show kt (by omega),?_];rw[e1,nV];exists #[ib,_,_,rfl,rfl,⟨rfl,?_⟩];rw[J5 (by omega)];exists QS (by change (0:Int)<60;decide) ?_;exists #[ie,_,rfl,by rw[e2];show kt (by omega),?_];rw[e2,nV];exists #[ib,_,_,rfl,rfl,⟨rfl,?_⟩];rw[J5 (by omega)];show #[ib,_,_,rfl,rfl,⟨by rw[eC,eC];change 2+2<=sizeLine;decide,?_⟩];rw[SH];show k
abbrev vg:cK:=top 72
def y4:aU ["trip","lines","last","place","stop","letter","comes","goes"] ["trip"] (aG vg):=jy
def zh(A:dW):Sp:=λvs H Q _=>∃(a:af)(F:Hp)(t:ax),vs=[.ref a]/\aq F H/\gh A F a t/\qW t/\∀p H',H p=none->H' p=some (.lst (Da (fM t)))->aq H H'->Q (.ref p) H'
def IQ(F:i9 K "stop_lines" "stop_lines" vg f fd)(T:eX K mg A)(oW:fP P w K mg base 1 "clock_text" ["minutes"] zc):cQ P w K mg base gW 2 f fd ["trip"] (zh A):=by
 exists F,y4;rintro a F t rfl s0 ha ok k:rD 5 lB h;have nd:=y4.nd;show #[ia,_,(ae (sv 1 nd (bI jf)) (ae (sv 2 nd (fB LS (xb T.fb (du 0)) aw)) (ae (fR bj rfl (yh rfl T.kz (eM (du 0))) (xi rfl (iE (gv 3 nd) (iE (gv 4 nd) qI))) (ae (sv 5 nd (xT (uP T.pE) (du 4))) (ae (sv 6 nd (Ol (kq lI (pv 3) aw) hU (bC oW hr (eM (du 4))))) (ae (sv 7 nd (Ol (kq lI (pv 3) (pv 2)) hU (bC oW hr (eM (du 4))))) (bA (dN (Mx (pv 1) (ER (i4 (Gw (pv 5)) (i4 Aa (i4 (Gw (pv 6)) (i4 Aa (i4 (Gw (pv 7)) ET))))))))))))) (kY (pv 1))))),?_];try dsimp only[dj]
 exists jw λl H1 hl Pa e1=>?_;have s1:=s0.trans e1;left;rename_i sl Cr;show rG Cr s1 ?_;left;rename_i sl2 aeo;show QT (λi σ' H'=>∃u1 u2 u3 u4 u5:Option V,σ'=[some (.ref a),some (.ref l),some (.int ((t.stops.length:Int) - 1)),u1,u2,u3,u4,u5]/\eA H1 H' l/\H' l=some (.lst (Da ((fM t).take i)))) aeo #[ig,_,_,_,_,_,#[ic,rfl,λb o e _=>e,Pa]] (λi σ' H' z=>by rintro _ _ _ _ _ _ q _:Wu 6 fo z;show aB s1 q (s0.free hl)) ?_ ?_
 .rintro i z b σ' H' H2 hi hb cG s2;rintro u1 u2 u3 u4 u5 rfl q1 q2:Wu 6 fo cG;have sH':aq F H':=aB s1 q1 (s0.free hl);have s3:aq F H2:=sH'.trans s2;have hz:=ok.off z (aZ hi);have lr:=(ai.mp hi).1;have h5:=ok.lw;walk_at "rds"
  with_reducible show mO ?_
  walk_at "rds";intro la Pb;walk_at "rds";show DM (Pb _) (aV (j:=z.office) (qE hz.1)) ?_;walk_at "rds";let cw:=if i=0 then [45] else iQ z.arr;let gw:=if i+1=t.stops.length then [45] else iQ z.dep;have hcw:cw.length<=4:=by change (if i=0 then [45] else iQ z.arr).length<=4;split<;>simp[BF]
  have hgw:gw.length<=4:=by change (if i+1=t.stops.length then [45] else iQ z.dep).length<=4;split<;>simp[BF]
  with_reducible show xk (λσ' H'=>σ'=[some (.ref a),some (.ref l),some (.int ((t.stops.length:Int) - 1)),some (iv i),some (.ref b),some (.str (dq [65+z.office])),some (.str (dq cw)),u5]/\H'=H2) ?_ (λJ=>?_)
  .rintro σ' UF cG;rintro rfl hE:fo cG;rw[hE];clear hE
   with_reducible show xk (λσ' H'=>σ'=[some (.ref a),some (.ref l),some (.int ((t.stops.length:Int) - 1)),some (iv i),some (.ref b),some (.str (dq [65+z.office])),some (.str (dq cw)),some (.str (dq gw))]/\H'=H2) ?_ (λJ=>?_)
   .rintro σ' UF cG;rintro rfl hE:fo cG;rw[hE];clear hE;exists jm (cf.of (s2 _ _ q2)) ?_;exists Ou (by change 1<=3000;decide) ?_;show mM (by simp) ?_;left;rw[show bo " "=dq [32] by decide +kernel];show mM (by simp) ?_;exists Ou (by omega) ?_;show mM (by simp;omega) ?_;exists mM (by simp;omega) ?_;exists Ou (by omega) ?_;show mM (by simp;omega) ?_;exists Ov (by simp;omega) ?_;exists fL (T:="list") rfl (s2 _ _ q2) (by unfold Da fM;rw[ab,aM,ab,gJ];unfold sizeLine;omega) λH3 l3 k3=>?_;exists #[ig,_,_,_,_,_,#[ic,rfl,cZ (λb o e n=>s2 _ _ (q1 b o e n)) k3,?_]];rw[l3];have:(fM t)[i]? = some (sE t.stops.length i z):=by unfold fM;rw[aF,Xo hi];rfl
    rw[bR this];unfold Da;rw[aj];congr 4;change V.str (dq _)=V.str (dq _);congr 2;change _=[65+z.office,32]++(cw++(32::gw));simp
   .walk_at "rdn";show cY (λh1=>?_) (λh1=>?_)<;>walk_at "rdn";.show L5 ?_;have q:=J _ _ ⟨rfl,rfl⟩;rw[show dq gw=bo "-" by rw[show gw=[45] from if_pos (by omega)];decide +kernel] at q;show q
    .show #[ie,z.dep,rfl,hz.2.2,?_];walk_at "rdn";show L5 ?_;have q:=J _ _ ⟨rfl,rfl⟩;rw[show gw=iQ z.dep from if_neg (by omega)] at q;show q
  .walk_at "rds";show cY (λh1=>?_) (λh1=>?_)<;>walk_at "rds";.show J _ _ ⟨?_,rfl⟩;rw[show cw=[45] from if_pos (by omega),show dq [45]=bo "-" by decide +kernel];rfl
   .show #[ie,z.arr,rfl,by omega,?_];walk_at "rds";show J _ _ ⟨?_,rfl⟩;rw[show cw=iQ z.arr from if_neg (by omega)];rfl
 .rintro σ' H' cG;rintro u1 u2 u3 u4 u5 rfl q1 q2:Wu 6 fo cG;have:(fM t).length=t.stops.length:=by unfold fM;rw[ab,gJ]
  rw[<-this,aK] at q2;exists k l H' hl q2 (aB e1 q1 hl)
abbrev oJ:cK:=top 70
def tF:aU ["table","lines","office","minutes","letter"] ["table"] (aG oJ):=jy
def tI(A:dW):Sp:=λvs H Q _=>∃(a:af)(F:Hp)(b:eT),vs=[.ref a]/\aq F H/\j8 A F a b/\b.mins.length=6/\(∀m∈b.mins,m<=999)/\∀p H',H p=none->H' p=some (.lst (Da (d5 b.mins.zipIdx)))->aq H H'->Q (.ref p) H'
def CC(F:i9 K "minutes_lines" "minutes_lines" oJ f fd)(T:eX K mg A):cQ P w K mg base gW 1 f fd ["table"] (tI A):=by
 exists F,tF;rintro a F b rfl s0 ha h6 hm k:rD 5 Cz h;have nd:=tF.nd;show #[ia,_,(ae (sv 1 nd (bI jf)) (ae (fR bj rfl (yh rfl T.kz (eM (du 0))) (xi rfl (iE (gv 2 nd) (iE (gv 3 nd) qI))) (bA (kG (kq oa (pv 3) aw) (ae (sv 4 nd (xT (uP T.pE) (pv 2))) (bA (dN (Mx (pv 1) (ER (i4 Aa (i4 (Gw (pv 4)) (i4 Aa (i4 (QN (pv 3)) ET))))))))) fU))) (kY (pv 1)))),?_];try dsimp only[dj]
 exists jw λl H1 hl Pa e1=>?_;have s1:=s0.trans e1;left;rename_i ml hml;show Sx (xs:=ly b.mins) (λi σ' H'=>∃u1 u2 u3:Option V,σ'=[some (.ref a),some (.ref l),u1,u2,u3]/\eA H1 H' l/\H' l=some (.lst (Da (d5 (b.mins.zipIdx.take i))))) (cf.of (s1 _ _ hml)) #[ii,_,_,_,rfl,λb o e _=>e,Pa] ?_ ?_ ?_;.rintro i σ' H' _ cG;rintro _ _ _ _ q _:rD cG;show cf.of (aB s1 q (s0.free hl) _ _ hml)
 .rintro i y σ' H' H2 hy cG s2;rintro u1 u2 u3 rfl q1 q2:rD cG;unfold ly at hy;rw[aF] at hy;rintro m hmi rfl:bM<|Option.map_eq_some_iff.mp hy;have hm9:=hm m (aZ hmi);have hi6:i<6:=by rw[<-h6];show (ai.mp hmi).1
  have hsn:b.mins.zipIdx.take (i+1)=b.mins.zipIdx.take i++[(m,i)]:=bR (Xo hmi);have hlen:(d5 (b.mins.zipIdx.take i)).length<=6:=by unfold d5;rw[ab];show aE (bK ..) ?_;rw[aM];omega
  have hd:=nP (n:=m) (by omega);exists j7 (λh1=>?_) (λh1=>?_)<;>left
  .intro la Pb;exists DM (Pb _) (aV (j:=i) (qE hi6)) ?_;exists jm (cf.of (s2 _ _ q2)) ?_;left;have hM:(bO "MIN ").length=4:=by decide +kernel
   rw[jW "MIN "];show mM (by simp;omega) ?_;exists Ou (by change 1<=3000;decide) ?_;show mM (by simp;omega) ?_;left;rw[show bo " "=dq [32] by decide +kernel];show mM (by simp;omega) ?_;exists Ot (by omega) ?_;show mM (by simp;omega) ?_;exists Ov (by simp;omega) ?_;exists fL (T:="list") rfl (s2 _ _ q2) (by unfold Da;rw[ab];unfold sizeLine;omega) λH3 l3 k3=>?_;exists #[ii,_,_,_,rfl,cZ (λb o e n=>s2 _ _ (q1 b o e n)) k3,?_];rw[l3,hsn];have:d5 (b.mins.zipIdx.take i++[(m,i)])=d5 (b.mins.zipIdx.take i)++[EM m i]:=by unfold d5;rw[cr,cz,eN,if_pos (by simp;omega),aj];rfl
   rw[this];unfold Da;rw[aj];congr 4<;>(try (change V.str (dq _)=V.str (dq _);first|rfl|(congr 2;unfold EM;simp)))
  .show #[ii,_,_,_,rfl,λb o e n=>s2 _ _ (q1 b o e n),?_];rw[s2 _ _ q2,hsn];have:d5 (b.mins.zipIdx.take i++[(m,i)])=d5 (b.mins.zipIdx.take i):=by
    unfold d5;rw[cr,cz,eN,if_neg (by simp;omega),b9]
   rw[this]
 .rintro σ' H' cG;rintro u1 u2 u3 rfl q1 q2:rD cG;unfold ly at q2;rw[ab,<-gJ (l:=b.mins),aK] at q2;exists k l H' hl q2 (aB e1 q1 hl)
abbrev xI:cK:=top 71
def Bx:aU ["trip","words","digits","first","last","day"] ["trip"] (aG xI):=jy
def BE(A:dW):Sp:=λvs H Q _=>∃(a:af)(F:Hp)(t:ax),vs=[.ref a]/\aq F H/\gh A F a t/\qW t/\TB t/\∀H',aq H H'->Q (.str (dq (mV t))) H'
def LR(F:i9 K "trip_line" "trip_line" xI f fd)(T:eX K mg A):cQ P w K mg base gW 1 f fd ["trip"] (BE A):=by
 exists F,Bx;rintro a F t rfl s0 ha ok tb k:rD 5 Cz h;have nd:=Bx.nd;show #[ia,_,(ae (sv 1 nd (bI (mz hU (fK jS rfl T.Dq BM (eM (du 0)))))) (ae (kG (kq (afq hr.units) (du 0) (fK AU rfl T.PM boot_list (eM (uP T.pP)))) (ae (sv 2 nd (ES hU (og rfl nd (dM (du 0)) (fe (own:=[("day",5)]) (by kernel_rfl)) (λ_ _ _ _ _=>(gv 5 nd)) (λ_ _ _ _ _=>jz) (λ_ _ _ _ _=>(fK jS rfl T.Dq BM (eM (pv 5))))))) (bA (dN (Mx (pv 1) (ER (i4 Aa (i4 (Gw (pv 2)) ET))))))) fU) (ae (kG (PW.pt (kf (kq oa (du 0) aw) (jh (kq oa (du 0) (bG T.nE))))) (ae (sv 3 nd (du 0)) (ae (sv 4 nd (du 0)) (bA (dN (Mx (pv 1) (ER (i4 Aa (i4 (QN (pv 3)) (i4 Aa (i4 (QN (pv 4)) ET)))))))))) fU) (ae (dN (exE (pv 1) (bI (dS hU (dS (fK jS rfl T.Dq BM (eM (xL (du 0) aw))) (qu (fK jS rfl T.Dq BM (eM (xL (du 0) aw))) hU (fK jS rfl T.Dq BM (eM (du 0))))))))) (kY (ES hU (pv 1))))))),?_];try dsimp only[dj]
 rintro ra rb FQ:UT ok.room;have tb1:=tb.room ra (by rw[FQ];simp);have tb2:=tb.room rb (by rw[FQ];simp);have tb3:=tb.no;have tb4:=tb.first;have tb5:=tb.cut;have tb6:=ok.last;have h7:=Ju t.days
 with_reducible show mO ?_
 walk_at "rds";show #[ie,_,rfl,kt (by omega),?_];rw[nV];walk_at "rds";show jw λwl H1 FR Ty e1=>?_;have s1:=s0.trans e1;rw[jW "TRIP"] at Ty;have Ty:H1 wl=some (.lst (Da (w1 t))):=Ty;walk_at "rds"
 with_reducible show xk (λσ' H'=>∃u1:Option V,σ'=[some (.ref a),some (.ref wl),u1,none,none,none]/\eA H1 H' wl/\H' wl=some (.lst (Da (w2 t)))) ?_ (λJ=>?_)
 .rintro σ' H2 cG;rintro u1 rfl q1 q2:gF cG;have s2:aq F H2:=aB s1 q1 (s0.free FR);have hw2:(w2 t).length<=3:=by unfold w2 w1;split<;>simp
  with_reducible show xk (λσ' H'=>∃u1 u2 u3:Option V,σ'=[some (.ref a),some (.ref wl),u1,u2,u3,none]/\eA H1 H' wl/\H' wl=some (.lst (Da (w3 t)))) ?_ (λJ=>?_)
  .rintro σ' H3 cG;rintro u1 u2 u3 rfl p1 p2:rD cG;have s3:aq F H3:=aB s1 p1 (s0.free FR);have hw3:(w3 t).length<=4:=by unfold w3;rw[ap];split<;>simp<;>omega
   exists jm (cf.of p2) ?_;left;rename_i rl Tx;rw[FQ] at Tx;show bY (v:=iv ra) (cf.of (s3 _ _ Tx)) (aV (j:=0) rfl) ?_;exists #[ie,_,rfl,kt (by omega),?_];rw[nV];left;rename_i rl2 YT;rw[FQ] at YT;show bY (v:=iv rb) (cf.of (s3 _ _ YT)) (aV (j:=1) rfl) ?_;exists #[ie,_,rfl,kt (by omega),?_];rw[nV];exists #[ie,_,rfl,kt (by omega),?_];rw[nV];exists jw λel H4 hel ata e4=>?_;exists Bi (l:=wl) (T:="list") (e4 _ _ p2) ata (by unfold Da;rw[ab];change _+5<=sizeLine;unfold sizeLine;omega) λH5 l5 k5=>?_;have hw4:H5 wl=some (.lst (Da (w4 t))):=by rw[l5];unfold w4;rw[BH,FQ,jW "CAP",jW "CUT"];rfl
   left;rintro c1 c2:fo<|Xn ok tb;show #[ii,dq [32],wl,(w4 t).map dq,by rw[show bo " "=dq [32] by decide +kernel],rfl,#[ic,.inl (cf.of (by rw[hw4];unfold Da;rw[dJ];rfl)),Ll c1 c2 (by decide),?_]];rw[o0,D9];show k H5 (λb o e=>k5 _ _ (e4 _ _ (p1 _ _ (e1 _ _ e) (aI e FR))) (aI e FR))
  .walk_at "rds";have yes:(t.first=0/\t.last=13)->w3 t=w2 t:=λz=>by unfold w3;rw[if_pos z,b9]
   have amv:¬(t.first=0/\t.last=13)->w3 t=w2 t++[oq t]:=λz=>by unfold w3;rw[if_neg z]
   have d1:=nP (n:=t.first) (by omega);have d2:=nP (n:=t.last) (by omega);have hV:(bO "V=").length=2:=by decide +kernel
   show j7 (λh1=>?_) (λh1=>?_)<;>walk_at "rds"
   .walk_at "rds"
    with_reducible show mO ?_
    walk_at "rds"
    with_reducible show mO ?_
    walk_at "rds";show jm (cf.of q2) ?_;walk_at "rds";rw[jW "V="];show mM (by simp;omega) ?_;walk_at "rds";show Ot (by omega) ?_;show mM (by simp;omega) ?_;walk_at "rds";rw[show bo "-"=dq [45] by decide +kernel];show mM (by simp;omega) ?_;walk_at "rds";show Ot (by omega) ?_;show mM (by simp;omega) ?_;walk_at "rds";show Ov (by simp;omega) ?_;walk_at "rds";show fL (T:="list") rfl q2 (by unfold Da;rw[ab];unfold sizeLine;omega) λH3 l3 k3=>?_;walk_at "rdn";show J _ _ #[ii,_,_,_,rfl,cZ q1 k3,?_];rw[l3,amv (by omega),BH];congr 3;change [V.str (dq _)]=[V.str (dq _)];congr 3;unfold oq;simp
   .show j7 (λh2=>?_) (λh2=>?_)<;>walk_at "rds"
    .walk_at "rds"
     with_reducible show mO ?_
     walk_at "rds"
     with_reducible show mO ?_
     walk_at "rds";show jm (cf.of q2) ?_;walk_at "rds";rw[jW "V="];show mM (by simp;omega) ?_;walk_at "rds";show Ot (by omega) ?_;show mM (by simp;omega) ?_;walk_at "rds";rw[show bo "-"=dq [45] by decide +kernel];show mM (by simp;omega) ?_;walk_at "rds";show Ot (by omega) ?_;show mM (by simp;omega) ?_;walk_at "rds";show Ov (by simp;omega) ?_;walk_at "rds";show fL (T:="list") rfl q2 (by unfold Da;rw[ab];unfold sizeLine;omega) λH3 l3 k3=>?_;walk_at "rdn";show J _ _ #[ii,_,_,_,rfl,cZ q1 k3,?_];rw[l3,amv (by omega),BH];congr 3;change [V.str (dq _)]=[V.str (dq _)];congr 3;unfold oq;simp
    .show J _ _ #[ii,_,_,_,rfl,q1,by rw[yes ⟨by omega,by omega⟩];show q2]
 .walk_at "rds";intro la Pb;walk_at "rds";rename_i wk hwk;show #[ib,la,_,rfl,.inr (Pb _),λl2 Qb=>?_];have e2:aq H1 (upd H1 l2 (.lst [V.int 0,V.int 1,V.int 2,V.int 3,V.int 4,V.int 5,V.int 6])):=cq Qb;have alb:(upd H1 l2 (.lst [V.int 0,V.int 1,V.int 2,V.int 3,V.int 4,V.int 5,V.int 6])) l2=some (.lst (ly (iZ gU))):=by rw[aT];rfl
  generalize upd H1 l2 (.lst [V.int 0,V.int 1,V.int 2,V.int 3,V.int 4,V.int 5,V.int 6])=H2 at e2 alb ⊢;have s2:=s1.trans e2;show #[ik,AW t.days,AW gU,VA (cf.of (s2 _ _ hwk)),VA (cf.of alb),Fo ok.days,Fo rfl,?_];rw[Vw ok.days];walk_at "rds";show j7 (λh1=>?_) (λh1=>?_)<;>walk_at "rds"
  .with_reducible show mO ?_
   walk_at "rds";rename_i wk2 al9;show Bj (xs:=ly (iZ t.days)) (λd i H'=>aq H2 H'/\H' d=some (.lst (((((iZ t.days).take i).map λn=>[48+n]).map dq).map V.str))) (cf.of (s2 _ _ al9)) (λd H' a1 a2 a3=>⟨a3,a2⟩) (λd i H' hd _ h=>cf.of (h.1 _ _ (s2 _ _ al9))) ?_ ?_;.rintro d i v H3 hd hv cG;rintro f1 f2:fo cG;unfold ly at hv;rw[aF] at hv;rintro n hn rfl:bM<|Option.map_eq_some_iff.mp hv;have hn7:n<7:=gV.mp (eO.mp (aZ hn)).1;walk_at "rds";show #[ie,_,rfl,kt (by omega),?_];rw[nV,HX (by omega)];show jv f2 (by rw[ab,ab,ab,aM];unfold sizeLine;omega) λH4 a1 a2=>⟨aB f1 a2 hd,?_⟩;rw[a1,bR hn,aj,aj,aj];rfl
   .rintro d H3 hd cG;rintro f1 f2:fo cG;unfold ly at f2;rw[ab,aK] at f2;show #[ii,dq [],d,((iZ t.days).map λn=>[48+n]).map dq,by rw[show bo ""=dq [] by decide +kernel],rfl,#[ic,.inl (cf.of f2),Ll (n:=7) (c:=1) (by rw[ab];show h7) (λw hw=>by rintro n _ rfl:bM<|List.mem_map.mp hw;show aA _) (by decide),?_]];rw[o0,wz];have VX:((iZ t.days).map λn=>[48+n]).flatten=(iZ t.days).map λn=>48+n:=by
     generalize iZ t.days=q;induction q with
     |nil=>rfl
     |cons a q ih=>rw[bD,Uw,ih];rfl
    rw[VX];have sA:aq H1 H3:=e2.trans f1;have hD:(bO "D=").length=2:=by decide +kernel
    walk_at "rds";show jm (cf.of (sA _ _ Ty)) ?_;walk_at "rds";rw[jW "D="];show mM (by simp;omega) ?_;walk_at "rds";show Ou (by simp;omega) ?_;show mM (by simp;omega) ?_;walk_at "rds";show Ov (by simp;omega) ?_;walk_at "rds";show fL (T:="list") rfl (sA _ _ Ty) (by change 2<sizeLine;decide) λH4 l4 k4=>?_;walk_at "rds";show J _ _ #[ie,_,rfl,λb o e n=>k4 _ _ (sA _ _ e) n,?_];rw[l4];unfold w2;rw[if_neg h1,BH];rfl
  .show J _ _ #[ie,_,rfl,λb o e _=>e2 _ _ e,?_];rw[e2 _ _ Ty];unfold w2;rw[if_pos h1,b9]
abbrev vf:cK:=top 69
def y3:aU ["table","lines","trip","sign"] ["table"] (aG vf):=jy
def zg(A:dW):Sp:=λvs H Q _=>∃(a:af)(F:Hp)(b:eT),vs=[.ref a]/\aq F H/\j8 A F a b/\ED b/\(∀m∈b.mins,m<=999)/\(∀t∈b.trips,TB t)/\∀p H',H p=none->H' p=some (.lst (ly (oU b)))->aq H H'->Q (.ref p) H'
def IP(F:i9 K "show_table" "show_table" vf f fd)(T:eX K mg A)(oA:fP P w K mg base 1 "minutes_lines" ["table"] (tI A))(wu:fP P w K mg base 1 "trip_line" ["trip"] (BE A))(ua:fP P w K mg base 2 "stop_lines" ["trip"] (zh A)):cQ P w K mg base gW 3 f fd ["table"] (zg A):=by
 exists F,y3;rintro a F b rfl s0 ha ok hm htb k:rD 5 EO h;have nd:=y3.nd;show #[ia,_,(ae (sv 1 nd (bC oA hr (eM (pv 0)))) (ae (fR bj rfl (dM (du 0)) (gv 2 nd) (ae (dN (Mx (pv 1) (bC wu hr (eM (pv 2))))) (bA (dN (exE (pv 1) (bC ua hr (eM (pv 2)))))))) (kY (og rfl nd (LX (ES hU (pv 1))) (fe (own:=[("sign",3)]) (by kernel_rfl)) (λ_ _ _ _ _=>(gv 3 nd)) (λ_ _ _ _ _=>jz) (λ_ _ _ _ _=>(i3 M7 rfl T.Vg boot_ord (eM (pv 3)))))))),?_];try dsimp only[dj]
 exists #[ii,a,F,b,rfl,s0,#[ij,ha,ok.mins,hm,λl H1 hl Pa e1=>?_]];have s1:=s0.trans e1;left;rename_i tl htl;let LN:=λi=>d5 b.mins.zipIdx++(b.trips.take i).flatMap fI;have hml:(d5 b.mins.zipIdx).length<=6:=by unfold d5;rw[ab];show aE (bK ..) ?_;rw[gJ,ok.mins];show aA _
 have hlen:∀i,(LN i).length<=42:=λi=>by
  change (d5 b.mins.zipIdx++(b.trips.take i).flatMap fI).length<=42;rw[ap];have h4:=dH (f:=fI) (c:=6) (l:=b.trips.take i) λt ht=>by
   rw[o_,aP];unfold fM;rw[ab,gJ];have:=(ok.ok t (yq ht)).lw;omega
  rw[aM] at h4;have:=ok.six;have h5:min i b.trips.length*6<=6*6:=gX _ (by omega);omega
 show oP (λi σ' H'=>∃u1:Option V,σ'=[some (.ref a),some (.ref l),u1,none]/\eA H1 H' l/\H' l=some (.lst (Da (LN i)))) htl #[ie,none,rfl,λb o e _=>e,by rw[Pa];change _=some (HO.lst (Da (d5 b.mins.zipIdx++[])));rw[b9]] (λi σ' H' z=>by rintro _ _ q _:gF z;show aB s1 q (s0.free hl)) ?_ ?_
 .rintro i t ta σ' H' hi XQ cG;rintro u1 rfl q1 q2:gF cG;have s2:aq F H':=aB s1 q1 (s0.free hl);have tm:=aZ hi;have h42:=hlen (i+1);have hsn:LN (i+1)=LN i++(mV t::fM t):=by
   change d5 b.mins.zipIdx++(b.trips.take (i+1)).flatMap fI=(d5 b.mins.zipIdx++(b.trips.take i).flatMap fI)++(mV t::fM t);rw[bR hi,f8];simp[o_]
  have h43:=hlen i;have Cr:(fM t).length<=5:=by unfold fM;rw[ab,gJ];show (ok.ok t tm).lw
  exists jm (cf.of q2) ?_;exists #[ii,ta,F,t,rfl,s2,#[ij,XQ,ok.ok t tm,htb t tm,λH2 e2=>?_]];exists fL (T:="list") rfl (e2 _ _ q2) (by unfold Da;rw[ab];unfold sizeLine;omega) λH3 l3 k3=>?_;have s3:aq F H3:=aB (s2.trans e2) k3 (s0.free hl);exists jm (cf.of l3) ?_;exists #[ii,ta,F,t,rfl,s3,#[ic,XQ,ok.ok t tm,λsl H4 aen aut e4=>?_]];exists Bi (l:=l) (T:="list") (e4 _ _ l3) aut (by unfold Da;rw[ap,ab,ab];simp only[ci];unfold sizeLine;omega) λH5 l5 k5=>?_;exists #[ie,_,rfl,λb o e n=>k5 _ _ (e4 _ _ (k3 _ _ (e2 _ _ (q1 b o e n)) n)) n,?_];have hE:∀X:List (List Nat),some (HO.lst (Da X++[V.str (dq (mV t))]++Da (fM t)))=some (HO.lst (Da (X++mV t::fM t))):=λX=>by rw[BH,et];rfl
  rw[l5,hsn];show hE _
 .rintro σ' H' cG;rintro u1 rfl q1 q2:gF cG;have hL:LN b.trips.length=d5 b.mins.zipIdx++b.trips.flatMap fI:=by
   change _++(b.trips.take _).flatMap _=_;rw[aK]
  have h42:=hlen b.trips.length;have hsh:=CV ok ⟨hm,htb⟩;have O9:∀w∈LN b.trips.length,w.length<=216:=DY ok ⟨hm,htb⟩ hL;exists #[ii,dq [10],l,(LN b.trips.length).map dq,by rw[show bo "\n"=dq [10] by decide +kernel],rfl,#[ic,.inl (cf.of (by rw[q2];unfold Da;rw[dJ];rfl)),Ll h42 O9 (by decide),?_]];rw[o0,hL,<-OD];have akw:(dq (oU b)).cps.toList=oU b:=lO _;show Sy (λd i H2=>aq H' H2/\H2 d=some (.lst (ly ((oU b).take i)))) (λd H2 a1 a2 a3=>⟨a3,a2⟩) ?_ ?_;.rintro d i c H2 hd hc cG;rintro f1 f2:fo cG;rw[akw] at hc;exists #[ia,c,rfl,?_];show jv f2 (by unfold ly;rw[ab,aM];unfold sizeLine;omega) λH3 a1 a2=>⟨aB f1 a2 hd,?_⟩;rw[a1,bR hc];unfold ly;rw[aj];rfl
  .rintro d H2 hd cG;rintro f1 f2:fo cG;rw[akw,aK] at f2;have sA:aq H H':=aB e1 q1 hl;show k d H2 (sA.free hd) f2 (sA.trans f1)
end
end TT
end
section
local macro_rules|`(tactic| walk_at "rds")=>`(tactic| repeat ((fail_if_success (with_reducible refine mO ?_));(first|walk_at "rd1"|walk_at "fld")))
namespace TT
def Ss{κ:Type}[DecidableEq κ](aQ:List (κ×V))(k:κ)(v:V)(h:dy aQ k=none):(k_ aQ k v).length=aQ.length+1:=by have h2:=mW k aQ;rw[h] at h2;unfold k_;rw[if_neg (by rw[h2];decide),ap];rfl
def U'.put{ck:List (List ez×V)}{w:ah}{no d:Nat}(h:U' ck w)(hn:(no,d)∉w.off):U' (k_ ck (rk no d) (.bl true)) { w with off:=w.off++[(no,d)] }:=by
 show⟨?_,λa b=>?_⟩;.rw[Ss _ _ _ (by rw[h.2,if_neg hn]),h.1];change _=(w.off++[(no,d)]).length;rw[ap];rfl
 .rw[kM,h.2];by_cases e:rk a b=rk no d;.rw[if_pos e];rintro rfl rfl:fo<|QY e;rw[if_pos (cj _ (aX.mpr rfl))]
  .rw[if_neg e];have:(a,b)∈w.off++[(no,d)]↔(a,b)∈w.off:=by
    rw[br,aX];show⟨λz=>z.elim id λz=>?_,.inl⟩;cases z;show absurd rfl e
   by_cases hm:(a,b)∈w.off;.rw[if_pos hm];show (if_pos (this.mpr hm)).symm
   .rw[if_neg hm];show (if_neg (λz=>hm (this.mp z))).symm
section
variable{A:dW}{T:af}{F B H H':Hp}{s:af}{S:aO}{W:Wh}{ck dk ck':List (List ez×V)}
def qz.cancel{amz:List (Nat×Nat)}(h:qz A T F B H s S W ck dk)(k:eA H H' W.c)(e:H' W.c=some (.dT ck'))(o:U' ck' { S.world with off:=amz }):qz A T F B H' s { S with world:={ S.world with off:=amz } } W ck' dk:=by
 have kk:∀{b u},H b=some u->(∀q,u≠.dT q)->H' b=some u:=λ{b u}e n=>k _ _ e (DJ e h.hc (n _));show⟨aB h.fh k h.fc,aB h.bh k h.bc,h.fT,h.bT,h.tab.keep k (by rw[h.hc];show eZ),h.fs,h.bs,kk h.hs (by intro q z;cases z),h.table,h.fc,h.bc,e,o,h.cd,h.fd,h.bd,k _ _ h.hd (cA h.cd),?_,?_,h.ft,h.bt,kk h.ht (by intro q z;cases z),?_,h.fp,h.nd⟩;.show #[ic,h.del.1,λt ht d=>(h.del.2.1 t ht d).imp id λ⟨a,ha,q1,q2⟩=>#[ie,a,ha,q1,kk q2 (by intro ps z;cases z)],h.del.2.2]
 .intro a ha;rintro q1 q2 xs q3:lB 2 bW<|h.qt a ha
  show #[ic,q1,q2,⟨xs,kk q3 (by intro ps z;cases z)⟩]
 .show bF (λp x⟨h1,bs,h2,h3⟩=>#[io,h1,bs,kk h2 (by intro ps z;cases z),h3]) h.loads
end
def NE{w:ah}{t:ax}{d:Nat}(h:c9 w t d=true):(t.no,d)∉w.off:=by unfold c9 at h;simp only[ak,r9,Pg,decide_eq_false_iff_not] at h;show h.2
section
variable{P:aS}{w:bL}{K:ad}{mg:Str->Option ag}{base:cE}{A:dW}{f:af}{fd:b_}{Tb:af}
abbrev rM:cK:=top 102
def xO:aU ["state","numbers","run"] ["state","numbers"] (aG rM):=jy
def Fb:List Int->cM->Prop:=λa c=>∃n d,a=[n,d]/\c=.cancel n d
def Gi(F:i9 K "call_cancel" "call_cancel" rM f fd)(T:eX K mg A)(d_:fP P w K mg base 5 "find_run" ["state","number","day"] (kK A)):cQ P w K mg base gW 6 f fd ["state","numbers"] (de A Tb Fb):=by
 exists F,xO;rintro s nu F B S n args c rfl ⟨no,d,rfl,rfl⟩ ⟨W,ck,dk,h⟩ so h5 mZ k:vV 8 wb h;have hu:=fJ hr;have nd:=xO.nd;have s0:=fW (H:=H) (T:=Tb) (ls:=W.ps.map (·.2));have mq:=h.bh _ _ mZ;show #[ia,_,(ae (sv 2 nd (bC d_ hr (qu (pv 0) (xL (pv 1) aw) (xL (pv 1) aw)))) (ae (kW (fq (jg (pv 2))) (bI (eM (bG T.sW)))) (ae (kW (kq qH (xL (du 2) aw) (du 0)) (bI (eM (bG T.zJ)))) (ae (yj hu (du 0) (du 2) JM rfl) (kY (bI (eM (i3 Jt rfl T.fb jD (eM (du 0)))))))))),?_];dsimp only[dj];exists bY (cf.of mq) (aV (j:=0) rfl) ?_;exists bY (cf.of mq) (aV (j:=1) rfl) ?_;exists #[ig,s,_,S,no,d,#[ip,rfl,s0,h.view.at_,so.tok,λe H1 e1=>?_,λra j t F1 H1 h0 hj FO hgo JA g1 RY=>?_]];.left;show jw λp H2 hp jH e2=>?_;show vX h k (a:={ value:=-5 }) (by simp only[az,dC,e];try rfl) (e1.trans e2) (e1.free hp) jH
 .have hR:=RY.at_;have tk:=so.tok.ok t (gl hj);have two:=tk.two;have s1:=g1.fh;have h1:=h.same g1.hh;left;rename_i ga UK;show bY (v:=iv (bE S.world t d.toNat 0)) (cf.of (s1 _ _ UK)) (aV (j:=0) (by rw[aF,f9 (by omega)];rfl)) ?_;exists c8 (v:=iv S.now) h1.hs T.state ?_;exists cY (λh2=>?_) (λh2=>?_)<;>left;.show jw λp H2 hp jH e2=>?_;show vX h k (a:={ value:=-6 }) (by simp only[az,dC,JA];rw[if_pos (by omega)];rfl) (g1.hh.trans e2) (g1.hh.free hp) jH
  .show c8 (v:=.ref W.c) h1.hs T.state ?_;left;rename_i ka Hu;have hlen:ck.length<=2000:=by rw[h.off.1];have:=h5.off;have:=h5.n5;omega
   show WM (k:=rk t.no d.toNat) h1.hc (s1 _ _ Hu) (by unfold sizeLine;omega) λH2 c2 k2=>?_;left;have hS:=h1.cancel k2 c2 (h.off.put (NE hgo));show c8 (v:=.ref W.c) hS.hs T.state ?_;show #[ib,W.c,_,rfl,c2,?_];exists jw λp H3 hp yO e3=>?_;have kE:az S (.cancel no d)=({ S with world:={ S.world with off:=S.world.off++[(t.no,d.toNat)] } },{ value:=(S.world.off.length:Int)+1 }):=by simp only[az,dC,JA];rw[if_neg (by omega)]
   rw[kE] at k;have Qe:H p=none:=by
    cases e:H p with
    |none=>rfl
    |some o=>
     by_cases z:p=W.c;.rw[z,c2] at hp;cases hp
     .rw[k2 _ _ (g1.hh _ _ e) z] at hp;cases hp
   show k p F H3 #[ir,W,_,⟨dk,hS.same e3⟩] (aq.refl _) (λ_ _ _ n=>n) Qe ?_;rw[yO];have hl:=(h.off.put (NE hgo)).1;have Qb:(k_ ck (rk t.no d.toNat) (V.bl true)).length=S.world.off.length+1:=by rw[hl];change (_++[_]).length=_;rw[ap];rfl
   rw[Qb];rfl
def wE(w:ah)(no d i m no' d' k:Nat):jT { w with delays:=w.delays++[{ no:=no,day:=d,at_:=i,minutes:=m }] } no' d' k=jT w no' d' k+if no=no'/\d=d'/\i=k then m else 0:=by
 unfold jT;change dw (((w.delays++[_]).filter _).map _)=_;rw[cr,aj,pH];congr 1;rw[cz,eN];by_cases h:no=no'/\d=d'/\i=k;.rintro rfl rfl rfl:lB h;simp[dw]
 .rw[if_neg h,if_neg];.rfl
  .intro z;simp only[ak,beq_iff_eq] at z;show h #[ic,z.1,z.2.1,z.2.2]
def KY{w:ah}{t:ax}{no d i m d':Nat}(h:¬(no=t.no/\d=d')):iH { w with delays:=w.delays++[{ no:=no,day:=d,at_:=i,minutes:=m }] } t d'=iH w t d':=by unfold iH;apply cJ;intro k _;rw[wE,if_neg (λz=>h ⟨z.1,z.2.1⟩)];rfl
def Nl{w:ah}{t:ax}{d i m:Nat}(hi:i<t.stops.length):iH { w with delays:=w.delays++[{ no:=t.no,day:=d,at_:=i,minutes:=m }] } t d=(iH w t d).set i (iv (jT w t.no d i+m)):=by
 unfold iH;apply r_;intro k;rw[aF,List.getElem?_set,ab,bQ,aF];by_cases hk:k<t.stops.length
 .rw[f9 hk];by_cases e:i=k;.subst e;rw[if_pos rfl,if_pos hk];change some (iv _)=_;rw[wE,if_pos #[ic,rfl,rfl,rfl]]
  .rw[if_neg e];change some (iv _)=some (iv _);rw[wE,if_neg (λz=>e z.2.2)];rfl
 .rw[fu (by rw[bQ];omega)];by_cases e:i=k;.omega
  .rw[if_neg e];rfl
def Nm{w:ah}{t:ax}{d:Nat}(h:∀x∈w.delays,¬(x.no=t.no/\x.day=d)):iH w t d=fY t.stops.length (iv 0):=by
 unfold iH;rw[OV];show⟨by rw[ab,bQ],λv hv=>?_⟩;rintro k _ rfl:bM<|List.mem_map.mp hv;have:jT w t.no d k=0:=by
  unfold jT;rw[vN.mpr];.rfl
  .intro x hx z;simp only[ak,beq_iff_eq] at z;show h x hx ⟨z.1,z.2.1⟩
 rw[this]
def B9(S:aO)(t:ax)(d i m:Nat):aO:={ S with world:={ S.world with delays:=S.world.delays++[{ no:=t.no,day:=d,at_:=i,minutes:=m }] } }
def Zh{l:List ax}(h:(l.map λt=>t.no).Nodup){t u:ax}(ht:t∈l)(hu:u∈l)(e:t.no=u.no):t=u:=by
 induction l with
 |nil=>cases ht
 |cons a l ih=>
  rw[bD,bJ] at h;rcases aD.mp ht with h1|ht<;>rcases aD.mp hu with h2|hu;.show h1.trans h2.symm
  .show absurd (aY.mpr #[ia,u,hu,by rw[<-h1,e]]) h.1
  .show absurd (aY.mpr #[ia,t,ht,by rw[<-h2,e]]) h.1
  .show ih h.2 ht hu
def qz.delay{A:dW}{T:af}{F B H H3:Hp}{s z:af}{S:aO}{W:Wh}{ck dk RO:List (List ez×V)}{K0:List af}{t:ax}{d i m:Nat}(h:qz A T F B H s S W ck dk)(tok:ED S.world.table)(ht:t∈S.world.table.trips)
 (hd:(K0=W.qt/\z∈W.qt/\dy dk (rk t.no d)=some (.ref z)/\RO=dk)\/(K0=z::W.qt/\H z=none/\dy dk (rk t.no d)=none/\RO=k_ dk (rk t.no d) (.ref z)))
 (k3:∀b o,H b=some o->b≠s->b≠W.dl->b≠z->H3 b=some o) (s3:H3 s=some (.ins A.state W.dx (oz (B9 S t d i m) W.tb W.c W.dl W.th))) (d3:H3 W.dl=some (.dT RO)) (z3:H3 z=some (.lst (iH (B9 S t d i m).world t d))):qz A T F B H3 s (B9 S t d i m) { W with qt:=K0 } ck RO:=by
 have zl:∀o,H z=some o->∃xs,o=.lst xs:=λo e=>by
  rcases hd with⟨_,q,_⟩|⟨_,q,_⟩;.rintro _ _ xs e2:lB 2 bW<|h.qt z q;rw[e2] at e;cases e;show⟨xs,rfl⟩
  .rw[q] at e;cases e
 have zF:F z=none/\B z=none:=by
  rcases hd with⟨_,q,_⟩|⟨_,q,_⟩;.show⟨(h.qt z q).1,(h.qt z q).2.1⟩
  .show⟨h.fh.free q,h.bh.free q⟩
 have kk:∀{b u},H b=some u->(∀q,u≠.dT q)->(∀q,u≠.lst q)->(∀a b c,u≠.ins a b c)->H3 b=some u:=λ{b u}e n1 n2 n3=>k3 _ _ e (DJ e h.hs (n3 _ _ _)) (DJ e h.hd (n1 _)) λq=>by
  subst q;rintro xs rfl:bW<|zl _ e;show n2 _ rfl
 have kl:∀{b xs},H b=some (.lst xs)->b≠z->H3 b=some (.lst xs):=λ{b xs}e n=>k3 _ _ e (oy e h.hs) (oy e h.hd) n;have zn:∀{b},b=W.th\/b∈W.ps.map (·.2)->b≠z:=λ{b}hb q=>by
  subst q;rcases hd with⟨_,q,_⟩|⟨_,q,_⟩
  .have nd:=h.nd;rw[bJ,dU] at nd;rcases hb with rfl|hb;.show nd.1 (cj _ q)
   .show nd.2.2.2 b hb b q rfl
  .rcases hb with rfl|hb;.rw[h.ht] at q;cases q
   .rintro p hp rfl:bM<|List.mem_map.mp hb;rintro bs e:bW<|h.lst hp;rw[e] at q;cases q
 have sub:∀a∈W.qt,a∈K0:=λa ha=>by
  rcases hd with⟨rfl,_⟩|⟨rfl,_⟩;.show ha
  .show au _ ha
 have zin:z∈K0:=by
  rcases hd with⟨rfl,q,_⟩|⟨rfl,_⟩;.show q
  .show aJ ..
 have vz:dy RO (rk t.no d)=some (.ref z):=by
  rcases hd with⟨_,_,q,rfl⟩|⟨_,_,_,rfl⟩;.show q
  .rw[kM,if_pos rfl]
 have vo:∀q,q≠rk t.no d->dy RO q=dy dk q:=λq n=>by
  rcases hd with⟨_,_,_,rfl⟩|⟨_,_,_,rfl⟩;.rfl
  .rw[kM,if_neg n]
 have vnz:∀q,q≠rk t.no d->dy dk q≠some (.ref z):=λq n e=>by
  rcases hd with⟨_,_,q2,_⟩|⟨_,q2,_⟩;.show n (h.del.2.2.1 _ _ _ e q2)
  .rintro _ _ xs e2:lB 2 bW<|h.qt z (h.del.2.2.2 _ _ e);rw[q2] at e2;cases e2
 have tn:T≠z:=λq=>by
  rintro ps e _:bM h.tab;rw[q] at e;rintro xs e2:bW<|zl _ e;cases e2
 show⟨λb o e=>k3 _ _ (h.fh _ _ e) (aI e h.fs) (aI e h.fd) (aI e zF.1),λb o e=>k3 _ _ (h.bh _ _ e) (aI e h.bs) (aI e h.bd) (aI e zF.2),h.fT,h.bT,?_,h.fs,h.bs,s3,h.table,h.fc,h.bc,k3 _ _ h.hc (oy h.hc h.hs) h.cd λq=>by (have:=zl _ (q▸h.hc);rintro xs e:bW this;cases e),h.off,h.cd,h.fd,h.bd,d3,#[ij,?_,?_,?_,?_],?_,h.ft,h.bt,kl h.ht (zn (.inl rfl)),?_,h.fp,?_⟩;.rintro ps e1 e2:bM h.tab;show #[ia,ps,kk e1 (by intro q z;cases z) (by intro q z;cases z) (by intro a b c z;cases z),e2.imp id λ⟨c,oc,vs,t,q1,q2,q3⟩=>#[iy,c,oc,vs,t,#[ic,q1,kk q2 (by intro q z;cases z) (by intro q z;cases z) (by intro a b c z;cases z),q3]]]
 .change RO.length<=(S.world.delays++[_]).length;rw[ap,ci];have:=h.del.1;rcases hd with⟨_,_,_,rfl⟩|⟨_,_,q,rfl⟩;.omega
  .rw[Ss _ _ _ q];omega
 .intro t' ht' d';by_cases e:rk t'.no d'=rk t.no d;.rintro e1 rfl:fo<|QY e;obtain rfl:=Zh tok.nos ht' ht e1;show .inr #[ie,z,zin,vz,z3]
  .have ne:¬(t.no=t'.no/\d=d'):=λq=>e (by rw[q.1,q.2]);rw[vo _ e];show (h.del.2.1 t' ht' d').imp (λ⟨q1,q2⟩=>⟨q1,λx hx=>?_⟩) λ⟨a,ha,q1,q2⟩=>#[ie,a,sub a ha,q1,?_]
   .rcases br.mp hx with hx|hx;.show q2 x hx
    .cases aX.mp hx;show ne
   .have:iH (B9 S t d i m).world t' d'=iH S.world t' d':=KY ne;rw[this];show kl q2 λq=>vnz _ e (by rw[<-q];show q1)
 .intro q q' a e1 e2;by_cases n1:q=rk t.no d<;>by_cases n2:q'=rk t.no d;.rw[n1,n2]
  .rw[n1,vz] at e1;cases e1;rw[vo _ n2] at e2;show absurd e2 (vnz _ n2)
  .rw[n2,vz] at e2;cases e2;rw[vo _ n1] at e1;show absurd e1 (vnz _ n1)
  .rw[vo _ n1] at e1;rw[vo _ n2] at e2;show h.del.2.2.1 _ _ _ e1 e2
 .intro q a e;by_cases n1:q=rk t.no d;.rw[n1,vz] at e;cases e;show zin
  .rw[vo _ n1] at e;show sub _ (h.del.2.2.2 _ _ e)
 .intro a ha;by_cases e:a=z;.subst e;show #[ic,zF.1,zF.2,⟨_,z3⟩]
  .have:a∈W.qt:=by
    rcases hd with⟨rfl,_⟩|⟨rfl,_⟩;.show ha
    .rcases aD.mp ha with q|q;.show absurd q e
     .show q
   rintro q1 q2 xs q3:lB 2 bW<|h.qt a this;show #[ic,q1,q2,⟨xs,kl q3 e⟩]
 .have gen:∀{ps:List (af×af)}{xs:List bv},(∀p∈ps,p∈W.ps)->cg (sL A F H S.world) ps xs->cg (sL A F H3 (B9 S t d i m).world) ps xs:=by
   intro ps xs hp hq;induction hq with
   |nil=>show .nil
   |cons r tt ih=>rintro r1 bs r2 r3:EQ r;show .cons #[io,r1,bs,kl r2 (zn (.inr (aY.mpr #[ia,_,hp _ (aJ ..),rfl]))),r3] (ih λp h=>hp p (au _ h))
  show gen (λp h=>h) h.loads
 .have nd:=h.nd;rcases hd with⟨rfl,_⟩|⟨rfl,q,_⟩;.show nd
  .rw[bJ,dU] at nd;rintro n1 n2 n3 n4:Cz nd;have zd:z∉W.qt:=λz1=>by rintro _ _ xs e:lB 2 bW<|h.qt z z1;rw[q] at e;cases e
   rw[bJ,dU];show #[ij,λq2=>?_,n2,bJ.mpr ⟨zd,n3⟩,λa ha b hb e=>?_]
   .rcases br.mp q2 with q2|q2;.show n1 (fO _ q2)
    .rcases aD.mp q2 with q2|q2;.show zn (.inl rfl) q2
     .show n1 (cj _ q2)
   .rcases aD.mp hb with q2|q2;.show zn (.inr ha) (e.trans q2)
    .show n4 a ha b q2 e
abbrev xq:cK:=top 104
def Bm:aU ["state","run","stop","minutes","told","each"] ["state","run","stop","minutes"] (aG xq):=jy
def BB(A:dW)(T:af):Sp:=λvs H Q _=>∃(s ra:af)(F B:Hp)(S:aO)(W:Wh)(ck dk:List (List ez×V))(t:ax)(d i m:Nat),vs=[.ref s,.ref ra,iv i,iv m]/\qz A T F B H s S W ck dk/\n8 A H ra S.world t d/\t∈S.world.table.trips/\ED S.world.table/\i<t.stops.length/\S.world.delays.length<=40/\
 ∀W' dk' H',qz A T F B H' s (B9 S t d i m) W' ck dk'->(∀b o,H b=some o->b≠s->b≠W.dl->b∉W.qt->H' b=some o)->(∀b,H' b=none->H b=none)->Q .non H'
def Ly(F:i9 K "add_delay" "add_delay" xq f fd)(T:eX K mg A):cQ P w K mg base gW 1 f fd ["state","run","stop","minutes"] (BB A Tb):=by
 exists F,Bm;rintro s ra F B S W ck dk t d i m rfl h hR ht tok hi h40 k:vV 8 xf 5 wb h;have hu:=fJ hr;have nd:=Bm.nd;have tk:=tok.ok t ht;have lw:=tk.lw;rintro rdx ta ka ca ga r1 r2 r3 r4 r5:DL hR;show #[ia,_,(ae (kG (fq (CH hu (du 1) (du 0))) (bA (yj hu (du 0) (du 1) (og rfl nd (dM (vC (du 1))) (fe (own:=[("each",5)]) (by kernel_rfl)) (λ_ _ _ _ _=>(gv 5 nd)) (λ_ _ _ _ _=>jz) (λ_ _ _ _ _=>aw)) rfl)) fU) (ae (sv 4 nd (uO hu (du 0) (du 1) (λ_ _=>rfl))) (ae (LY (fB iI (xL (pv 4) (pv 2)) (pv 3)) (LW (pv 4) (pv 2) yk)) (bA (cF (pv 0) (fB iI (du 0) aw) rfl))))),?_];dsimp only[dj];have hdkl:dk.length<=40:=aE h.del.1 h40;have fk:∀{H':Hp}{Q:VK},H' ra=some (.ins A.run rdx (Tj S.world t d ta ka ca ga))->Q (.ref ka) H'->fQ K "key" Q (.ref ra) H':=λe q=>c8 e T.run q (TQ ..);have fs:∀{H':Hp}{Q:VK},H' s=some (.ins A.state W.dx (oz S W.tb W.c W.dl W.th))->Q (.ref W.dl) H'->fQ K "delays" Q (.ref s) H':=λe q=>c8 (v:=.ref W.dl) e T.state q;have sdl:s≠W.dl:=oy h.hs h.hd;have aw7:ra≠W.dl:=oy r1 h.hd;have avm:ka≠W.dl:=oy r3 h.hd
 with_reducible show xk (λσ' H1=>∃(z:af)(RO:List (List ez×V))(K0:List af),σ'=[some (.ref s),some (.ref ra),some (iv i),some (iv m),none,none]/\
  ((K0=W.qt/\z∈W.qt/\dy dk (rk t.no d)=some (.ref z)/\RO=dk)\/(K0=z::W.qt/\H z=none/\dy dk (rk t.no d)=none/\RO=k_ dk (rk t.no d) (.ref z)))/\
  (∀b o,H b=some o->b≠W.dl->H1 b=some o)/\H1 W.dl=some (.dT RO)/\H1 z=some (.lst (iH S.world t d))) ?_ (λJ=>?_)
 .rintro σ' H1 cG;rintro z RO K0 rfl hd k1 d1 z1:rD 5 lB cG;have vz:dy RO (rk t.no d)=some (.ref z):=by
   rcases hd with⟨_,_,q,rfl⟩|⟨_,_,_,rfl⟩;.show q
   .rw[kM,if_pos rfl]
  have JB:=k1 _ _ h.hs sdl;have sz:s≠z:=oy JB z1;have dz:W.dl≠z:=oy d1 z1;exists fs JB ?_;exists fk (k1 _ _ r1 aw7) ?_;show anb (k:=rk t.no d) d1 (k1 _ _ r3 avm) vz ?_;exists bY (v:=iv (jT S.world t.no d i)) (cf.of z1) (aV (j:=i) (by unfold iH;rw[aF,f9 hi];rfl)) ?_;exists EW ?_;exists L6 z1 (by unfold iH;rw[ab,bQ];show hi) λH2 z2 k2=>?_;exists c8 (v:=iv S.world.delays.length) (k2 _ _ JB sz) T.state ?_;left;have e1:V.int ((S.world.delays.length:Int)+1)=iv (B9 S t d i m).world.delays.length:=by change V.int _=V.int _;congr 1;change _=(((S.world.delays++[_]).length:Nat):Int);rw[ap,ci];omega
  rw[e1];show CI (k2 _ _ JB sz) T.state (fs':=oz (B9 S t d i m) W.tb W.c W.dl W.th) λH3 s3 k3=>?_;have hz3:H3 z=some (.lst (iH (B9 S t d i m).world t d)):=by rw[k3 _ _ z2 (cA sz)];have:iH (B9 S t d i m).world t d=(iH S.world t d).set i (iv (jT S.world t.no d i+m)):=Nl hi;rw[this];congr 3
  show k _ RO H3 (h.delay tok ht hd (λb o e n1 n2 n3=>k3 _ _ (k2 _ _ (k1 _ _ e n2) n3) n1) s3 (k3 _ _ (k2 _ _ d1 dz) (cA sdl)) hz3) (λb o e n1 n2 n3=>k3 _ _ (k2 _ _ (k1 _ _ e n2) λq=>?_) n1) (λb nb=>?_)
  .rcases hd with⟨_,q2,_⟩|⟨_,q2,_⟩;.show n3 (q▸q2)
   .rw[q,q2] at e;cases e
  .cases e:H b with
   |none=>rfl
   |some o=>
    by_cases n1:b=s;.rw[n1,s3] at nb;cases nb
    by_cases n2:b=W.dl;.rw[n2,k3 _ _ (k2 _ _ d1 dz) (cA sdl)] at nb;cases nb
    by_cases n3:b=z;.rw[n3,hz3] at nb;cases nb
    .rw[k3 _ _ (k2 _ _ (k1 _ _ e n2) n3) n1] at nb;cases nb
 .walk_at "rds";show fk r1 ?_;walk_at "rds";show fs h.hs ?_;show WL (k:=rk t.no d) h.hd r3 ?_;walk_at "rds";rcases h.del.2.1 t ht d with⟨q1,q2⟩|⟨z,hz,q1,q2⟩
  .rw[q1];rw[show (!(none:Option V).isSome)=true from rfl];walk_at "rds";have hR:n8 A H ra S.world t d:=#[ig,rdx,ta,ka,ca,ga,#[iq,r1,r2,r3,r4,r5]];walk_at "rds";rename_i ta2 hta2 sl2 aeo;show DN (λz j H'=>aq H H'/\H' z=some (.lst (fY j (iv 0)))) aeo (aq.refl _) (λz H' a1 a2 a3=>⟨a3,a2⟩) (λz j H' a1 a2=>a2.1) ?_ ?_;.rintro z j x b H' hz hj hx cG;rintro e1 e2:fo cG;have hj5:j<t.stops.length:=(ai.mp hj).1;walk_at "rds";show jv e2 (by rw[gt];unfold sizeLine;omega) λH2 a1 a2=>⟨aB e1 a2 hz,?_⟩;rw[a1,Pk];rfl
   .rintro z H1 hz cG;rintro e1 e2:fo cG;clear hR;walk_at "rds";show fs (e1 _ _ h.hs) ?_;walk_at "rds";show fk (e1 _ _ r1) ?_;show WM (k:=rk t.no d) (e1 _ _ h.hd) (e1 _ _ r3) (by unfold sizeLine;omega) λH2 d2 k2=>?_;have zd:z≠W.dl:=λq=>by rw[q,h.hd] at hz;cases hz
    show J _ _ #[ii,z,_,z::W.qt,rfl,.inr #[ij,rfl,hz,q1,rfl],#[ic,λb o e n=>k2 _ _ (e1 _ _ e) n,d2,?_]];rw[k2 _ _ e2 zd,Nm q2]
  .rw[q1];rw[show (!(some (V.ref z):Option V).isSome)=false from rfl];walk_at "rds";show J _ _ #[ii,z,dk,W.qt,rfl,.inl #[ij,rfl,hz,q1,rfl],#[ic,λb o e _=>e,h.hd,q2]]
abbrev u0:cK:=top 103
def yW:aU ["state","numbers","stop","minutes","run"] ["state","numbers"] (aG u0):=jy
def KH:List Int->cM->Prop:=λa c=>∃n d i m,a=[n,d,i,m]/\c=.delay n d i m
def Yu{w:ah}{t:ax}{d i m:Nat}:bE { w with delays:=w.delays++[{ no:=t.no,day:=d,at_:=i,minutes:=m }] } t d i=bE w t d i+m:=by unfold bE vT;change Vbpoaf.DAY*d+_+dw (((w.delays++[_]).filter _).map _)=_;rw[cr,aj,pH,cz,eN,if_pos (by simp)];change _+(_+(m+0))=_;omega
def IG(F:i9 K "call_delay" "call_delay" u0 f fd)(T:eX K mg A)(d_:fP P w K mg base 5 "find_run" ["state","number","day"] (kK A))(jk:fP P w K mg base 1 "goes_from" ["run","stop"] (pk A))(wj:fP P w K mg base 1 "add_delay" ["state","run","stop","minutes"] (BB A Tb)):cQ P w K mg base gW 6 f fd ["state","numbers"] (de A Tb KH):=by
 exists F,yW;rintro s nu F B S n args c rfl ⟨no,d,i,m,rfl,rfl⟩ ⟨W,ck,dk,h⟩ so h5 mZ k:vV 8 wb h;have nd:=yW.nd;have s0:=fW (H:=H) (T:=Tb) (ls:=W.ps.map (·.2));have mq:=h.bh _ _ mZ;show #[ia,_,(ae (sv 2 nd (xL (pv 1) aw)) (ae (sv 3 nd (xL (pv 1) aw)) (ae (sv 4 nd (bC d_ hr (qu (pv 0) (xL (pv 1) aw) (xL (pv 1) aw)))) (ae (kW (fq (jg (pv 4))) (bI (eM (bG T.sW)))) (ae (kW (lX (PW.pt (kI (fF (bC jk hr (mz (pv 4) (pv 2)))) (lp (tw jL jL aw (pv 3) aw))))) (bI (eM (bG T.fg)))) (ae (kW (kq qH (xL (du 4) (pv 2)) (du 0)) (bI (eM (bG T.zJ)))) (ae (kW (kq lI (du 0) (bG T.yL)) (bI (eM (bG T.zK)))) (ae (dN (bC wj hr (dS (pv 0) (qu (pv 4) (pv 2) (pv 3))))) (kY (bI (eM (fB iI (xL (du 4) (pv 2)) (pv 3))))))))))))),?_];dsimp only[dj];exists bY (cf.of mq) (aV (j:=2) rfl) ?_;exists bY (cf.of mq) (aV (j:=3) rfl) ?_;exists bY (cf.of mq) (aV (j:=0) rfl) ?_;exists bY (cf.of mq) (aV (j:=1) rfl) ?_;exists #[ig,s,_,S,no,d,#[ip,rfl,s0,h.view.at_,so.tok,λe H1 e1=>?_,λra j t F1 H1 h0 hj FO hgo JA g1 RY=>?_]];.left;show jw λp H2 hp jH e2=>?_;show vX h k (a:={ value:=-5 }) (by simp only[az,dC,e];try rfl) (e1.trans e2) (e1.free hp) jH
 .have tk:=so.tok.ok t (gl hj);have lw:=tk.lw;have s1:=g1.fh;have h1:=h.same g1.hh;have hR:n8 A F1 ra S.world t d.toNat:=RY.at_;rintro rdx ta ka ca ga r1 r2 r3 r4 r5 r6:DL 9 fo RY;exists #[iy,ra,F1,S.world,t,#[ik,d.toNat,i,rfl,s1,hR,lw,?_]];left;clear hR;have JW:az S (.delay no d i m)=if (aH i 0 9&&(decide (i.toNat+1<t.stops.length)&&aH m 1 1000))=false then md S (-1)
   else if bE S.world t d.toNat i.toNat<S.now then md S (-6)
   else if HH<=S.world.delays.length then md S (-3)
   else (B9 S t d.toNat i.toNat m.toNat,{ value:=(bE (B9 S t d.toNat i.toNat m.toNat).world t d.toNat i.toNat:Int) }):=by
   simp only[az,dC,JA];rfl
  have bad:(FE t i&&(decide ((1:Int)<=m)&&decide (m<=1000)))=false->∀p H2,H1 p=none->aq H1 H2->H2 p=some (.lst (cN [-1]))->Q (.ref p) H2:=λhb p H2 hp e2 jH=>by
   show vX h k (a:={ value:=-1 }) ?_ (g1.hh.trans e2) (g1.hh.free hp) jH;rw[JW,if_pos];.rfl
   .rw[<-Bool.and_assoc];show hb
  show oh (λh2=>?_) (λh2=>?_)<;>left
  .show cY (λh3=>?_) (λh3=>?_)<;>left
   .show j7 (λh4=>?_) (λh4=>?_)<;>left;.show jw λp H2 hp jH e2=>?_;show bad (by rw[decide_eq_false h4,yo,yo]) p H2 hp e2 jH
    .have BQ:=h2;unfold FE aH at BQ;simp only[ak,decide_eq_true_eq] at BQ;rintro iN rfl:bW (⟨i.toNat,by omega⟩:∃q:Nat,i=q);rintro mN rfl:bW (⟨m.toNat,by omega⟩:∃q:Nat,m=q);simp only[kr] at JW BQ;have good:¬(aH (iN:Int) 0 9&&(decide (iN+1<t.stops.length)&&aH (mN:Int) 1 1000))=false:=by
      rw[Ut];unfold aH;simp only[ak,decide_eq_true_eq];omega
     rw[if_neg good] at JW;have aw8:ra≠s:=λq=>by
      have e1:=s1 _ _ r1;rw[q,h1.hs] at e1;have e2:=congrArg (λo:Option HO=>match o with
       |some (.ins _ _ ((f,_)::_))=>some f
       |_=>none) e1
      have e3:some ("table":Str)=some ("trip":Str):=e2;revert e3;decide +kernel
     show c8 (s1 _ _ r1) T.run ?_ (FS ..);exists bY (v:=iv (bE S.world t d.toNat iN)) (cf.of (s1 _ _ r5)) (aV (j:=iN) (by rw[aF,f9 (by omega)];rfl)) ?_;exists c8 (v:=iv S.now) h1.hs T.state ?_;exists cY (λh6=>?_) (λh6=>?_)<;>left;.show jw λp H2 hp jH e2=>?_;show vX h k (a:={ value:=-6 }) (by rw[JW,if_pos (by omega)];rfl) (g1.hh.trans e2) (g1.hh.free hp) jH
     .rw[if_neg (by omega)] at JW;show c8 (v:=iv S.world.delays.length) h1.hs T.state ?_;left;have h40:=h5.Nn;show cY (λh7=>?_) (λh7=>?_)<;>left;.show jw λp H2 hp jH e2=>?_;show vX h k (a:={ value:=-3 }) (by rw[JW,if_pos (by unfold HH;omega)];rfl) (g1.hh.trans e2) (g1.hh.free hp) jH
      .rw[if_neg (by unfold HH;omega)] at JW;show #[iw,s,ra,F,B,S,W,ck,dk,#[il,t,d.toNat,iN,mN,rfl,h1,n8.mono s1 #[ig,rdx,ta,ka,ca,ga,#[iq,r1,r2,r3,r4,r5]],gl hj,#[ij,so.tok,by omega,h40,λW' dk' H2 hS fr nv=>?_]]];have alx:=fr _ _ (s1 _ _ r1) aw8 (oy (s1 _ _ r1) h1.hd) (λq=>by rintro _ _ xs e:lB 2 bW<|h1.qt ra q;rw[s1 _ _ r1] at e;cases e);have atd:=fr _ _ (s1 _ _ r5) (oy (s1 _ _ r5) h1.hs) (oy (s1 _ _ r5) h1.hd) (λq=>by rintro _ _ xs e:lB 2 bW<|h.qt ga q;rw[r6] at e;cases e);exists c8 alx T.run ?_ (FS ..);exists bY (v:=iv (bE S.world t d.toNat iN)) (cf.of atd) (aV (j:=iN) (by rw[aF,f9 (by omega)];rfl)) ?_;exists jw λp H3 hp yO e3=>?_;rw[JW] at k;show k p F H3 #[ir,W',ck,⟨dk',hS.same e3⟩] (aq.refl _) (λ_ _ _ n=>n) (g1.hh.free (nv p hp)) ?_;rw[yO];have:bE (B9 S t d.toNat iN mN).world t d.toNat iN=bE S.world t d.toNat iN+mN:=Yu;rw[this];change some (HO.lst [V.int _])=some (HO.lst [V.int _]);congr 4
   .show jw λp H2 hp jH e2=>?_;show bad (by rw[decide_eq_false h3,kZ,yo]) p H2 hp e2 jH
  .show jw λp H2 hp jH e2=>?_;show bad (by rw[h2,kZ]) p H2 hp e2 jH
end
end TT
end
namespace TT
def BG(F F':Hp):Hp:=λb=>match F b with
 |some o=>some o
 |none=>match F' b with
  |some (.tup xs)=>some (.tup xs)
  |_=>none
section
variable{F F' H:Hp}{b:af}{o:HO}{xs:List V}
def Ha:aq F (BG F F'):=λb o e=>by unfold BG;rw[e]
def OO(s:aq F F')(e:F' b=some (.tup xs)):BG F F' b=some (.tup xs):=by
 unfold BG;cases h:F b with
 |none=>rw[e]
 |some o=>rw[s _ _ h] at e;cases e;rfl
def Ui(s:aq F F'):aq (BG F F') F':=λb o e=>by
 unfold BG at e;cases h:F b with
 |some u=>rw[h] at e;cases e;show s _ _ h
 |none=>
  rw[h] at e;dsimp only at e;split at e;.rename_i q;cases e;show q
  .cases e
def EZ(n:F b=none)(h:∀xs,F' b≠some (.tup xs)):BG F F' b=none:=by
 unfold BG;rw[n];dsimp only;split;.rename_i xs q;show absurd q (h xs)
 .rfl
def tM(n:F b=none)(s:aq F' H)(e:H b=some o)(ho:∀xs,o≠.tup xs):BG F F' b=none:=EZ n λxs q=>by
 rw[s _ _ q] at e;cases e;show ho _ rfl
end
def oN.tup{F F':Hp}{w:ah}{b:af}{g:dP}(s:aq F F')(h:oN w F' b g):oN w (BG F F') b g:=fD h λka t h1 h2 h3=>#[ib,ka,t,OO s h1,OO s h2,h3]
theorem D7(S:aO)(t:Nat):∀l:List bv,dw ((l.map (jR S t)).map λx=>x.begun.length)=dw (l.map λx=>x.begun.length)+cnt S t l
 |[]=>rfl
 |x::l=>by
  have ih:=D7 S t l;change ((jR S t x).begun.length+dw ((l.map (jR S t)).map λx=>x.begun.length))=(x.begun.length+dw (l.map λx=>x.begun.length))+(((lu (eI S x)).filter (dI S.world t)).length+cnt S t l);rw[ih];change ((x.begun++(lu (eI S x)).filter (dI S.world t)).length+_)=_;rw[ap];omega
theorem M3{A:dW}{F F' H H':Hp}{w:ah}{S:aO}{t:Nat}(s:aq F F'):∀{ps:List (af×af)}{xs:List bv},cg (sL A F H w) ps xs->cg (sL A F' H' w) ps (xs.map (jR S t))->cg (sL A (BG F F') H' w) ps (xs.map (jR S t))
 |_,_,.nil,_=>.nil
 |_,_,.cons ⟨⟨dx,h1⟩,_⟩ t1,.cons ⟨_,bs,h2,h3⟩ t2=>.cons #[io,⟨dx,Ha _ _ h1⟩,bs,h2,bF (λ_ _ q=>q.tup s) h3] (M3 s t1 t2)
section
variable{P:aS}{w:bL}{K:ad}{mg:Str->Option ag}{base:cE}{A:dW}{f:af}{fd:b_}{Tb:af}
abbrev xz:cK:=top 105
def Br:aU ["state","numbers","present","count"] ["state","numbers"] (aG xz):=jy
def PJ:List Int->cM->Prop:=λa c=>∃t,a=[t]/\c=.time t
def LG(F:i9 K "call_time" "call_time" xz f fd)(T:eX K mg A)(gE:fP P w K mg base 1 "is_time" ["number"] nM)(qT:fP P w K mg base 9 "begin_rides" ["state","until"] (xX A Tb)):cQ P w K mg base gW 10 f fd ["state","numbers"] (de A Tb PJ):=by
 exists F,Br;rintro s nu F B S n args c rfl ⟨t,rfl,rfl⟩ ⟨W,ck,dk,h⟩ so h5 mZ k:vV 8 wb h;have nd:=Br.nd;have s0:=fW (H:=H) (T:=Tb) (ls:=W.ps.map (·.2));have mq:=h.bh _ _ mZ;show #[ia,_,(ae (sv 2 nd (xL (pv 1) aw)) (ae (kW (lX (fF (bC gE hr (eM (pv 2))))) (bI (eM (bG T.fg)))) (ae (kW (kq qH (pv 2) (du 0)) (bI (eM (bG T.qZ)))) (ae (sv 3 nd (bC qT hr (mz (pv 0) (pv 2)))) (ae (cF (pv 0) (pv 2) rfl) (kY (bI (eM (pv 3))))))))),?_];dsimp only[dj];exists bY (cf.of mq) (aV (j:=0) rfl) ?_;exists #[ia,t,rfl,?_];exists oj (λh1=>?_) (λh1=>?_)<;>left;.show jw λp H2 hp jH e2=>?_;show vX h k (a:={ value:=-1 }) (by simp only[az];rw[if_pos h1];rfl) e2 hp jH
 .rintro m rfl:bW (⟨t.toNat,by unfold aH at h1;simp only[ak,decide_eq_true_eq] at h1;omega⟩:∃m:Nat,t=m);show c8 (v:=iv S.now) h.hs T.state ?_;exists cY (λh2=>?_) (λh2=>?_)<;>left;.show jw λp H2 hp jH e2=>?_;show vX h k (a:={ value:=-7 }) (by simp only[az];rw[if_neg (by rw[h1];decide),if_pos h2];rfl) e2 hp jH
  .rintro q1 q2 q3 q4 q5 q6:Iw h.pieces;have ndd:=h.nd;rw[bJ,dU] at ndd;show #[iw,s,W.dx,W.tb,W.c,W.dl,W.th,_,S,#[ii,n,m,W.ps,rfl,s0,#[iu,CU,so,h.tab,q1,q2,q3,#[ip,q4,q5,q6,ndd.2.1,λp hp=>by unfold seen;rw[if_pos (.inr (aY.mpr #[ia,p,hp,rfl]))],λF1 H1 f1 f2 f3 f4 f5 f6 f7=>?_]]]];have sF:aq F F1:=h.SI.trans f1;have up:∀{b o},H b=some o->(∀q,o≠.Az q)->(∀q,o≠.lst q)->H1 b=some o:=λ{b o}e n1 n2=>f5 _ _ e (h.tne e n1) (h.nl e n2);have upl:∀{b xs},H b=some (.lst xs)->b∉W.ps.map (·.2)->H1 b=some (.lst xs):=λ{b xs}e n=>f5 _ _ e (h.tne e (by intro q z;cases z)) n;have upF:aq F H1:=sF.trans f2;have upB:aq B H1:=λb o e=>f5 _ _ (h.bh _ _ e) (aI e h.bT) λz=>by
    rintro p hp rfl:bM<|List.mem_map.mp z;rw[(h.fp p hp).2] at e;cases e
   have JB:=up h.hs (by intro q z;cases z) (by intro q z;cases z);have dln:∀a∈W.qt,a∉W.ps.map (·.2):=λa ha z=>ndd.2.2.2 a z a ha rfl;exists CI JB T.state (fs':=oz (wf S m) W.tb W.c W.dl W.th) λH2 s2 k2=>?_;exists jw λp H3 hp yO e3=>?_;have kE:az S (.time (m:Int))=(wf S m,{ value:=(cnt S m S.loads:Int) }):=by simp only[az];rw[if_neg (by rw[h1];decide),if_neg h2];simp only[kr,Gp,D7];congr 2;omega
   rw[kE] at k;have hS:qz A Tb (BG F F1) B H2 s (wf S m) W ck dk:=by
    have kk:∀{b o},H1 b=some o->(∀a b c,o≠.ins a b c)->H2 b=some o:=λ{b o}e n=>k2 _ _ e (DJ e JB (n _ _ _));have sT:aq (BG F F1) H1:=(Ui sF).trans f2;have fs:=tM h.fs f2 JB (by intro q z;cases z);have hc1:=up h.hc (by intro q z;cases z) (by intro q z;cases z);have R3:=up h.hd (by intro q z;cases z) (by intro q z;cases z);have UQ:=upl h.ht (λz=>ndd.1 (fO _ z));show⟨aB sT k2 fs,aB upB k2 h.bs,EZ h.fT (λxs q=>by rw[f3] at q;cases q),h.bT,f4.keep k2 (by rw[JB];show eZ),fs,h.bs,s2,j8.mono Ha h.table,tM h.fc f2 hc1 (by intro q z;cases z),h.bc,kk hc1 (by intro a b c z;cases z),h.off,h.cd,tM h.fd f2 R3 (by intro q z;cases z),h.bd,kk R3 (by intro a b c z;cases z),?_,?_,tM h.ft f2 UQ (by intro q z;cases z),h.bt,kk UQ (by intro a b c z;cases z),?_,?_,h.nd⟩;.show #[ic,h.del.1,λt ht d=>(h.del.2.1 t ht d).imp id λ⟨a,ha,q1,q2⟩=>#[ie,a,ha,q1,kk (upl q2 (dln a ha)) (by intro a b c z;cases z)],h.del.2.2]
    .intro a ha;rintro q1 q2 xs q3:lB 2 bW<|h.qt a ha
     have q4:=upl q3 (dln a ha);show #[ic,tM q1 f2 q4 (by intro q z;cases z),q2,⟨xs,kk q4 (by intro a b c z;cases z)⟩]
    .rw[Gp];show bF (λp x⟨h1,bs,h2,h3⟩=>#[io,h1,bs,kk h2 (by intro a b c z;cases z),h3]) (M3 sF h.loads f7)
    .show λp hp=>⟨EZ (h.fp p hp).1 (λxs q=>by rw[f6 p hp] at q;cases q),(h.fp p hp).2⟩
   have Qe:H p=none:=by
    cases e:H p with
    |none=>rfl
    |some o=>
     exfalso;by_cases z1:p=Tb;.show (f4.keep k2 (by rw[JB];show eZ)).ne (by rw[<-z1];show hp)
     .by_cases z2:p∈W.ps.map (·.2);.rintro pp YS rfl:bM<|List.mem_map.mp z2;rintro bs e2:bW<|hS.lst YS;rw[hp] at e2;cases e2
      .by_cases z3:p=s;.rw[z3,s2] at hp;cases hp
       .rw[k2 _ _ (f5 _ _ e z1 z2) z3] at hp;cases hp
   show k p (BG F F1) H3 #[ir,W,ck,⟨dk,hS.same e3⟩] Ha (λb xs e nb=>?_) Qe (by rw[yO];rfl);by_cases z:b∈W.ps.map (·.2);.rintro pp YS rfl:bM<|List.mem_map.mp z;show EZ nb λxs q=>by rw[f6 pp YS] at q;cases q
   .show tM nb f2 (upl e z) (by intro q z;cases z)
abbrev uW:cK:=lK (top 76) 0
def IX:aU ["self","number","origin","goal","kind","amount","rank","ready"] ["self","number","origin","goal","kind","amount","rank","ready"] (aG uW):=jy
def zb(A:dW):Sp:=λvs H Q _=>∃(x dx:af)(v0 v1 v2 v3 v4 v5 v6:V),vs=[.ref x,v0,v1,v2,v3,v4,v5,v6]/\H x=some (.ins A.iL dx [])/\
 ∀l H',H l=none->H' l=some (.lst [])->H' x=some (.ins A.iL dx [("number",v0),("origin",v1),("goal",v2),("kind",v3),("amount",v4),("rank",v5),("ready",v6),("promise",.int (-1)),("begun",.ref l)])->eA H H' x->Q .non H'
def IC(F:i9 K "__init__" "Thing.__init__" uW f fd)(T:eX K mg A):cQ P w K mg base gW 1 f fd ["self","number","origin","goal","kind","amount","rank","ready"] (zb A):=by
 exists F,IX;rintro x dx v0 v1 v2 v3 v4 v5 v6 rfl hx k:vV 8 gF h;show #[ia,_,(ae (cF (pv 0) (pv 1) rfl) (ae (cF (pv 0) (pv 2) rfl) (ae (cF (pv 0) (pv 3) rfl) (ae (cF (pv 0) (pv 4) rfl) (ae (cF (pv 0) (pv 5) rfl) (ae (cF (pv 0) (pv 6) rfl) (ae (cF (pv 0) (pv 7) rfl) (ae (cF (pv 0) (bG T.uk) rfl) (bA (cF (pv 0) (bI jf) rfl)))))))))),?_];dsimp only[dj];exists dL hx T.iL λH1 h1 k1=>?_;exists dL h1 T.iL λH2 h2 k2=>?_;exists dL h2 T.iL λH3 h3 k3=>?_;exists dL h3 T.iL λH4 h4 k4=>?_;exists dL h4 T.iL λH5 h5 k5=>?_;exists dL h5 T.iL λH6 h6 k6=>?_;exists dL h6 T.iL λH7 h7 k7=>?_;exists dL h7 T.iL λH8 h8 k8=>?_;have kA:=cZ (cZ (cZ (cZ (cZ (cZ (cZ k1 k2) k3) k4) k5) k6) k7) k8;exists jw λl H9 hl hl9 e9=>?_;exists dL (e9 _ _ h8) T.iL λYh RX k10=>?_;have nl:l≠x:=cA (aI h8 hl);show k l Yh ?_ (k10 _ _ hl9 nl) RX (λb o e n=>k10 _ _ (e9 _ _ (kA b o e n)) n);cases e:H l with
 |none=>rfl
 |some o=>rw[kA _ _ e nl] at hl;cases hl
abbrev Aj:cK:=top 110
def OA:aU ["numbers"] ["numbers"] (aG Aj):=jy
def r8(id a b k n r t:Int):Bool:=aH id 1 9999&&(cC a&&(cC b&&(a != b&&(aH k 0 1&&(aH n 1 999&&(aH r 0 9&&aH t 0 lh))))))
def D2:Sp:=λvs H Q _=>∃(nu:af)(id a b k n r t:Int),vs=[.ref nu]/\H nu=some (.lst (cN [id,a,b,k,n,r,t]))/\Q (.bl (r8 id a b k n r t)) H
def N_(F:i9 K "is_thing" "is_thing" Aj f fd)(T:eX K mg A)(d9:fP P w K mg base 1 "is_office" ["number"] mT)(gE:fP P w K mg base 1 "is_time" ["number"] nM):cQ P w K mg base gW 2 f fd ["numbers"] D2:=by
 exists F,OA;rintro nu id a b kk n r t rfl hn k:vV 8 lB h;show #[ia,_,(ae (kW (PW.pt (kf (lX (PW.pt (kI (fF (bC d9 hr (eM (xL (pv 0) aw)))) (lp (fF (bC d9 hr (eM (xL (pv 0) aw)))))))) (jh (kq lI (xL (pv 0) aw) (xL (pv 0) aw))))) JM) (ae (kW (lX (PW.pt (kI (tw jL jL aw (xL (pv 0) aw) aw) (kI (tw jL jL aw (xL (pv 0) aw) aw) (lp (tw jL jL aw (xL (pv 0) aw) aw)))))) JM) (kY (QL (xh jL jL aw (xL (pv 0) aw) aw) (QM (bC gE hr (eM (xL (pv 0) aw)))))))),?_];dsimp only[dj];have done:∀v:Bool,v=r8 id a b kk n r t->Q (.bl v) H:=λv e=>by rw[e];show k
 exists bY (cf.of hn) (aV (j:=1) rfl) ?_;exists #[ia,a,rfl,?_];exists oh (λh1=>?_) (λh1=>?_)<;>left
 .show bY (cf.of hn) (aV (j:=2) rfl) ?_;exists #[ia,b,rfl,?_];exists oj (λh2=>?_) (λh2=>?_)<;>left;.show done _ (by unfold r8;rw[h1,h2];simp)
  .show bY (cf.of hn) (aV (j:=1) rfl) ?_;exists bY (cf.of hn) (aV (j:=2) rfl) ?_;exists cY (λh3=>?_) (λh3=>?_)<;>left;.show done _ (by unfold r8;rw[h3];simp)
   .have e0:r8 id a b kk n r t=((decide ((1:Int)<=id)&&decide (id<=9999))&&((decide ((0:Int)<=kk)&&decide (kk<=1))&&((decide ((1:Int)<=n)&&decide (n<=999))&&((decide ((0:Int)<=r)&&decide (r<=9))&&aH t 0 lh)))):=by
     unfold r8;rw[h1,h2,show (a != b)=true by simp[h3]];rfl
    rw[e0] at done;show bY (cf.of hn) (aV (j:=0) rfl) ?_;exists cY (λh4=>?_) (λh4=>?_)<;>left
    .show cY (λh5=>?_) (λh5=>?_)<;>left
     .show bY (cf.of hn) (aV (j:=3) rfl) ?_;exists cY (λh6=>?_) (λh6=>?_)<;>left
      .show cY (λh7=>?_) (λh7=>?_)<;>left
       .show bY (cf.of hn) (aV (j:=4) rfl) ?_;exists cY (λh8=>?_) (λh8=>?_)<;>left
        .show j7 (λh9=>?_) (λh9=>?_)<;>left;.show done _ (by simp[h9])
         .show QQ ?_;exists bY (cf.of hn) (aV (j:=5) rfl) ?_;exists cY (λRX=>?_) (λRX=>?_)<;>left
          .show L3 ?_;show cY (λh11=>?_) (λh11=>?_)<;>left;.show bY (cf.of hn) (aV (j:=6) rfl) ?_;exists #[ia,t,rfl,done _ (by simp[h4,h5,h6,h7,h8,h9,RX,h11])]
           .show done _ (by simp[h11])
          .show L3 ?_;exists done _ (by simp[RX])
        .show done _ (by simp[h8])
       .show done _ (by simp[h7])
      .show done _ (by simp[h6])
     .show done _ (by simp[h5])
    .show done _ (by simp[h4])
 .show done _ (by unfold r8;rw[h1];simp)
def Ms{l:List bv}(h:(l.map λx=>x.id).Nodup){x:bv}(hx:x∈l):(l.filter λy=>y.id != x.id).length+1=l.length:=by
 induction l with
 |nil=>cases hx
 |cons a l ih=>
  rw[bD,bJ] at h;rw[cz];rcases aD.mp hx with e|hx
  .rw[if_neg (by simp[e])];have:(l.filter λy=>y.id != x.id)=l:=by
    rw[List.filter_eq_self];intro y hy;have:y.id≠a.id:=λz=>h.1 (aY.mpr #[ia,y,hy,z]);rw[e];simp[this]
   rw[this];rfl
  .rw[if_pos];.rw[aP,aP,ih h.2 hx]
   .have:a.id≠x.id:=λz=>h.1 (aY.mpr #[ia,x,hx,z.symm]);simp[this]
abbrev oI:cK:=top 111
def tE:aU ["state","numbers","thing","other"] ["state","numbers"] (aG oI):=jy
def zD:List Int->cM->Prop:=λa c=>∃i,a=[i]/\c=.withdraw i
def CB(F:i9 K "call_withdraw" "call_withdraw" oI f fd)(T:eX K mg A)(fw:fP P w K mg base 1 "find_thing" ["state","number"] (lJ A)):cQ P w K mg base gW 2 f fd ["state","numbers"] (de A Tb zD):=by
 exists F,tE;rintro s nu F B S n args c rfl ⟨id,rfl,rfl⟩ ⟨W,ck,dk,h⟩ so h5 mZ k:vV 8 wb h;have nd:=tE.nd;have s0:=fW (H:=H) (T:=Tb) (ls:=W.ps.map (·.2));have mq:=h.bh _ _ mZ;show #[ia,_,(ae (sv 2 nd (bC fw hr (mz (pv 0) (xL (pv 1) aw)))) (ae (kW (fq (jg (pv 2))) (bI (eM (bG T.ul)))) (ae (kW (kq yR (xb T.fb (du 2)) aw) (bI (eM (bG T.Dt)))) (ae (cF (pv 0) (og rfl nd (dM (du 0)) (fe (own:=[("other",3)]) (by kernel_rfl)) (λ_ _ _ _ _=>(gv 3 nd)) (λ_ _ _ _ _=>(Bh (kq oa (jU (K:=K) (pv 3) rfl) (jU (K:=K) (pv 2) rfl)))) (λ_ _ _ _ _=>(pv 3))) rfl) (kY (bI (eM (xb T.fb (du 0))))))))),?_];dsimp only[dj];exists bY (cf.of mq) (aV (j:=0) rfl) ?_;exists #[ig,s,_,H,S,id,#[iq,rfl,s0,h.view,λe=>?_,λx a e Ip hBx=>?_]];.left;show jw λp H2 hp jH e2=>?_;show vX h k (a:={ value:=-4 }) (by change (match gk S id with|none=>_|some x=>_)=_;rw[e];rfl) e2 hp jH
 .rintro bl XE hxa O8 hbp:fD hBx;exists h_ (cf.of O8) ?_;rw[ab,hbp.length];left;have kE:az S (.withdraw id)=if x.begun.isEmpty=false then md S (-9) else ({ S with loads:=S.loads.filter λy=>y.id != x.id },{ value:=(S.loads.length:Int) - 1 }):=by
   change (match gk S id with|none=>_|some x=>_)=_;rw[e]
  show cY (λh1=>?_) (λh1=>?_)<;>left
  .show jw λp H2 hp jH e2=>?_;show vX h k (a:={ value:=-9 }) ?_ e2 hp jH;rw[kE,if_pos];.rfl
   .cases hb:x.begun with
    |nil=>rw[hb] at h1;simp at h1
    |cons=>rfl
  .have hem:x.begun=[]:=by
    cases hb:x.begun with
    |nil=>rfl
    |cons=>rw[hb] at h1;simp at h1
   rw[if_neg (by rw[hem];decide)] at kE;rw[kE] at k;show c8 (v:=.ref W.th) h.hs T.state ?_;exists Bj (xs:=(W.ps.map (·.1)).map V.ref) (λz i H'=>aq H H'/\∃WE:List (af×af),WE.Sublist (W.ps.take i)/\H' z=some (.lst ((WE.map (·.1)).map V.ref))/\cg (sL A F H S.world) WE ((S.loads.take i).filter λy=>y.id != x.id)) (cf.of h.ht) (λz H' a1 a2 a3=>#[io,a3,[],List.nil_sublist _,⟨a2,.nil⟩]) (λz i H' hz _ q=>cf.of (q.1 _ _ h.ht)) ?_ ?_
   .rintro z i v H' hz hv cG;rintro e1 WE e2 e3 e4:EQ 3 fo cG;rintro pb UN rfl:bM<|o7 hv;rw[aF] at UN;rintro pp YS rfl:bM<|Option.map_eq_some_iff.mp UN;rintro y hy hpy:bM<|fE h.loads YS;have V8:=hpy.1;have SG:aq F H':=h.fh.trans e1;have s1:=s0.trans e1;have hi10:i<10:=bg (ai.mp hy).1 so.Mo;have hlen:WE.length<=10:=by
     have:=e2.length_le;rw[aM] at this;omega
    exists j7 (λh2=>?_) (λh2=>?_)<;>left
    .show jv e3 (by rw[ab,ab];unfold sizeLine;omega) λH2 a1 a2=>#[io,aB e1 a2 hz,WE++[pp],?_,⟨?_,?_⟩];.rw[bR YS];show ail e2 (ain _)
     .rw[a1,aj,aj];rfl
     .rw[bR hy,cr,cz,eN,if_pos (by simp;omega)];show lW e4 (.cons hpy .nil)
    .show #[io,e1,WE,?_,⟨e3,?_⟩];.rw[bR YS];show aio e2 (List.sublist_append_left _ _)
     .rw[bR hy,cr,cz,eN,if_neg (by simp;omega),b9];show e4
   .rintro z H1 hz cG;rintro e1 WE e2 e3 e4:EQ 3 fo cG;have Qb:=h.loads.length;rw[ab,ab] at e2 e4;rw[aK] at e2;rw[Qb,aK] at e4;exists CI (e1 _ _ h.hs) T.state (fs':=oz { S with loads:=S.loads.filter λy=>y.id != x.id } W.tb W.c W.dl z) λH2 s2 k2=>?_;have zs:z≠s:=λq=>by rw[q,h.hs] at hz;cases hz
    have hz2:=k2 _ _ e3 zs;exists c8 (v:=.ref z) s2 T.state ?_;exists h_ (cf.of hz2) ?_;rw[ab,ab,e4.length];exists jw λp H3 hp yO e5=>?_;have aa1:∀q∈WE,q∈W.ps:=λq hq=>e2.subset hq;have YM:=h.nd;rw[bJ,dU] at YM;have aoh:∀b o,H b=some o->z≠b:=λb o e q=>by rw[<-q,hz] at e;cases e
    have h1:=h.same e1;have kk:∀{b o},H1 b=some o->(∀a b c,o≠.ins a b c)->H2 b=some o:=λ{b o}e n=>k2 _ _ e (DJ e h1.hs (n _ _ _));have hS:qz A Tb F B H2 s { S with loads:=S.loads.filter λy=>y.id != x.id } { W with th:=z,ps:=WE } ck dk:=by
     show⟨aB h1.fh k2 h.fs,aB h1.bh k2 h.bs,h.fT,h.bT,h1.tab.keep k2 (by rw[h1.hs];show eZ),h.fs,h.bs,s2,h.table,h.fc,h.bc,kk h1.hc (by intro a b c q;cases q),h.off,h.cd,h.fd,h.bd,kk h1.hd (by intro a b c q;cases q),?_,?_,h.fh.free hz,h.bh.free hz,hz2,?_,λq hq=>h.fp q (aa1 q hq),?_⟩;.show #[ic,h.del.1,λt ht d=>(h1.del.2.1 t ht d).imp _root_.id λ⟨a,ha,q1,q2⟩=>#[ie,a,ha,q1,kk q2 (by intro a b c q;cases q)],h.del.2.2]
     .intro q hq;rintro q1 q2 xs q3:lB 2 bW<|h1.qt q hq
      show #[ic,q1,q2,⟨xs,kk q3 (by intro a b c q;cases q)⟩]
     .show bF (λq y⟨q1,bs,q2,q3⟩=>#[io,q1,bs,kk (e1 _ _ q2) (by intro a b c q;cases q),q3]) e4
     .change (z::(WE.map (·.2)++W.qt)).Nodup;rw[bJ,dU];show #[ij,λq=>?_,(e2.map _).nodup YM.2.1,YM.2.2.1,λq hq b hb=>YM.2.2.2 q ((e2.map _).subset hq) b hb];rcases br.mp q with q|q;.rintro pp YS e:bM<|List.mem_map.mp q;rintro bs e6:bW<|h.lst (aa1 pp YS);show aoh _ _ e6 e.symm
      .rintro _ _ xs e6:lB 2 bW<|h.qt z q;show aoh _ _ e6 rfl
    have Qe:H p=none:=by
     cases e:H p with
     |none=>rfl
     |some o=>
      by_cases q:p=s;.rw[q,s2] at hp;cases hp
      .rw[k2 _ _ (e1 _ _ e) q] at hp;cases hp
    show k p F H3 #[ir,_,ck,⟨dk,hS.same e5⟩] (aq.refl _) (λ_ _ _ n=>n) Qe ?_;rw[yO];have as1:(S.loads.filter λy=>y.id != x.id).length+1=S.loads.length:=Ms so.ids Ip;have e7:(((S.loads.filter λy=>y.id != x.id).length:Nat):Int)=(S.loads.length:Int) - 1:=by omega
    change some (HO.lst [V.int (((S.loads.filter λy=>y.id != x.id).length:Nat):Int)])=some (HO.lst [V.int ((S.loads.length:Int) - 1)]);rw[e7]
end
end TT
section
local macro_rules|`(tactic| walk_at "rds")=>`(tactic| repeat ((fail_if_success (with_reducible refine mO ?_));(first|walk_at "rd1"|walk_at "fld")))
namespace TT
section
variable{P:aS}{w:bL}{K:ad}{mg:Str->Option ag}{base:cE}{A:dW}{f:af}{fd:b_}{Tb:af}
def qz.post{A:dW}{T:af}{F B H H2:Hp}{s x dx l:af}{S:aO}{W:Wh}{ck dk:List (List ez×V)}{y:bv}(h:qz A T F B H s S W ck dk)(hy:y.begun=[])(hx:H x=none)(hl:H l=none)(xl:x≠l)
 (k2:∀b o,H b=some o->b≠W.th->H2 b=some o) (x2:H2 x=some (.ins A.iL dx (wF S.world y l))) (l2:H2 l=some (.lst [])) (t2:H2 W.th=some (.lst ((W.ps.map (·.1)).map V.ref++[.ref x]))):qz A T (Fz F H2 [x]) B H2 s { S with loads:=S.loads++[y] } { W with ps:=W.ps++[(x,l)] } ck dk:=by
 have sF:aq F H2:=λb o e=>k2 _ _ (h.fh _ _ e) (aI e h.ft);have sB:aq B H2:=λb o e=>k2 _ _ (h.bh _ _ e) (aI e h.bt);have kk:∀{b o},H b=some o->(∀xs,o≠.lst xs)->H2 b=some o:=λ{b o}e n=>k2 _ _ e (DJ e h.ht (n _));have nd:=h.nd;rw[bJ,dU] at nd;have kl:∀{b xs},H b=some (.lst xs)->b≠W.th->H2 b=some (.lst xs):=λe n=>k2 _ _ e n;have no:∀{b o},H b=some o->F b=none->Fz F H2 [x] b=none:=λ{b o}e n=>Fz.no (by rw[aX];intro z;rw[z,hx] at e;cases e) n;have sub:aq F (Fz F H2 [x]):=Fz.sub sF;have dln:∀a∈W.qt,a≠W.th:=λa ha z=>nd.1 (cj _ (z▸ha));have psn:∀p∈W.ps,p.2≠W.th:=λp hp z=>nd.1 (fO _ (aY.mpr #[ia,p,hp,z]));rintro Ug hT hTr:bM h.tab;show⟨Fz.same sF,sB,no hT h.fT,h.bT,#[ia,Ug,kk hT (by intro q z;cases z),hTr.imp id λ⟨c,oc,vs,t,q1,q2,q3⟩=>#[iy,c,oc,vs,t,#[ic,q1,kk q2 (by intro q z;cases z),q3]]],no h.hs h.fs,h.bs,kk h.hs (by intro q z;cases z),j8.mono sub h.table,no h.hc h.fc,h.bc,kk h.hc (by intro q z;cases z),h.off,h.cd,no h.hd h.fd,h.bd,kk h.hd (by intro q z;cases z),?_,?_,no h.ht h.ft,h.bt,?_,?_,?_,?_⟩;.show #[ic,h.del.1,λt ht d=>(h.del.2.1 t ht d).imp id λ⟨a,ha,q1,q2⟩=>#[ie,a,ha,q1,kl q2 (dln a ha)],h.del.2.2]
 .intro a ha;rintro q1 q2 xs q3:lB 2 bW<|h.qt a ha
  show #[ic,no q3 q1,q2,⟨xs,kl q3 (dln a ha)⟩]
 .change H2 W.th=some (.lst (((W.ps++[(x,l)]).map (·.1)).map V.ref));rw[t2,aj,aj];rfl
 .change cg _ (W.ps++[(x,l)]) (S.loads++[y]);show lW ?_ (.cons #[io,⟨dx,Fz.get (by simp) x2⟩,[],l2,by rw[hy];show .nil] .nil);have gen:∀{ps:List (af×af)}{xs:List bv},(∀p∈ps,p∈W.ps)->cg (sL A F H S.world) ps xs->cg (sL A (Fz F H2 [x]) H2 S.world) ps xs:=by
   intro ps xs hp hq;induction hq with
   |nil=>show .nil
   |cons r tt ih=>rintro r1 bs r2 r3:EQ r;show .cons #[io,fN.mono sub r1,bs,kl r2 (psn _ (hp _ (aJ ..))),bF (λ_ _ q=>oN.mono _ _ _ _ sub q) r3] (ih λp h=>hp p (au _ h))
  show gen (λp h=>h) h.loads
 .intro p hp;rcases br.mp hp with hp|hp
  .rintro bs e:bW<|h.lst hp;show⟨no e (h.fp p hp).1,(h.fp p hp).2⟩
  .cases aX.mp hp;show⟨Fz.no (by rw[aX];show cA xl) (h.fh.free hl),h.bh.free hl⟩
 .change (W.th::((W.ps++[(x,l)]).map (·.2)++W.qt)).Nodup;rw[aj,bJ,dU,dU];have ln:∀b o,H b=some o->l≠b:=λb o e z=>by rw[<-z,hl] at e;cases e
  show #[ij,λq=>?_,#[ic,nd.2.1,by simp,λa ha b hb=>?_],nd.2.2.1,λa ha b hb e=>?_]
  .rcases br.mp q with q|q
   .rcases br.mp q with q|q;.show nd.1 (fO _ q)
    .have:W.th=l:=by simpa using q
     show ln _ _ h.ht this.symm
   .show nd.1 (cj _ q)
  .have hb:b=l:=by simpa using hb
   rintro p hp rfl:bM<|List.mem_map.mp ha;rintro bs e:bW<|h.lst hp;rw[hb];show cA (ln _ _ e)
  .rcases br.mp ha with ha|ha;.show nd.2.2.2 a ha b hb e
   .have ha:a=l:=by simpa using ha
    rintro _ _ xs e2:lB 2 bW<|h.qt b hb;show ln _ _ e2 (ha.symm.trans e)
abbrev xx:cK:=top 109
def Bq:aU ["state","numbers","thing","way"] ["state","numbers"] (aG xx):=jy
def PD:List Int->cM->Prop:=λa c=>∃id a' b k n r t,a=[id,a',b,k,n,r,t]/\c=.post id a' b k n r t
def LE(F:i9 K "call_post" "call_post" xx f fd)(T:eX K mg A)(zw:fP P w K mg base 2 "is_thing" ["numbers"] D2)(Ye:MY P w K mg base 1 "Thing" A.iL ["self","number","origin","goal","kind","amount","rank","ready"] (zb A))(fw:fP P w K mg base 1 "find_thing" ["state","number"] (lJ A))
 (e_:fP P w K mg base 5 "earliest_way" ["rides","origin","ready","goal"] (lP A)) (j3:fP P w K mg base 6 "rides_to_go" ["state"] (qg A)):cQ P w K mg base gW 7 f fd ["state","numbers"] (de A Tb PD):=by
 exists F,Bq;rintro s nu F B S n args c rfl ⟨id,a,b,kd,am,rk',t,rfl,rfl⟩ ⟨W,ck,dk,h⟩ so h5 mZ k:vV 8 wb h;have nd:=Bq.nd;have s0:=fW (H:=H) (T:=Tb) (ls:=W.ps.map (·.2));have mq:=h.bh _ _ mZ;show #[ia,_,(ae (kW (lX (fF (bC zw hr (eM (pv 1))))) (bI (eM (bG T.fg)))) (ae (sv 2 nd (tu Ye hr (dS (xL (pv 1) aw) (dS (xL (pv 1) aw) (dS (xL (pv 1) aw) (dS (xL (pv 1) aw) (qu (xL (pv 1) aw) (xL (pv 1) aw) (xL (pv 1) aw)))))))) (ae (kW (fq (uN (bC fw hr (mz (pv 0) (du 2))))) (bI (eM (bG T.wJ)))) (ae (kW (kq lI (xb T.fb (du 0)) (bG T.yN)) (bI (eM (bG T.zK)))) (ae (kW (kq qH (du 2) (du 0)) (bI (eM (bG T.qZ)))) (ae (sv 3 nd (bC e_ hr (dS (bC j3 hr (eM (pv 0))) (qu (du 2) (du 2) (du 2))))) (ae (kG (fq (uN (pv 3))) (bA (cF (pv 2) (du 3) rfl)) fU) (ae (dN (Mx (du 0) (pv 2))) (kY (bI (mz aw (du 2)))))))))))),?_];dsimp only[dj];exists #[iw,nu,id,a,b,kd,am,rk',t,#[ic,rfl,mq,?_]];exists oj (λh1=>?_) (λh1=>?_)<;>left;.show jw λp H2 hp jH e2=>?_;show vX h k (a:={ value:=-1 }) (by simp only[az];show if_pos h1) e2 hp jH
 .show bY (cf.of mq) (aV (j:=0) rfl) ?_;exists bY (cf.of mq) (aV (j:=1) rfl) ?_;exists bY (cf.of mq) (aV (j:=2) rfl) ?_;exists bY (cf.of mq) (aV (j:=3) rfl) ?_;exists bY (cf.of mq) (aV (j:=4) rfl) ?_;exists bY (cf.of mq) (aV (j:=5) rfl) ?_;exists bY (cf.of mq) (aV (j:=6) rfl) ?_;left;have hb:=h1;unfold r8 at hb;simp only[ak] at hb;rintro b1 b2 b3 b4 b5 b6 b7 b8:wb 6 fo hb;unfold cC at b2 b3;unfold aH at b1 b2 b3 b5 b6 b7 b8;simp only[ak,decide_eq_true_eq] at b1 b2 b3 b5 b6 b7 b8;rintro US rfl:bW (⟨id.toNat,by omega⟩:∃q:Nat,id=q);rintro aN rfl:bW (⟨a.toNat,by omega⟩:∃q:Nat,a=q);rintro bN rfl:bW (⟨b.toNat,by omega⟩:∃q:Nat,b=q);rintro kN rfl:bW (⟨kd.toNat,by omega⟩:∃q:Nat,kd=q);rintro mN rfl:bW (⟨am.toNat,by omega⟩:∃q:Nat,am=q);rintro rN rfl:bW (⟨rk'.toNat,by omega⟩:∃q:Nat,rk'=q);rintro tN rfl:bW (⟨t.toNat,by omega⟩:∃q:Nat,t=q);have JW:az S (.post US aN bN kN mN rN tN)=if (gk S US).isSome=true then md S (-4)
   else if AF<=S.loads.length then md S (-3)
   else if (tN:Int)<(S.now:Int) then md S (-7)
   else ({ S with loads:=S.loads++[{ id:=US,from_:=aN,to_:=bN,kind:=kN,amount:=mN,rank:=rN,ready:=tN,promise:=(dQ (dF S) aN tN bN).map λx=>x.1,begun:=[] }] },{ value:=0,more:=[match (dQ (dF S) aN tN bN).map λx=>x.1 with
    |none=>-1
    |some x=>(x:Int)] }):=by
   have My:¬(aH (US:Int) 1 9999&&(cC aN&&(cC bN&&((aN:Int) != (bN:Int)&&(aH kN 0 1&&(aH mN 1 999&&(aH rN 0 9&&aH tN 0 lh)))))))=false:=by have:r8 US aN bN kN mN rN tN=true:=h1;unfold r8 at this;rw[this];decide
   simp only[az];rw[if_neg My];rfl
  show pY λx dx H1 g1 g2 g3=>#[iw,x,dx,_,_,_,_,_,_,#[ie,_,rfl,g2,λl H2 hl Qb XS k2=>⟨rfl,?_⟩]];have e2:aq H H2:=aB g3 k2 g1;have xl:x≠l:=oy XS Qb;have fx:∀{H':Hp}{Q:VK}{g:Str}{v w0:V},H' x=some (.ins A.iL dx [("number",iv US),("origin",iv aN),("goal",iv bN),("kind",iv kN),("amount",iv mN),("rank",iv rN),("ready",iv tN),("promise",w0),("begun",.ref l)])->g∈(["number","origin","goal","kind","amount","rank","ready","promise","begun"]:List Str)->lf g ([("number",iv US),("origin",iv aN),("goal",iv bN),("kind",iv kN),("amount",iv mN),("rank",iv rN),("ready",iv tN),("promise",w0),("begun",V.ref l)]:List (Str×V))=some v->Q v H'->fQ K g Q (.ref x) H':=λe hg hv q=>QU e T.iL.cl (T.iL.no _ hg) hv q;exists fx XS (by decide +kernel) (v:=iv US) (by kernel_rfl) ?_;exists #[ig,s,_,H,S,US,#[iq,rfl,s0.trans e2,h.view,λe=>?_,λy ya e Ip hBx=>?_]]
  .rw[if_neg (by rw[e];decide)] at JW;have hsx:s≠x:=λq=>by rw[<-q,h.hs] at g1;cases g1
   have fin2:∀(pv:Option Nat)(Hc H5 H6:Hp)(p:af),((dQ (dF S) aN tN bN).map λx=>x.1)=pv->S.loads.length<10->¬(tN:Int)<(S.now:Int)->aq H Hc->Hc x=some (.ins A.iL dx [("number",iv US),("origin",iv aN),("goal",iv bN),("kind",iv kN),("amount",iv mN),("rank",iv rN),("ready",iv tN),("promise",JP pv),("begun",.ref l)])->Hc l=some (.lst [])->H5 W.th=some (.lst ((W.ps.map (·.1)).map V.ref++[.ref x]))->eA Hc H5 W.th->H5 p=none->aq H5 H6->H6 p=some (.lst [.int 0,JP pv])->Q (.ref p) H6:=by
    intro pv Hc H5 H6 p hpv lr at9 sc cx cl t5 k5 hp s6 p6;rw[if_neg (by unfold AF;omega),if_neg at9,hpv] at JW;have thx:x≠W.th:=λq=>by rw[q,h.ht] at g1;cases g1
    have thl:l≠W.th:=λq=>by rw[q,g3 _ _ h.ht] at hl;cases hl
    have hP:=h.post (y:={ id:=US,from_:=aN,to_:=bN,kind:=kN,amount:=mN,rank:=rN,ready:=tN,promise:=pv,begun:=[] }) rfl g1 (g3.free hl) xl (λb o e n=>k5 _ _ (sc _ _ e) n) (k5 _ _ cx thx) (k5 _ _ cl thl) t5;rw[JW] at k;have Qe:H p=none:=by
     cases e:H p with
     |none=>rfl
     |some o=>
      by_cases q:p=W.th;.rw[q,t5] at hp;cases hp
      .rw[k5 _ _ (sc _ _ e) q] at hp;cases hp
    have sF5:aq F H5:=λb o e=>k5 _ _ (sc _ _ (h.fh _ _ e)) (aI e h.ft);show k p _ H6 #[ir,_,ck,⟨dk,hP.same s6⟩] (Fz.sub sF5) (λb xs e nb=>Fz.no (by rw[aX];intro q;rw[q,g1] at e;cases e) nb) Qe ?_;rw[p6];cases pv<;>rfl
   exists c8 (v:=.ref W.th) (e2 _ _ h.hs) T.state ?_;exists h_ (cf.of (e2 _ _ h.ht)) ?_;rw[ab,ab,h.loads.length];left;have RX:=so.Mo;show cY (λh2=>?_) (λh2=>?_)<;>left;.show jw λp H3 hp yO e3=>?_;show vX h k (a:={ value:=-3 }) (by rw[JW,if_pos (by unfold AF;omega)];rfl) (e2.trans e3) (e2.free hp) yO
   .show fx XS (by decide +kernel) (v:=iv tN) (by kernel_rfl) ?_;exists c8 (v:=iv S.now) (e2 _ _ h.hs) T.state ?_;exists cY (λh3=>?_) (λh3=>?_)<;>left;.show jw λp H3 hp yO e3=>?_;show vX h k (a:={ value:=-7 }) (by rw[JW,if_neg (by unfold AF;omega),if_pos h3];rfl) (e2.trans e3) (e2.free hp) yO
    .show #[ii,s,_,S,rfl,s0.trans e2,#[ic,h.view.at_,so.tok,λrl F3 H3 gg Tx=>?_]];exists fx (gg.hh _ _ XS) (by decide +kernel) (v:=iv aN) (by kernel_rfl) ?_;exists fx (gg.hh _ _ XS) (by decide +kernel) (v:=iv tN) (by kernel_rfl) ?_;exists fx (gg.hh _ _ XS) (by decide +kernel) (v:=iv bN) (by kernel_rfl) ?_;exists #[ig,rl,F3,S.world,dF S,aN,#[ik,tN,bN,rfl,gg.fh,Tx,aE (B' so.tok) (by decide),#[ij,by omega,by omega,λhe H4 e4=>?_,λy ka F4 H4 he g4 hk=>?_]]]
     .have sc:aq H H4:=(e2.trans gg.hh).trans e4;have hx4:=e4 _ _ (gg.hh _ _ XS);have hl4:=e4 _ _ (gg.hh _ _ Qb);exists c8 (v:=.ref W.th) (sc _ _ h.hs) T.state ?_;show jm (cf.of (sc _ _ h.ht)) ?_;exists fL (T:="list") rfl (sc _ _ h.ht) (by rw[ab,ab,h.loads.length];unfold sizeLine;omega) λH5 t5 k5=>?_;have thx:x≠W.th:=λq=>by rw[q,h.ht] at g1;cases g1
      exists fx (k5 _ _ hx4 thx) (by decide +kernel) (v:=.int (-1)) (by kernel_rfl) ?_;exists jw λp H6 hp hp6 e6=>?_;show fin2 none H4 H5 H6 p (by rw[he];rfl) (by omega) h3 sc hx4 hl4 t5 k5 hp e6 hp6
     .have sc:aq H H4:=(e2.trans gg.hh).trans g4.hh;have hx4:=g4.hh _ _ (gg.hh _ _ XS);have hl4:=g4.hh _ _ (gg.hh _ _ Qb);have s4:=g4.fh;exists CI hx4 T.iL (fs':=[("number",iv US),("origin",iv aN),("goal",iv bN),("kind",iv kN),("amount",iv mN),("rank",iv rN),("ready",iv tN),("promise",iv y.1),("begun",.ref l)]) λH4' amc k4=>?_;have sc':aq H H4':=aB sc k4 g1;have atr:=k4 _ _ hl4 (cA xl);exists c8 (v:=.ref W.th) (sc' _ _ h.hs) T.state ?_;show jm (cf.of (sc' _ _ h.ht)) ?_;exists fL (T:="list") rfl (sc' _ _ h.ht) (by rw[ab,ab,h.loads.length];unfold sizeLine;omega) λH5 t5 k5=>?_;have thx:x≠W.th:=λq=>by rw[q,h.ht] at g1;cases g1
      exists fx (k5 _ _ amc thx) (by decide +kernel) (v:=iv y.1) (by kernel_rfl) ?_;exists jw λp H6 hp hp6 e6=>?_;show fin2 (some y.1) H4' H5 H6 p (by rw[he];rfl) (by omega) h3 sc' amc atr t5 k5 hp e6 hp6
  .exists jw λp H3 hp yO e3=>?_;show vX h k (a:={ value:=-4 }) (by rw[JW,if_pos (by rw[e];rfl)];rfl) (e2.trans e3) (e2.free hp) yO
end
end TT
end
section
namespace TT
section
variable{X:Cx}{k k':Nat}{C:af}{ps:List Str}{sp:Sp}{x m:Str}{p pos apos:km}{o e:Expr}{es:List Expr}{ta:TE}{t:TA}
def abg{pl:Xx Bool}(he:PE X o ta)(B:Me1 X.prog X.w X.K X.mg X.base k C m ps sp)(hr:jA k' X.A)(ha:PA X (e::es) t)(hle:k<=k':=by decide)
 (kE:bi (e::es) X.env=(false,eval e X.env)::bi es X.env:=by rfl) (yu:(iU pos (bi es X.env)).any (·.1)=false:=by rfl)
 (ht:eval (.Call (.Attribute o m apos) (e::es) [] pos) X.env=(do
  let ov <-eval o X.env
  standAt apos.atName
  let (f,first) <-holding [ov] (getMethod ov m pl)
  callWith pos f first (iU pos (bi (e::es) X.env)) (tS pos (lM [] X.env))):=by rfl):
 PE X (.Call (.Attribute o m apos) (e::es) [] pos) (OJ C m sp [] E0 ta t):=by
 rintro f fd F c hm hb:lA B.ex;show Zp he c hm F (hr.mono hle) hb .nil JL ha kE yu ht
def Wz{pl:Xx Bool}(he:PE X o ta)(B:Me1 X.prog X.w X.K X.mg X.base k C m ps sp)(hr:jA k' X.A)(hle:k<=k':=by decide)
 (ht:eval (.Call (.Attribute o m apos) [] [] pos) X.env=(do
  let ov <-eval o X.env
  standAt apos.atName
  let (f,first) <-holding [ov] (getMethod ov m pl)
  callWith pos f first (iU pos (bi [] X.env)) (tS pos (lM [] X.env))):=by rfl):
 PE X (.Call (.Attribute o m apos) [] [] pos) (OJ C m sp [] E0 ta vY):=by
 rintro f fd F c hm hb:lA B.ex;show WA he c hm F (hr.mono hle) hb .nil JL ht
end
def amh(C:af)(m:Str)(sp:Sp)(sk:List V)(E:XK)(t:TA)(σ:L2.St)(Q:VK)(x:V)(H1:Hp):Prop:=∃a dx fs,x=.ref a/\H1 a=some (.ins C dx fs)/\fs.lookup m=none/\t σ H1 λvs H2=>sp (x::(vs++sk)) H2 Q E
def WV{C:af}{m:Str}{sp:Sp}{sk:List V}{E:XK}{ta:TE}{t:TA}{σ:L2.St}{H:Hp}{Q:VK}(h:ta σ H (amh C m sp sk E t σ Q)):OJ C m sp sk E ta t σ H Q:=h
local macro_rules|`(tactic| walk_at "rd1")=>`(tactic| first|with_reducible refine r_g ?_|with_reducible refine WV ?_)
section
variable{P:aS}{w:bL}{K:ad}{mg:Str->Option ag}{base:cE}{A:dW}{f:af}{fd:b_}{Tb:af}
theorem mL(f:Str)(v:V):∀fs:List (Str×V),(jV f v fs).length<=fs.length+1
 |[]=>aA _
 |(g,x)::r=>by
  change (if g=f then (g,v)::r else (g,x)::jV f v r).length<=r.length+2;have:=mL f v r;split;.rw[aP];omega
  .rw[aP];omega
def OM(tb c dl:af)(fs:List (Str×V)):List (Str×V):=jV "delays_told" (.int 0) (jV "delays" (.ref dl) (jV "cancelled" (.ref c) (jV "table" (.ref tb) fs)))
abbrev lZ:cK:=lK (top 77) 2
def yz:aU ["self","table"] ["self","table"] (aG lZ):=jy
def rX(A:dW):Sp:=λvs H Q _=>∃(x dx tb:af)(fs:List (Str×V)),vs=[.ref x,.ref tb]/\H x=some (.ins A.state dx fs)/\fs.length<=900/\
 ∀c dl H',H c=none->H dl=none->c≠dl->H' c=some (.dT [])->H' dl=some (.dT [])->eA H H' x->H' x=some (.ins A.state dx (OM tb c dl fs))->Q .non H'
def yx(F:i9 K "take_table" "State.take_table" lZ f fd)(T:eX K mg A):cQ P w K mg base gW 1 f fd ["self","table"] (rX A):=by
 exists F,yz;rintro x dx tb fs rfl hx hf k:xf 5 lB h;show #[ia,_,(ae (cF (pv 0) (pv 1) rfl) (ae (cF (pv 0) Bd rfl) (ae (cF (pv 0) Bd rfl) (bA (cF (pv 0) aw rfl))))),?_];try dsimp only[dj]
 have l1:=mL "table" (.ref tb) fs;exists CJ hx T.state (by omega) λH1 h1 k1=>?_;exists EV λc H2 hc YE s2=>?_;have l2:=mL "cancelled" (.ref c) (jV "table" (.ref tb) fs);exists CJ (s2 _ _ h1) T.state (by omega) λH3 h3 k3=>?_;exists EV λdl H4 hd hd4 s4=>?_;have l3:=mL "delays" (.ref dl) (jV "cancelled" (.ref c) (jV "table" (.ref tb) fs));exists CJ (s4 _ _ h3) T.state (by omega) λH5 h5 k5=>?_;exists CJ h5 T.state (by omega) λH6 h6 k6=>?_;have cx:c≠x:=λz=>by rw[z,h1] at hc;cases hc
 have dx':dl≠x:=λz=>by rw[z,h3] at hd;cases hd
 have hc3:=k3 _ _ YE cx;have cd:c≠dl:=λz=>by rw[<-z,hc3] at hd;cases hd
 have kA:∀b o,H b=some o->b≠x->H3 b=some o:=λb o e n=>k3 _ _ (s2 _ _ (k1 _ _ e n)) n;show k c dl H6 ?_ ?_ cd (k6 _ _ (k5 _ _ (s4 _ _ hc3) cx) cx) (k6 _ _ (k5 _ _ hd4 dx') dx') (λb o e n=>k6 _ _ (k5 _ _ (s4 _ _ (kA b o e n)) n) n) h6
 .cases e:H c with
  |none=>rfl
  |some o=>rw[k1 _ _ e cx] at hc;cases hc
 .cases e:H dl with
  |none=>rfl
  |some o=>rw[kA _ _ e dx'] at hd;cases hd
abbrev lY:cK:=lK (top 77) 1
def yy:aU ["self"] ["self"] (aG lY):=jy
def ajr(tb c dl th:af)(fs:List (Str×V)):List (Str×V):=jV "things" (.ref th) (jV "now" (.int 0) (OM tb c dl fs))
def rV(A:dW):Sp:=λvs H Q _=>∃(x dx:af)(fs:List (Str×V)),vs=[.ref x]/\H x=some (.ins A.state dx fs)/\fs.length<=800/\fs.lookup ("take_table":Str)=none/\
 ∀tb dt m l c dl th H',H tb=none->H m=none->H l=none->H c=none->H dl=none->H th=none->m≠l->th≠m->th≠l->c≠dl->
  H' tb=some (.ins A.table dt [("minutes",.ref m),("trips",.ref l)])->H' m=some (.lst (ly gL.mins))->H' l=some (.lst [])->H' c=some (.dT [])->H' dl=some (.dT [])->H' th=some (.lst [])->eA H H' x->H' x=some (.ins A.state dx (ajr tb c dl th fs))->Q .non H'
def yw(F:i9 K "begin_anew" "State.begin_anew" lY f fd)(T:eX K mg A)(Ko:MY P w K mg base 1 "Table" A.table ["self"] (rT A))(gz:Me1 P w K mg base 1 A.state "take_table" ["self","table"] (rX A)):cQ P w K mg base gW 3 f fd ["self"] (rV A):=by
 exists F,yy;rintro x dx fs rfl hx hf hlk k:rD 5 lB h;show #[ia,_,(ae (dN (abg (pv 0) gz hr (eM (LT Ko hr)))) (ae (cF (pv 0) aw rfl) (bA (cF (pv 0) (bI jf) rfl)))),?_];try dsimp only[dj]
 exists #[ii,x,dx,fs,rfl,hx,⟨hlk,?_⟩];exists pY λtb dt H1 h1 h2 s1=>#[ib,tb,dt,rfl,h2,λm l H2 hm hl nml t2 m2 l2 k2=>⟨rfl,?_⟩];have e2:aq H H2:=λb o e=>k2 _ _ (s1 _ _ e) λz=>by rw[z,h1] at e;cases e
 exists #[iy,x,dx,tb,fs,#[ij,rfl,e2 _ _ hx,by omega,λc dl H3 hc hd cd c3 d3 k3 x3=>?_]];have hl3:(OM tb c dl fs).length<=900:=by unfold OM;have l1:=mL "table" (.ref tb) fs;have l2:=mL "cancelled" (.ref c) (jV "table" (.ref tb) fs);have l3:=mL "delays" (.ref dl) (jV "cancelled" (.ref c) (jV "table" (.ref tb) fs));have l4:=mL "delays_told" (.int 0) (jV "delays" (.ref dl) (jV "cancelled" (.ref c) (jV "table" (.ref tb) fs)));omega
 have l4:=mL "now" (.int 0) (OM tb c dl fs);exists CJ x3 T.state (by omega) λH4 h4 k4=>?_;exists jw λth H5 ht ht5 s5=>?_;exists CJ (s5 _ _ h4) T.state (by omega) λH6 h6 k6=>?_;have up:∀b o,H2 b=some o->b≠x->H4 b=some o:=λb o e n=>k4 _ _ (k3 _ _ e n) n;have up6:∀b o,H4 b=some o->b≠x->H6 b=some o:=λb o e n=>k6 _ _ (s5 _ _ e) n;have tx:tb≠x:=λz=>by rw[z,hx] at h1;cases h1
 have mx:m≠x:=λz=>by rw[z,s1 _ _ hx] at hm;cases hm
 have lx:l≠x:=λz=>by rw[z,s1 _ _ hx] at hl;cases hl
 have cx:c≠x:=λz=>by rw[z,e2 _ _ hx] at hc;cases hc
 have dx':dl≠x:=λz=>by rw[z,e2 _ _ hx] at hd;cases hd
 have thx:th≠x:=λz=>by rw[z,h4] at ht;cases ht
 have tn:∀b o,H4 b=some o->th≠b:=λb o e z=>by rw[<-z,ht] at e;cases e
 show k tb dt m l c dl th H6 h1 (s1.free hm) (s1.free hl) (e2.free hc) (e2.free hd) ?_ nml (tn _ _ (up _ _ m2 mx)) (tn _ _ (up _ _ l2 lx)) cd (up6 _ _ (up _ _ t2 tx) tx) (up6 _ _ (up _ _ m2 mx) mx) (up6 _ _ (up _ _ l2 lx) lx) (up6 _ _ (k4 _ _ c3 cx) cx) (up6 _ _ (k4 _ _ d3 dx') dx') (k6 _ _ ht5 thx) (λb o e n=>up6 _ _ (up _ _ (e2 _ _ e) n) n) h6;cases e:H th with
 |none=>rfl
 |some o=>show absurd rfl (tn _ _ (up _ _ (e2 _ _ e) thx))
abbrev uU:cK:=lK (top 77) 0
def IW:aU ["self"] ["self"] (aG uU):=jy
def za(A:dW):Sp:=λvs H Q _=>∃(x dx:af),vs=[.ref x]/\H x=some (.ins A.state dx [])/\
 ∀tb dt m l c dl th H',H tb=none->H m=none->H l=none->H c=none->H dl=none->H th=none->m≠l->th≠m->th≠l->c≠dl->
  H' tb=some (.ins A.table dt [("minutes",.ref m),("trips",.ref l)])->H' m=some (.lst (ly gL.mins))->H' l=some (.lst [])->H' c=some (.dT [])->H' dl=some (.dT [])->H' th=some (.lst [])->eA H H' x->H' x=some (.ins A.state dx (oz mC tb c dl th))->Q .non H'
def IA(F:i9 K "__init__" "State.__init__" uU f fd)(T:eX K mg A)(gy:Me1 P w K mg base 3 A.state "begin_anew" ["self"] (rV A)):cQ P w K mg base gW 4 f fd ["self"] (za A):=by
 exists F,IW;rintro x dx rfl hx k:fD h;show #[ia,_,(bA (dN (Wz (pv 0) gy hr))),?_];try dsimp only[dj]
 exists #[ii,x,dx,[],rfl,hx,⟨rfl,?_⟩];exists #[ii,x,dx,[],rfl,hx,#[ic,bV _,rfl,λtb dt m l c dl th H' q1 q2 q3 q4 q5 q6 q7 q8 q9 q10 WJ Zs Zt UU UV q16 q17 q18=>?_]];exists k tb dt m l c dl th H' q1 q2 q3 q4 q5 q6 q7 q8 q9 q10 WJ Zs Zt UU UV q16 q17 (by rw[q18];kernel_rfl)
def qz.fresh{A:dW}{T:af}{F F' B H H':Hp}{s tb c dl th dx:af}{b:eT}{now:Nat}(fh:aq F' H')(bh:aq B H')(fT:F' T=none)(bT:B T=none)(tab:eP H' T mr lV)(fs:F' s=none)(bs:B s=none)
 (hs:H' s=some (.ins A.state dx (oz { world:={ table:=b,off:=[],delays:=[] },now:=now,loads:=[] } tb c dl th))) (ht:j8 A F' tb b) (fc:F' c=none) (bc:B c=none) (hc:H' c=some (.dT [])) (cd:c≠dl) (fd:F' dl=none) (bd:B dl=none) (hd:H' dl=some (.dT []))
 (ft:F' th=none) (bt:B th=none) (V8:H' th=some (.lst [])):Va A T F' B H' s { world:={ table:=b,off:=[],delays:=[] },now:=now,loads:=[] }:=by
 show #[ir,{ dx:=dx,tb:=tb,c:=c,dl:=dl,th:=th,ps:=[],qt:=[] },[],⟨[],⟨fh,bh,fT,bT,tab,fs,bs,hs,ht,fc,bc,hc,⟨rfl,λno d=>by rw[if_neg (by intro z;cases z)];rfl⟩,cd,fd,bd,hd,#[ij,aA _,λt _ d=>.inl ⟨rfl,by intro x hx;cases hx⟩,(by intro q q' a e;cases e),(by intro q a e;cases e)],(by intro a ha;cases ha),ft,bt,V8,.nil,(by intro p hp;cases hp),?_⟩⟩];simp
abbrev uZ:cK:=top 99
def IY:aU ["state","numbers"] ["state","numbers"] (aG uZ):=jy
def KG:List Int->cM->Prop:=λa c=>a=[]/\c=.clear
def IF(F:i9 K "call_clear" "call_clear" uZ f fd)(T:eX K mg A)(gy:Me1 P w K mg base 3 A.state "begin_anew" ["self"] (rV A)):cQ P w K mg base gW 4 f fd ["state","numbers"] (de A Tb KG):=by
 exists F,IY;rintro s nu F B S n args c rfl ⟨rfl,rfl⟩ ⟨W,ck,dk,h⟩ so h5 mZ k:vV 8 wb h;show #[ia,_,(ae (dN (Wz (pv 0) gy hr)) (kY (bI (eM aw)))),?_];try dsimp only[dj]
 exists #[ii,s,_,_,rfl,h.hs,⟨rfl,?_⟩];exists #[ii,s,_,_,rfl,h.hs,#[ic,(by change 6<=800;decide),rfl,λtb dt m l c dl th H1 q1 q2 q3 q4 q5 q6 q7 q8 q9 q10 WJ Zs Zt UU UV q16 q17 q18=>?_]];exists jw λp H2 hp jH e2=>?_;have SG:aq F H1:=aB h.fh q17 h.fs;have sB1:aq B H1:=aB h.bh q17 h.bs;have sX:eP H1 Tb mr lV:=h.tab.keep q17 (by rw[h.hs];show eZ);have kE:aq F (Fz F H1 [tb,m,l]):=Fz.sub SG;have nF:∀{b o},H1 b=some o->b≠tb->b≠m->b≠l->F b=none->Fz F H1 [tb,m,l] b=none:=λ{b o}e n1 n2 n3 nb=>Fz.no (by simp only[aD,cR,or_false];show λz=>z.elim n1 λz=>z.elim n2 n3) nb;have afn:∀b o,H b=some o->b∉[tb,m,l]:=λb o e z=>by
  simp only[aD,cR,or_false] at z;rcases z with rfl|rfl|rfl;.rw[q1] at e;cases e
  .rw[q2] at e;cases e
  .rw[q3] at e;cases e
 rintro Ug hT _:bM h.tab;have hX:Va A Tb (Fz F H1 [tb,m,l]) B H1 s mC:=qz.fresh (tb:=tb) (c:=c) (dl:=dl) (th:=th) (dx:=W.dx) (H:=H) (F:=F) (b:=gL) (now:=0) (Fz.same SG) sB1 (Fz.no (afn _ _ hT) h.fT) h.bT sX (Fz.no (afn _ _ h.hs) h.fs) h.bs (by rw[q18];kernel_rfl)
  #[ii,dt,m,l,Fz.get (by simp) WJ,Fz.get (by simp) Zs,#[ia,[],Fz.get (by simp) Zt,.nil]] (nF UU (oy UU WJ) (oy UU Zs) (oy UU Zt) (h.fh.free q4)) (h.bh.free q4) UU q10
  (nF UV (oy UV WJ) (oy UV Zs) (oy UV Zt) (h.fh.free q5)) (h.bh.free q5) UV (nF q16 (oy q16 WJ) q8 q9 (h.fh.free q6)) (h.bh.free q6) q16
 rintro W' ck' dk' hS:Qx hX;have Qe:H p=none:=by
  cases e:H p with
  |none=>rfl
  |some o=>
   by_cases z:p=s;.rw[z,q18] at hp;cases hp
   .rw[q17 _ _ e z] at hp;cases hp
 show k p _ H2 #[ir,W',ck',⟨dk',hS.same e2⟩] kE (λb xs e nb=>Fz.no (afn _ _ e) nb) Qe jH
end
end TT
end
section
local macro_rules|`(tactic| walk_at "rd1")=>`(tactic| first|with_reducible refine TT.r_g ?_|with_reducible refine WV ?_)
namespace TT
def vD(F G:Hp):Hp:=λb=>match F b with
 |some o=>some o
 |none=>G b
section
variable{F G H:Hp}{b:af}
def TH:aq F (vD F G):=λb o e=>by unfold vD;rw[e]
def Qk(h1:aq F H)(h2:aq G H):aq (vD F G) H:=λb o e=>by
 unfold vD at e;cases hf:F b with
 |some u=>rw[hf] at e;cases e;show h1 _ _ hf
 |none=>rw[hf] at e;show h2 _ _ e
def TD(n:∀b o,F b=some o->G b=none):aq G (vD F G):=λb o e=>by
 unfold vD;cases hf:F b with
 |some u=>rw[n _ _ hf] at e;cases e
 |none=>show e
def tf(h1:F b=none)(h2:G b=none):vD F G b=none:=by unfold vD;rw[h1];show h2
end
def TB.bok{b:eT}(h1:∀m∈b.mins,m<=999)(h2:∀t∈b.trips,TB t):BOk b:=⟨h1,λt h=>(h2 t h).no,λt h=>(h2 t h).first,λt h=>(h2 t h).room,λt h=>(h2 t h).cut⟩
def BOk.tb{b:eT}(h:BOk b):∀t∈b.trips,TB t:=λt ht=>⟨h.no t ht,h.first t ht,h.room t ht,h.cut t ht⟩
section
variable{P:aS}{w:bL}{K:ad}{mg:Str->Option ag}{base:cE}{A:dW}{f:af}{fd:b_}{Tb:af}
abbrev u9:cK:=top 100
def yY:aU ["state","text","reading"] ["state","text"] (aG u9):=jy
def KL:List Int->cM->Prop:=λa c=>c=.table a
def V_{t:List Int}(h:(t.all λz=>aH z 0 255)=true):cN t=ly (t.map Xq):=by unfold cN ly;rw[dJ];apply cJ;intro z hz;have:=bB.mp h z hz;unfold aH at this;simp only[ak,decide_eq_true_eq] at this;change V.int z=V.int ((z.toNat:Nat):Int);congr 1;omega
def II(F:i9 K "call_table" "call_table" u9 f fd)(T:eX K mg A)(B4:fP P w K mg base 1 "is_text" ["numbers"] G5)(t9:fP P w K mg base 7 "read_table" ["text"] (zf A))(gz:Me1 P w K mg base 1 A.state "take_table" ["self","table"] (rX A)):cQ P w K mg base gW 8 f fd ["state","text"] (de A Tb KL):=by
 exists F,yY;rintro s nu F B S n args c rfl hc ⟨W,ck,dk,h⟩ so h5 mZ k:vV 8 wb h;obtain rfl:c=.table args:=hc;have nd:=yY.nd;have mq:=h.bh _ _ mZ;show #[ia,_,(ae (kW (kq yR (xb T.fb (du 0)) aw) (bI (eM (bG T.A3)))) (ae (kW (lX (fF (bC B4 hr (eM (pv 1))))) (bI (eM (bG T.Jx)))) (ae (sv 2 nd (bC t9 hr (eM (pv 1)))) (ae (kW (kq oa (du 2) (bG T.kD)) (bI (qu aw (du 2) (du 2)))) (ae (dN (abg (pv 0) gz hr (eM (du 2)))) (kY (bI (mz aw (xb T.fb (vC (du 2))))))))))),?_];try dsimp only[dj]
 exists c8 (v:=.ref W.th) h.hs T.state ?_;exists h_ (cf.of h.ht) ?_;rw[ab,ab,h.loads.length];exists cY (λh1=>?_) (λh1=>?_)<;>left
 .show jw λp H2 hp jH e2=>?_;show vX h k (a:={ value:=-10 }) (by
   simp only[az];rw[if_pos];.rfl
   .cases hq:S.loads with
    |nil=>rw[hq] at h1;simp at h1
    |cons=>rfl) e2 hp jH
 .have Lf:S.loads=[]:=by
   cases hq:S.loads with
   |nil=>rfl
   |cons=>rw[hq] at h1;simp at h1
  have kE:az S (.table args)=match we args with
   |none=>md S (-2)
   |some b=>match ny b with
    |.error e=>(S,{ value:=1,more:=[(e.1:Int),(e.2:Int)] })
    |.ok x=>({ S with world:={ table:=x,off:=[],delays:=[] } },{ value:=0,more:=[(x.trips.length:Int)] }):=by
   simp only[az];rw[if_neg (by rw[Lf];decide)];rfl
  show #[ib,nu,args,rfl,mq,λH1 e1=>?_];exists oj (λh2=>?_) (λh2=>?_)<;>left;.show jw λp H2 hp jH e2=>?_;show vX h k (a:={ value:=-2 }) (by rw[kE];unfold we;rw[if_neg (by rw[h2];decide)];rfl) (e1.trans e2) (e1.free hp) jH
  .have BQ:=h2;rw[ak] at BQ;have hby:we args=some (args.map Xq):=by unfold we;rw[if_pos h2]
   rw[hby] at kE;dsimp only at kE;show #[ik,nu,args.map Xq,rfl,by rw[<-V_ BQ.2];show e1 _ _ mq,by rw[ab];show of_decide_eq_true BQ.1,λe p dx H2 he hp jH he0 e2=>?_,λb p dx t G H2 hb hp jH hG g1 g2 e2 g3=>?_]
   .rw[he] at kE;left;first|show sR T jH ?_|show yf T jH ?_|show sS T jH ?_
    left;rw[if_pos (by simp;omega)];left;first|show sR T jH ?_|show yf T jH ?_|show sS T jH ?_
    left;first|show sR T jH ?_|show yf T jH ?_|show sS T jH ?_
    exists jw λq H3 hq hq3 e3=>?_;show vX h k kE ((e1.trans e2).trans e3) (((e1.trans e2)).free hq) hq3
   .rw[hb] at kE;have tok:=G_ hb;have h1:=h.same (e1.trans e2);left;first|show sR T jH ?_|show yf T jH ?_|show sS T jH ?_
    left;rw[if_neg (by simp)];exists #[ii,s,_,_,rfl,h1.hs,⟨rfl,?_⟩];left;first|show sR T jH ?_|show yf T jH ?_|show sS T jH ?_
    exists #[iy,s,_,t,_,#[ij,rfl,h1.hs,(by change 6<=900;decide),λc dl H3 hc hd cd c3 d3 k3 s3=>?_]];have gn:∀b o,H b=some o->G b=none:=λb o e=>g2 _ _ (e1 _ _ e);have sG:aq G (vD F G):=TD λb o e=>gn _ _ (h.fh _ _ e);have SG:aq F H2:=h1.fh;have gs:G s=none:=gn _ _ h.hs;have sJ:aq (vD F G) H3:=Qk (aB SG k3 h.fs) (aB g1 k3 gs);have sB:aq B H3:=aB h1.bh k3 h.bs;have ps:p≠s:=λz=>by rw[z,e1 _ _ h.hs] at hp;cases hp
    have yO:=k3 _ _ jH ps;have FL:eP H3 Tb mr lV:=h1.tab.keep k3 (by rw[h1.hs];show eZ);left;first|show sR T yO ?_|show yf T yO ?_|show sS T yO ?_
    have hT3:j8 A (vD F G) t b:=hG.mono sG;left;rename_i tl htl;show rG htl sJ ?_;exists jw λq H4 hq hq4 e4=>?_;rw[kE] at k;have hX:Va A Tb (vD F G) B H3 s { S with world:={ table:=b,off:=[],delays:=[] } }:=by
     rw[show ({ S with world:={ table:=b,off:=[],delays:=[] } }:aO)={ world:={ table:=b,off:=[],delays:=[] },now:=S.now,loads:=[] } by rw[<-Lf]];show qz.fresh (tb:=t) (c:=c) (dl:=dl) (th:=W.th) (dx:=W.dx) (H:=H) (F:=F) sJ sB ?_ h.bT FL (tf h.fs gs) h.bs (by rw[s3];kernel_rfl) hT3 (tf (SG.free hc) (g1.free hc)) (h1.bh.free hc) c3 cd (tf (SG.free hd) (g1.free hd)) (h1.bh.free hd) d3 (tf h.ft (gn _ _ h.ht)) h.bt ?_;.rintro Ug hT _:bM h.tab;show tf h.fT (gn _ _ hT)
     .have:=k3 _ _ h1.ht (oy h1.ht h1.hs);rw[this];have:W.ps=[]:=by
       have:=h.loads.length;rw[Lf] at this;show jF.mp this
      rw[this];rfl
    rintro W' ck' dk' hS:Qx hX;have hqH:H q=none:=by
     cases e:H q with
     |none=>rfl
     |some o=>
      by_cases z:q=s;.rw[z,s3] at hq;cases hq
      .rw[k3 _ _ (e2 _ _ (e1 _ _ e)) z] at hq;cases hq
    show k q _ H4 #[ir,W',ck',⟨dk',hS.same e4⟩] TH (λb xs e nb=>tf nb (gn _ _ e)) hqH hq4
abbrev xy:cK:=top 101
def L_:aU ["state","numbers"] ["state","numbers"] (aG xy):=jy
def PH:List Int->cM->Prop:=λa c=>a=[]/\c=.show_
def Wc(l:List Nat):ly l=cN (bH l):=by unfold ly cN bH;rw[dJ];rfl
def LF(F:i9 K "call_show" "call_show" xy f fd)(T:eX K mg A)(cS:fP P w K mg base 1 "with_row" ["numbers","row"] jn)(t_:fP P w K mg base 3 "show_table" ["table"] (zg A)):cQ P w K mg base gW 4 f fd ["state","numbers"] (de A Tb PH):=by
 exists F,L_;rintro s nu F B S n args c rfl ⟨rfl,rfl⟩ ⟨W,ck,dk,h⟩ so h5 mZ k:vV 8 wb h;show #[ia,_,(kY (bC cS hr (mz (bI (eM (xb T.fb (vC (du 0))))) (bC t_ hr (eM (du 0)))))),?_];try dsimp only[dj]
 have auw:=h.table;have sF:=h.fh;exists c8 (v:=.ref W.tb) h.hs T.state ?_;left;rename_i tl htl;show rG htl sF ?_;exists jw λp H1 hp Ay e1=>?_;exists c8 (v:=.ref W.tb) (e1 _ _ h.hs) T.state ?_;left;have tb:=h5.tab;show #[ii,W.tb,F,S.world.table,rfl,sF.trans e1,#[iq,auw,so.tok,tb.mins,tb.tb,λq H2 hq UO e2=>?_]];left;rw[Wc] at UO;have hsh:=CV so.tok ⟨tb.mins,tb.tb⟩;show #[il,p,q,[(S.world.table.trips.length:Int)],_,rfl,e2 _ _ Ay,UO,(by change 1<=100000;decide),⟨by unfold bH;rw[ab];omega,λr H3 hr3 hr4 e3=>?_⟩];show vX h k (a:={ value:=(S.world.table.trips.length:Int),rows:=[bH (oU S.world.table)] }) rfl ((e1.trans e2).trans e3) ((e1.trans e2).free hr3) ?_;rw[hr4];unfold mf;simp
end
end TT
end
namespace TT
def RN(p:Int)(a:List Int)(c:cM):Prop:=(p=0/\KG a c)\/(p=1/\KL a c)\/(p=2/\PH a c)\/(p=3/\Fb a c)\/(p=4/\KH a c)\/(p=5/\PJ a c)\/(p=6/\zC a c)\/(p=7/\KE a c)\/(p=8/\Fd a c)\/(p=9/\PD a c)\/(p=10/\zD a c)\/(p=11/\Fa a c)\/(p=12/\PK a c)\/(p=13/\U_ a c)\/(p=14/\KJ a c)\/(p=15/\KF a c)\/(p=16/\Ff a c)\/(p=17/\PB a c)\/(p=18/\Fc a c)
def vj:List (ez×V):=[(.inl 0,.int 0),(.inl 2,.int 0),(.inl 3,.int 2),(.inl 4,.int 4),(.inl 5,.int 1),(.inl 6,.int 3),(.inl 7,.int 3),(.inl 8,.int 3),(.inl 9,.int 7),(.inl 10,.int 1),(.inl 11,.int 1),(.inl 12,.int 3),(.inl 13,.int 2),(.inl 14,.int 0),(.inl 15,.int 3),(.inl 16,.int 1),(.inl 17,.int 1),(.inl 18,.int 0)]
def X_{α:Type}{l:List α}(h:l.length=0):l=[]:=jF.mp h
def Wk{α:Type}{l:List α}(h:l.length=1):∃a,l=[a]:=by rcases l with _|⟨a,_|⟨b,l⟩⟩<;>simp at h;show⟨a,rfl⟩
def afa{α:Type}{l:List α}(h:l.length=2):∃a b,l=[a,b]:=by rcases l with _|⟨a,_|⟨b,_|⟨c,l⟩⟩⟩<;>simp at h;show #[ir,a,b,rfl]
def TU{α:Type}{l:List α}(h:l.length=3):∃a b c,l=[a,b,c]:=by
 rcases l with _|⟨a,l⟩;.simp at h
 .rintro b c rfl:UT<|afa (l:=l) (by simpa using h);show #[ir,a,b,⟨c,rfl⟩]
def amm{α:Type}{l:List α}(h:l.length=4):∃a b c d,l=[a,b,c,d]:=by
 rcases l with _|⟨a,l⟩;.simp at h
 .rintro b c d rfl:Qx<|TU (l:=l) (by simpa using h);show #[iy,a,b,c,d,rfl]
def amo{α:Type}{l:List α}(h:l.length=7):∃a b c d e f g,l=[a,b,c,d,e,f,g]:=by
 rcases l with _|⟨a,_|⟨b,_|⟨c,l⟩⟩⟩;.simp at h
 .simp at h
 .simp at h
 .rintro d e f g rfl:Qx 3 bW<|amm (l:=l) (by simpa using h);show #[ig,a,b,c,d,e,#[ir,f,g,rfl]]
def acg(p:Int)(n k:Nat):Prop:=(p=1/\n=0/\k=1)\/(p≠1/\k=0/\dy vj (.inl p)=some (.int (n:Int))/\∀args:List Int,args.length=n->∃c,RN p args c/\EC (jx [p::args])=some c)
def OC{p:Int}{n k:Nat}(h:gK p=some (n,k)):acg p n k:=by
 unfold gK at h;by_cases e0:p=0;.subst e0;rw[if_pos rfl] at h;cases h;show .inr #[ij,by decide,rfl,by kernel_rfl,λa ha=>by obtain rfl:=X_ ha;show #[ia,_,.inl #[ic,rfl,rfl,rfl],rfl]]
 rw[if_neg e0] at h;by_cases e1:p=1;.subst e1;rw[if_pos rfl] at h;cases h;show .inl #[ic,rfl,rfl,rfl]
 rw[if_neg e1] at h;by_cases e2:p=2;.subst e2;rw[if_pos rfl] at h;cases h;show .inr #[ij,by decide,rfl,by kernel_rfl,λa ha=>by obtain rfl:=X_ ha;show #[ia,_,.inr (.inr (.inl #[ic,rfl,rfl,rfl])),rfl]]
 rw[if_neg e2] at h;by_cases e3:p=3;.subst e3;rw[if_pos rfl] at h;cases h;show .inr #[ij,by decide,rfl,by kernel_rfl,λa ha=>by rintro x y rfl:UT<|afa ha;show #[ia,_,.inr (.inr (.inr (.inl #[iz,rfl,x,y,rfl,rfl]))),rfl]]
 rw[if_neg e3] at h;by_cases e4:p=4;.subst e4;rw[if_pos rfl] at h;cases h;show .inr #[ij,by decide,rfl,by kernel_rfl,λa ha=>by rintro x y z u rfl:Qx 3 bW<|amm ha;show #[ia,_,i' (.inl ⟨rfl,#[iy,x,y,z,u,⟨rfl,rfl⟩]⟩),rfl]]
 rw[if_neg e4] at h;by_cases e5:p=5;.subst e5;rw[if_pos rfl] at h;cases h;show .inr #[ij,by decide,rfl,by kernel_rfl,λa ha=>by rintro x rfl:bW<|Wk ha;show #[ia,_,i' (.inr (.inl #[io,rfl,x,rfl,rfl])),rfl]]
 rw[if_neg e5] at h;by_cases e6:p=6;.subst e6;rw[if_pos rfl] at h;cases h;show .inr #[ij,by decide,rfl,by kernel_rfl,λa ha=>by rintro x y z rfl:Qx<|TU ha;show #[ia,_,i' (.inr (.inr (.inl #[iB,rfl,x,#[im,y,z,rfl,rfl]]))),rfl]]
 rw[if_neg e6] at h;by_cases e7:p=7;.subst e7;rw[if_pos rfl] at h;cases h;show .inr #[ij,by decide,rfl,by kernel_rfl,λa ha=>by rintro x y z rfl:Qx<|TU ha;show #[ia,_,i' (.inr (.inr (.inr (.inl #[iB,rfl,x,#[im,y,z,rfl,rfl]])))),rfl]]
 rw[if_neg e7] at h;by_cases e8:p=8;.subst e8;rw[if_pos rfl] at h;cases h;show .inr #[ij,by decide,rfl,by kernel_rfl,λa ha=>by rintro x y z rfl:Qx<|TU ha;show #[ia,_,i' (i' (.inl #[iB,rfl,x,#[im,y,z,rfl,rfl]])),rfl]]
 rw[if_neg e8] at h;by_cases e9:p=9;.subst e9;rw[if_pos rfl] at h;cases h;show .inr #[ij,by decide,rfl,by kernel_rfl,λa ha=>by rintro x y z u v s t rfl:EN 6 bW<|amo ha;show #[ia,_,i' (i' (.inr (.inl #[iB,rfl,x,#[ig,y,z,u,v,s,#[ia,t,rfl,rfl]]]))),rfl]]
 rw[if_neg e9] at h;by_cases XG:p=10;.subst XG;rw[if_pos rfl] at h;cases h;show .inr #[ij,by decide,rfl,by kernel_rfl,λa ha=>by rintro x rfl:bW<|Wk ha;show #[ia,_,i' (i' (.inr (.inr (.inl #[io,rfl,x,rfl,rfl])))),rfl]]
 rw[if_neg XG] at h;by_cases e11:p=11;.subst e11;rw[if_pos rfl] at h;cases h;show .inr #[ij,by decide,rfl,by kernel_rfl,λa ha=>by rintro x rfl:bW<|Wk ha;show #[ia,_,i' (i' (.inr (.inr (.inr (.inl #[io,rfl,x,rfl,rfl]))))),rfl]]
 rw[if_neg e11] at h;by_cases e12:p=12;.subst e12;rw[if_pos rfl] at h;cases h;show .inr #[ij,by decide,rfl,by kernel_rfl,λa ha=>by rintro x y z rfl:Qx<|TU ha;show #[ia,_,i' (i' (i' (.inl #[iB,rfl,x,#[im,y,z,rfl,rfl]]))),rfl]]
 rw[if_neg e12] at h;by_cases e13:p=13;.subst e13;rw[if_pos rfl] at h;cases h;show .inr #[ij,by decide,rfl,by kernel_rfl,λa ha=>by rintro x y rfl:UT<|afa ha;show #[ia,_,i' (i' (i' (.inr (.inl #[iz,rfl,x,y,rfl,rfl])))),rfl]]
 rw[if_neg e13] at h;by_cases e14:p=14;.subst e14;rw[if_pos rfl] at h;cases h;show .inr #[ij,by decide,rfl,by kernel_rfl,λa ha=>by obtain rfl:=X_ ha;show #[ia,_,i' (i' (i' (.inr (.inr (.inl #[ic,rfl,rfl,rfl]))))),rfl]]
 rw[if_neg e14] at h;by_cases e15:p=15;.subst e15;rw[if_pos rfl] at h;cases h;show .inr #[ij,by decide,rfl,by kernel_rfl,λa ha=>by rintro x y z rfl:Qx<|TU ha;show #[ia,_,i' (i' (i' (.inr (.inr (.inr (.inl #[iB,rfl,x,#[im,y,z,rfl,rfl]])))))),rfl]]
 rw[if_neg e15] at h;by_cases e16:p=16;.subst e16;rw[if_pos rfl] at h;cases h;show .inr #[ij,by decide,rfl,by kernel_rfl,λa ha=>by rintro x rfl:bW<|Wk ha;show #[ia,_,i' (i' (i' (i' (.inl #[io,rfl,x,rfl,rfl])))),rfl]]
 rw[if_neg e16] at h;by_cases e17:p=17;.subst e17;rw[if_pos rfl] at h;cases h;show .inr #[ij,by decide,rfl,by kernel_rfl,λa ha=>by rintro x rfl:bW<|Wk ha;show #[ia,_,i' (i' (i' (i' (.inr (.inl #[io,rfl,x,rfl,rfl]))))),rfl]]
 rw[if_neg e17] at h;by_cases e18:p=18;.subst e18;rw[if_pos rfl] at h;cases h;show .inr #[ij,by decide,rfl,by kernel_rfl,λa ha=>by obtain rfl:=X_ ha;show #[ia,_,i' (i' (i' (i' (.inr (.inr #[ic,rfl,rfl,rfl]))))),rfl]]
 rw[if_neg e18] at h;cases h
structure Cut(p:Int)(r:List Int)(cl:List (List Int))(t:List Int)(Dr num:Nat)(args:List Int)(c:cM):Prop where
 rn:RN p args c
 co:EC (jx cl)=some c
 args:args=((p::r).drop Dr).take num
 rest:t=(p::r).drop (Dr+num)
 fits:Dr+num<=r.length+1
 one:p=1->Dr=2/\∃r',r=(num:Int)::r'
 other:p≠1->Dr=1/\dy vj (.inl p)=some (.int (num:Int))
def Vj{p:Int}{r:List Int}{cl:List (List Int)}{t:List Int}(h:Dd gK (p::r)=some (cl,t)):∃Dr num args c,Cut p r cl t Dr num args c:=by
 unfold Dd at h;dsimp only at h;cases hs:gK p with
 |none=>rw[hs] at h;cases h
 |some x=>
  obtain⟨n,k⟩:=x;rw[hs] at h;dsimp only at h;split at h;.cases h
  .rename_i lr;rcases OC hs with⟨rfl,rfl,rfl⟩|⟨hp,rfl,hv,hc⟩
   .simp only[Z2,X3] at h;cases r with
    |nil=>simp[ab2] at h
    |cons m r'=>
     unfold ab2 at h;dsimp only at h;by_cases hm:0<=m/\m.toNat<=r'.length
     .rw[if_pos hm] at h;dsimp only at h;cases h;rintro mN rfl:bW (⟨m.toNat,by omega⟩:∃q:Nat,m=q);rw[kr] at hm;show #[iy,2,mN,r'.take mN,.table (r'.take mN),⟨.inr (.inl ⟨rfl,rfl⟩),?_,rfl,?_,by rw[aP];omega,λ_=>#[iB,rfl,r',rfl],λz=>absurd rfl z⟩];.rw[kr];rfl
      .rw[kr,ag6];rfl
     .rw[if_neg hm] at h;cases h
   .simp only[Z2] at h;cases h;rintro c hc1 YE:bM<|hc (r.take n) (by rw[aM];omega);show #[iy,1,n,r.take n,c,⟨hc1,YE,rfl,by rw[ag6];rfl,by omega,λz=>absurd z hp,λ_=>⟨rfl,hv⟩⟩]
def TL(e:nt):ez:=match e.key with
 |.int i _=>.inl i
 |_=>.inr zo
def ag3(e:nt):V:=match e.val with
 |.ref a=>.ref a
 |.int n _=>.int n
 |_=>.non
def M9(e:nt):Bool:=(match e.key with
 |.int i _=>e.hash==hashInt i
 |_=>false)&&match e.val with
 |.ref _=>true
 |.int _ _=>true
 |_=>false
def Fr(l:List nt):List (ez×V):=l.map λe=>(TL e,ag3 e)
def Nt(l:List nt):List (ez×ag):=l.map λe=>(TL e,e.val)
def AK(K:ad)(a:af)(aQ:List (ez×V)):Prop:=∃es ep,K.lookup a=some ⟨.type "dict",none,.dict es ep,#[]⟩/\es.toList.all M9=true/\(aQ.map (·.1)).Nodup/\aQ=Fr es.toList
def M'{P:aS}{w:bL}{e:nt}(h:M9 e=true):(d6 P w).is (TL e) e.key=true/\e.hash=(d6 P w).hash (TL e):=by
 unfold M9 at h;rw[ak] at h;have h1:=h.1;unfold TL;split at h1;.rename_i i t hk;rw[hk];show⟨DI P w i t,beq_iff_eq.mp h1⟩
 .cases h1
def Vr{e:nt}(h:M9 e=true):RelV (ag3 e) e.val:=by
 unfold M9 at h;rw[ak] at h;have h2:=h.2;unfold ag3;split at h2;.rename_i a hv;rw[hv];rfl
 .rename_i n t hv;rw[hv];show⟨t,rfl⟩
 .cases h2
theorem Fs{P:aS}{w:bL}:∀{l:List nt},l.all M9=true->Pairs (d6 P w) l (Nt l)
 |[],_=>.nil
 |e::l,h=>by
  rw[lQ,ak] at h;show .cons (M' h.1).1 rfl (Fs h.2)
theorem RR:∀{l:List nt},l.all M9=true->KV (Fr l) (Nt l)
 |[],_=>.nil
 |e::l,h=>by
  rw[lQ,ak] at h;show .cons ⟨rfl,Vr h.1⟩ (RR h.2)
def Ti(l:List nt):(Nt l).map (·.1)=(Fr l).map (·.1):=by unfold Nt Fr;rw[dJ,dJ];rfl
def AK.at_{P:aS}{w:bL}{K:ad}{a:af}{aQ:List (ez×V)}{h:cE}(d:AK K a aQ)(X:K.In h):∃vs,KV aQ vs/\h.DictOf (d6 P w) a vs:=by rintro es ep lk hc hn rfl:lA d;show #[ia,Nt es.toList,RR hc,#[ii,_,es,ep,X _ _ lk,#[ic,rfl,rfl,rfl],#[ij,rfl,λe he=>?_,Fs hc,by rw[Ti];show hn]]];show⟨TL e,M' (bB.mp hc e (by simpa using he))⟩
def amg(K:ad)(Q:VK)(x y:V)(H:Hp):Prop:=∃a aQ k v,x=.ref a/\AK K a aQ/\y=kV k/\dy aQ k=some v/\Q v H
def Xc(K:ad)(td ty:TE):TE:=λσ H Q=>td σ H λx H1=>ty σ H1 (amg K Q x)
def anh{K:ad}{td ty:TE}{σ:L2.St}{H:Hp}{Q:VK}(h:td σ H λx H1=>ty σ H1 (amg K Q x)):Xc K td ty σ H Q:=h
def Og{X:Cx}{o i:Expr}{td ty:TE}{pos:km}(ho:PE X o td)(hi:PE X i ty)(hs:acn i):PE X (.Subscript o i pos) (Xc X.K td ty):=by
 intro pins s σ H Q I h;show SM E2.lookup hs (gQ (ho pins s σ H _ I h) λu s1 cG=>fD cG λx H1 I1 rx q1=>gQ (hi pins s1 σ H1 _ I1 q1) λiv s2 cG=>fD cG λy H2 I2 ry w'=>xf w' λa aQ k v ex w'=>Cz w' λhd ey hv q2=>?_);subst ex;obtain rfl:u=bn a:=rx;rintro vs rel dd:bM<|hd.at_ (P:=X.prog) (w:=X.w) I2.ME
 subst ey;rintro w' hw Q0:bM<|ud.some_of (v:=v) (o:=BX vs k) (by rw[<-hv];show rel.val k);show⟨dd.typeIs,ahq (yP ry) dd.mapOf hw #[ib,v,H2,I2.tok _,Q0,q2]⟩
end TT
section
local macro_rules|`(tactic| walk_at "rds")=>`(tactic| repeat ((fail_if_success (with_reducible refine mO ?_));(first|walk_at "rd1"|walk_at "fld")))
namespace TT
section
variable{X:Cx}{x:Str}{p pos:km}{e:Expr}{es:List Expr}{ta:TE}{t:TA}
def Oi{a:af}(h:X.mg x=some (.ref a))(hg:Gl X x:=by rfl)(hd:(x==("__debug__":Str))=false:=by decide):PE X (.Name x pos) (tC (.ref a)):=Be (v:=.ref a) hg h rfl hd
def We(X:Cx)(t:TA)(σ:L2.St)(Q:VK)(v:V)(H1:Hp):Prop:=∃f k fd ps sp,v=.ref f/\cQ X.prog X.w X.K X.mg X.base gW k f fd ps sp/\jA k X.A/\gR X.K (.ref f)=true/\Binds X.K fd ps []/\t σ H1 λvs H2=>sp (vs++[]) H2 Q E0
def Xa(X:Cx)(ta:TE)(t:TA):TE:=λσ H Q=>ta σ H (We X t σ Q)
def Wx(hf:PE X (.Name x p) ta)(ha:PA X (e::es) t)(he:bi (e::es) X.env=(false,eval e X.env)::bi es X.env:=by rfl)(yu:(iU pos (bi es X.env)).any (·.1)=false:=by rfl):PE X (.Call (.Name x p) (e::es) [] pos) (Xa X ta t):=by intro pins s σ H Q I h;show jr (gQ (hf pins s σ H _ I h) λu s1 cG=>fD cG λv H1 I1 r w'=>DL w' λf k fd ps sp ev F hr hk w'=>fo w' λhb q=>?_);subst ev;obtain rfl:u=bn f:=r;show pA (h₀:=X.base) I1.ok.mod.kin hk (gQ (ha pos pins s1 σ H1 _ I1 q) λus s2 cG=>fD cG λvs H2 I2 r2 q2=>⟨I2.ME,?_⟩) he yu;show L7 F hr hb .nil JL I2 r2 q2
def Zx{σ:L2.St}{H:Hp}{Q:VK}(h:ta σ H (We X t σ Q)):Xa X ta t σ H Q:=h
end
local macro_rules|`(tactic| walk_at "rd1")=>`(tactic| first|with_reducible refine Zx ?_|with_reducible refine anh ?_)
def Cb:List Str:=["call_clear","call_table","call_show","call_cancel","call_delay","call_time","call_earliest","call_bests","call_latest","call_post","call_withdraw","call_booked","call_used","call_run","call_order","call_board","call_runsof","call_late","call_counts"]
section
variable{P:aS}{w:bL}{K:ad}{mg:Str->Option ag}{base:cE}{A:dW}{f:af}{fd:b_}{Tb ca sz:af}{aQ:List (ez×V)}
abbrev CQ:cK:=top 126
def Q4:aU ["calls","at"] ["calls","at"] (aG CQ):=jy
def G6(K:ad)(sz:af):Sp:=λvs H Q _=>∃(a:af)(l:List Int)(i n:Nat)(p:Int),vs=[.ref a,iv i]/\cf K H a (cN l)/\AK K sz vj/\l[i]? = some p/\(p=1->l[i+1]? = some (n:Int))/\(p≠1->dy vj (.inl p)=some (.int (n:Int)))/\Q (iv n) H
def QE(F:i9 K "size_of" "size_of" CQ f fd)(T:eX K mg A)(Yg:mg "SIZES"=some (.ref sz)):cQ P w K mg base gW 1 f fd ["calls","at"] (G6 K sz):=by
 exists F,Q4;rintro a l i n p rfl ha hz hp h1 h2 k:DL 9 lB h;have hu:=fJ hr;show #[ia,_,(ae (kW (kq lI (xL (pv 0) (pv 1)) (bG T.Ld)) (xL (pv 0) (fB iI (pv 1) aw))) (kY (Og (Oi Yg) (xL (pv 0) (pv 1)) (λ_ _=>rfl)))),?_];try dsimp only[dj]
 have ix:∀{j:Nat}{v:Int}{Q:VK},l[j]? = some v->Q (.int v) H->L1 K (.ref a) (.int (j:Nat)) H Q:=λ{j v Q}e q=>bY ha (aV (by unfold cN;rw[aF,e];rfl)) q;exists ix hp ?_;exists cY (λh3=>?_) (λh3=>?_)<;>left;.rw[show ((i:Int)+1)=((i+1:Nat):Int) by omega];show ix (h1 h3) k
 .show ix hp ?_;show #[il,sz,_,.inl p,_,rfl,hz,rfl,h2 h3,k]
abbrev rH:cK:=top 121
def xJ:aU ["state","call","numbers","answer"] ["state","call","numbers"] (aG rH):=jy
def xW(K:ad)(A:dW)(T ca:af)(aQ:List (ez×V)):Sp:=λvs H Q _=>∃(s nu:af)(F B:Hp)(S:aO)(n:Nat)(p:Int)(args:List Int)(c:cM),vs=[.ref s,.int p,.ref nu]/\RN p args c/\AK K ca aQ/\Va A T F B H s S/\SOk n S/\XOk n S/\B nu=some (.lst (cN args))/\
 ∀p F' H',Va A T F' B H' s (az S c).1->aq F F'->(∀b xs,H b=some (.lst xs)->F b=none->F' b=none)->H p=none->H' p=some (.lst (cN (mf (az S c).2)))->Q (.ref p) H'
def Ge(F:i9 K "answer_call" "answer_call" rH f fd)(T:eX K mg A)(Yf:mg "CALLS"=some (.ref ca))(HV:∀(i:Nat)(nm:Str)(f:af),Cb[i]? = some nm->mg nm=some (.ref f)->dy aQ (.inl (i:Int))=some (.ref f))
 (C0:fP P w K mg base 4 "call_clear" ["state","numbers"] (de A Tb KG)) (C1:fP P w K mg base 8 "call_table" ["state","text"] (de A Tb KL)) (C2:fP P w K mg base 4 "call_show" ["state","numbers"] (de A Tb PH)) (C3:fP P w K mg base 6 "call_cancel" ["state","numbers"] (de A Tb Fb)) (C4:fP P w K mg base 6 "call_delay" ["state","numbers"] (de A Tb KH)) (C5:fP P w K mg base 10 "call_time" ["state","numbers"] (de A Tb PJ))
 (C6:fP P w K mg base 6 "call_earliest" ["state","numbers"] (de A Tb zC)) (C7:fP P w K mg base 6 "call_bests" ["state","numbers"] (de A Tb KE)) (C8:fP P w K mg base 6 "call_latest" ["state","numbers"] (de A Tb Fd)) (C9:fP P w K mg base 7 "call_post" ["state","numbers"] (de A Tb PD)) (C10:fP P w K mg base 2 "call_withdraw" ["state","numbers"] (de A Tb zD)) (C11:fP P w K mg base 9 "call_booked" ["state","numbers"] (de A Tb Fa)) (C12:fP P w K mg base 10 "call_used" ["state","numbers"] (de A Tb PK))
 (C13:fP P w K mg base 6 "call_run" ["state","numbers"] (de A Tb U_)) (C14:fP P w K mg base 5 "call_order" ["state","numbers"] (de A Tb KJ)) (C15:fP P w K mg base 10 "call_board" ["state","numbers"] (de A Tb KF)) (C16:fP P w K mg base 3 "call_runsof" ["state","numbers"] (de A Tb Ff)) (C17:fP P w K mg base 9 "call_late" ["state","numbers"] (de A Tb PB)) (C18:fP P w K mg base 1 "call_counts" ["state","numbers"] (de A Tb Fc)):
 cQ P w K mg base gW 11 f fd ["state","call","numbers"] (xW K A Tb ca aQ):=by
 exists F,xJ;rintro s nu F B S n p args c rfl hR zX hX so h5 mZ k:vV 8 Ix 5 Cz h;have hu:=fJ hr;have nd:=xJ.nd;show #[ia,_,(ae (sv 3 nd (Og (Oi Yf) (pv 1) (λ_ _=>rfl))) (kY (Wx (pv 3) (mz (pv 0) (pv 2))))),?_];try dsimp only[dj]
 left;rcases hR with⟨rfl,h⟩|⟨rfl,h⟩|⟨rfl,h⟩|⟨rfl,h⟩|⟨rfl,h⟩|⟨rfl,h⟩|⟨rfl,h⟩|⟨rfl,h⟩|⟨rfl,h⟩|⟨rfl,h⟩|⟨rfl,h⟩|⟨rfl,h⟩|⟨rfl,h⟩|⟨rfl,h⟩|⟨rfl,h⟩|⟨rfl,h⟩|⟨rfl,h⟩|⟨rfl,h⟩|⟨rfl,h⟩;.rintro f0 vU F0 m0 k0 b0:lA C0.ex;show #[il,ca,aQ,.inl 0,.ref f0,rfl,zX,rfl,HV 0 _ f0 rfl m0,?_];exists #[ig,f0,_,vU,_,_,#[ip,rfl,F0,hr.mono (by decide),k0,b0,?_]];exists #[iw,s,nu,F,B,S,n,args,c,#[iu,rfl,h,hX,so,h5,mZ,k]]
 .rintro f0 vU F0 m0 k0 b0:lA C1.ex;show #[il,ca,aQ,.inl 1,.ref f0,rfl,zX,rfl,HV 1 _ f0 rfl m0,?_];exists #[ig,f0,_,vU,_,_,#[ip,rfl,F0,hr.mono (by decide),k0,b0,?_]];exists #[iw,s,nu,F,B,S,n,args,c,#[iu,rfl,h,hX,so,h5,mZ,k]]
 .rintro f0 vU F0 m0 k0 b0:lA C2.ex;show #[il,ca,aQ,.inl 2,.ref f0,rfl,zX,rfl,HV 2 _ f0 rfl m0,?_];exists #[ig,f0,_,vU,_,_,#[ip,rfl,F0,hr.mono (by decide),k0,b0,?_]];exists #[iw,s,nu,F,B,S,n,args,c,#[iu,rfl,h,hX,so,h5,mZ,k]]
 .rintro f0 vU F0 m0 k0 b0:lA C3.ex;show #[il,ca,aQ,.inl 3,.ref f0,rfl,zX,rfl,HV 3 _ f0 rfl m0,?_];exists #[ig,f0,_,vU,_,_,#[ip,rfl,F0,hr.mono (by decide),k0,b0,?_]];exists #[iw,s,nu,F,B,S,n,args,c,#[iu,rfl,h,hX,so,h5,mZ,k]]
 .rintro f0 vU F0 m0 k0 b0:lA C4.ex;show #[il,ca,aQ,.inl 4,.ref f0,rfl,zX,rfl,HV 4 _ f0 rfl m0,?_];exists #[ig,f0,_,vU,_,_,#[ip,rfl,F0,hr.mono (by decide),k0,b0,?_]];exists #[iw,s,nu,F,B,S,n,args,c,#[iu,rfl,h,hX,so,h5,mZ,k]]
 .rintro f0 vU F0 m0 k0 b0:lA C5.ex;show #[il,ca,aQ,.inl 5,.ref f0,rfl,zX,rfl,HV 5 _ f0 rfl m0,?_];exists #[ig,f0,_,vU,_,_,#[ip,rfl,F0,hr.mono (by decide),k0,b0,?_]];exists #[iw,s,nu,F,B,S,n,args,c,#[iu,rfl,h,hX,so,h5,mZ,k]]
 .rintro f0 vU F0 m0 k0 b0:lA C6.ex;show #[il,ca,aQ,.inl 6,.ref f0,rfl,zX,rfl,HV 6 _ f0 rfl m0,?_];exists #[ig,f0,_,vU,_,_,#[ip,rfl,F0,hr.mono (by decide),k0,b0,?_]];exists #[iw,s,nu,F,B,S,n,args,c,#[iu,rfl,h,hX,so,h5,mZ,k]]
 .rintro f0 vU F0 m0 k0 b0:lA C7.ex;show #[il,ca,aQ,.inl 7,.ref f0,rfl,zX,rfl,HV 7 _ f0 rfl m0,?_];exists #[ig,f0,_,vU,_,_,#[ip,rfl,F0,hr.mono (by decide),k0,b0,?_]];exists #[iw,s,nu,F,B,S,n,args,c,#[iu,rfl,h,hX,so,h5,mZ,k]]
 .rintro f0 vU F0 m0 k0 b0:lA C8.ex;show #[il,ca,aQ,.inl 8,.ref f0,rfl,zX,rfl,HV 8 _ f0 rfl m0,?_];exists #[ig,f0,_,vU,_,_,#[ip,rfl,F0,hr.mono (by decide),k0,b0,?_]];exists #[iw,s,nu,F,B,S,n,args,c,#[iu,rfl,h,hX,so,h5,mZ,k]]
 .rintro f0 vU F0 m0 k0 b0:lA C9.ex;show #[il,ca,aQ,.inl 9,.ref f0,rfl,zX,rfl,HV 9 _ f0 rfl m0,?_];exists #[ig,f0,_,vU,_,_,#[ip,rfl,F0,hr.mono (by decide),k0,b0,?_]];exists #[iw,s,nu,F,B,S,n,args,c,#[iu,rfl,h,hX,so,h5,mZ,k]]
 .rintro f0 vU F0 m0 k0 b0:lA C10.ex;show #[il,ca,aQ,.inl 10,.ref f0,rfl,zX,rfl,HV 10 _ f0 rfl m0,?_];exists #[ig,f0,_,vU,_,_,#[ip,rfl,F0,hr.mono (by decide),k0,b0,?_]];exists #[iw,s,nu,F,B,S,n,args,c,#[iu,rfl,h,hX,so,h5,mZ,k]]
 .rintro f0 vU F0 m0 k0 b0:lA C11.ex;show #[il,ca,aQ,.inl 11,.ref f0,rfl,zX,rfl,HV 11 _ f0 rfl m0,?_];exists #[ig,f0,_,vU,_,_,#[ip,rfl,F0,hr.mono (by decide),k0,b0,?_]];exists #[iw,s,nu,F,B,S,n,args,c,#[iu,rfl,h,hX,so,h5,mZ,k]]
 .rintro f0 vU F0 m0 k0 b0:lA C12.ex;show #[il,ca,aQ,.inl 12,.ref f0,rfl,zX,rfl,HV 12 _ f0 rfl m0,?_];exists #[ig,f0,_,vU,_,_,#[ip,rfl,F0,hr.mono (by decide),k0,b0,?_]];exists #[iw,s,nu,F,B,S,n,args,c,#[iu,rfl,h,hX,so,h5,mZ,k]]
 .rintro f0 vU F0 m0 k0 b0:lA C13.ex;show #[il,ca,aQ,.inl 13,.ref f0,rfl,zX,rfl,HV 13 _ f0 rfl m0,?_];exists #[ig,f0,_,vU,_,_,#[ip,rfl,F0,hr.mono (by decide),k0,b0,?_]];exists #[iw,s,nu,F,B,S,n,args,c,#[iu,rfl,h,hX,so,h5,mZ,k]]
 .rintro f0 vU F0 m0 k0 b0:lA C14.ex;show #[il,ca,aQ,.inl 14,.ref f0,rfl,zX,rfl,HV 14 _ f0 rfl m0,?_];exists #[ig,f0,_,vU,_,_,#[ip,rfl,F0,hr.mono (by decide),k0,b0,?_]];exists #[iw,s,nu,F,B,S,n,args,c,#[iu,rfl,h,hX,so,h5,mZ,k]]
 .rintro f0 vU F0 m0 k0 b0:lA C15.ex;show #[il,ca,aQ,.inl 15,.ref f0,rfl,zX,rfl,HV 15 _ f0 rfl m0,?_];exists #[ig,f0,_,vU,_,_,#[ip,rfl,F0,hr.mono (by decide),k0,b0,?_]];exists #[iw,s,nu,F,B,S,n,args,c,#[iu,rfl,h,hX,so,h5,mZ,k]]
 .rintro f0 vU F0 m0 k0 b0:lA C16.ex;show #[il,ca,aQ,.inl 16,.ref f0,rfl,zX,rfl,HV 16 _ f0 rfl m0,?_];exists #[ig,f0,_,vU,_,_,#[ip,rfl,F0,hr.mono (by decide),k0,b0,?_]];exists #[iw,s,nu,F,B,S,n,args,c,#[iu,rfl,h,hX,so,h5,mZ,k]]
 .rintro f0 vU F0 m0 k0 b0:lA C17.ex;show #[il,ca,aQ,.inl 17,.ref f0,rfl,zX,rfl,HV 17 _ f0 rfl m0,?_];exists #[ig,f0,_,vU,_,_,#[ip,rfl,F0,hr.mono (by decide),k0,b0,?_]];exists #[iw,s,nu,F,B,S,n,args,c,#[iu,rfl,h,hX,so,h5,mZ,k]]
 .rintro f0 vU F0 m0 k0 b0:lA C18.ex;show #[il,ca,aQ,.inl 18,.ref f0,rfl,zX,rfl,HV 18 _ f0 rfl m0,?_];exists #[ig,f0,_,vU,_,_,#[ip,rfl,F0,hr.mono (by decide),k0,b0,?_]];exists #[iw,s,nu,F,B,S,n,args,c,#[iu,rfl,h,hX,so,h5,mZ,k]]
def qz.swap{A:dW}{T:af}{F B H H':Hp}{s td:af}{S:aO}{W:Wh}{ck dk:List (List ez×V)}{xs ys:List V}(h:qz A T F B H s S W ck dk)(hb:B td=some (.lst xs))(hf:F td=none)(k:eA H H' td)(e:H' td=some (.lst ys)):qz A T F (upd B td (.lst ys)) H' s S W ck dk:=by
 have hH:=h.bh _ _ hb;have nB:∀{b},B b=none->b≠td:=λn z=>by rw[z,hb] at n;cases n
 have nU:∀{b},B b=none->upd B td (.lst ys) b=none:=λn=>by rw[aR (nB n)];show n
 show⟨aB h.fh k hf,λb o q=>?_,h.fT,nU h.bT,h.tab.keep k (by rw[hH];show eZ),h.fs,nU h.bs,k _ _ h.hs (nB h.bs),h.table,h.fc,nU h.bc,k _ _ h.hc (nB h.bc),h.off,h.cd,h.fd,nU h.bd,k _ _ h.hd (nB h.bd),?_,?_,h.ft,nU h.bt,k _ _ h.ht (nB h.bt),?_,λp hp=>⟨(h.fp p hp).1,nU (h.fp p hp).2⟩,h.nd⟩
 .by_cases z:b=td;.subst z;rw[aT] at q;cases q;show e
  .rw[aR z] at q;show k _ _ (h.bh _ _ q) z
 .show #[ic,h.del.1,λt ht d=>(h.del.2.1 t ht d).imp _root_.id λ⟨a,ha,q1,q2⟩=>#[ie,a,ha,q1,k _ _ q2 (nB (h.qt a ha).2.1)],h.del.2.2]
 .intro a ha;rintro q1 q2 xs q3:lB 2 bW<|h.qt a ha
  show #[ic,q1,nU q2,⟨xs,k _ _ q3 (nB q2)⟩]
 .have gen:∀{ps:List (af×af)}{xs:List bv},(∀p∈ps,p∈W.ps)->cg (sL A F H S.world) ps xs->cg (sL A F H' S.world) ps xs:=by
   intro ps xs hp hq;induction hq with
   |nil=>show .nil
   |cons r tt ih=>rintro r1 bs r2 r3:EQ r;show .cons #[io,r1,bs,k _ _ r2 (nB (h.fp _ (hp _ (aJ ..))).2),r3] (ih λp h=>hp p (au _ h))
  show gen (λp h=>h) h.loads
def qz.ajq{A:dW}{T:af}{F B H H':Hp}{s nu:af}{S:aO}{W:Wh}{ck dk:List (List ez×V)}{o:HO}(h:qz A T F B H s S W ck dk)(sm:aq H H')(n:H nu=none)(e:H' nu=some o):qz A T F (upd B nu o) H' s S W ck dk:=by
 have h':=h.same sm;have nU:∀{b u},H b=some u->B b=none->upd B nu o b=none:=λ{b u}q nb=>by rw[aR (λz=>by rw[z,n] at q;cases q)];show nb
 rintro Ug hT _:bM h.tab;show { h' with bh:=λb u q=>?_,bT:=nU hT h.bT,bs:=nU h.hs h.bs,bc:=nU h.hc h.bc,bd:=nU h.hd h.bd,bt:=nU h.ht h.bt,qt:=λa ha=>?_,fp:=λp hp=>?_ }
 .by_cases z:b=nu;.subst z;rw[aT] at q;cases q;show e
  .rw[aR z] at q;show h'.bh _ _ q
 .rintro q1 q2 xs q3:lB 2 bW<|h.qt a ha;show #[ic,q1,nU q3 q2,⟨xs,sm _ _ q3⟩]
 .rintro bs q:bW<|h.lst hp;show⟨(h.fp p hp).1,nU q (h.fp p hp).2⟩
def Px.xok{n:Nat}{S:aO}(h:Px n S)(h5:n+5<=2000):XOk n S:=⟨h5,h.off,h.Nn,TB.bok h.tab.mins h.tab.trips⟩
def Yr(xs:List V)(i j:Nat)(h:i<=j)(hj:j<=xs.length):Cf xs (some (i:Int)) (some (j:Int))=(xs.drop i).take (j - i):=by unfold Cf;rw[HT.uR,HT.uR,iF hj,iF (show i<=xs.length by omega)]
abbrev pG:cK:=top 125
def GR:aU ["calls","state","told","at","begin","end","answer"] ["calls"] (aG pG):=jy
def Ao(K:ad)(T ca sz:af)(aQ:List (ez×V)):Sp:=λvs H Q _=>∃(a:af)(l:List Int),vs=[.ref a]/\cf K H a (cN l)/\AK K ca aQ/\AK K sz vj/\eP H T mr lV/\HF l=true/\∀p H',H' p=some (.lst (cN (qR l)))->Q (.ref p) H'
def Qy(F:i9 K "answers" "answers" pG f fd)(T:eX K mg A)(Yd:MY P w K mg base 4 "State" A.state ["self"] (za A))(B5:fP P w K mg base 1 "size_of" ["calls","at"] (G6 K sz))(qS:fP P w K mg base 11 "answer_call" ["state","call","numbers"] (xW K A Tb ca aQ)):cQ P w K mg base gW 12 f fd ["calls"] (Ao K Tb ca sz aQ):=by
 exists F,GR;rintro a l rfl ha zX hsz A7 P8 k:lA 5 Cz h;have nd:=GR.nd;show #[ia,_,(ae (sv 1 nd (LT Yd hr)) (ae (sv 2 nd (bI jf)) (ae (sv 3 nd aw) (ae (WH bj (kq qH (pv 3) (xb T.fb (pv 0))) (ae (sv 4 nd (fB iI (pv 3) aw)) (ae (kG (kq lI (xL (pv 0) (pv 3)) (bG T.Ld)) (bA (sv 4 nd (fB iI (pv 3) aw))) fU) (ae (sv 5 nd (fB iI (pv 4) (bC B5 hr (mz (pv 0) (pv 3))))) (ae (sv 6 nd (bC qS hr (qu (pv 1) (xL (pv 0) (pv 3)) (pX Mg (pv 0) (o6 (pv 4)) (o6 (pv 5)))))) (ae (dN (Mx (pv 2) (xb T.fb (pv 6)))) (ae (dN (exE (pv 2) (pv 6))) (bA (sv 3 nd (pv 5)))))))))) (kY (pv 2)))))),?_];try dsimp only[dj]
 rintro Ug hT hTr:bM A7;have A7:eP H Tb mr lV:=#[ia,Ug,hT,hTr];let B0:Hp:=λb=>if b=Tb then none else H b;have sB0:aq B0 H:=λb o e=>by
  change H b=some o;have e:(if b=Tb then none else H b)=some o:=e;split at e;.cases e
  .show e
 have rdB:∀{x:af}{u:HO}{H':Hp},aq B0 H'->(∀q,u≠.Az q)->Rd H x u->Rd H' x u:=by
  intro x u H' sm nu r;have nx:∀o,H x=some o->(∀q,o≠.Az q)->H' x=some o:=λo e n=>sm _ _ (by change (if x=Tb then none else H x)=some o;rw[if_neg (λz=>by rw[z,hT] at e;cases e;show n _ rfl)];show e);rcases r with r|⟨o,r⟩;.show .inl (nx _ r nu)
  .show .inr ⟨o,nx _ r (by intro q z;cases z)⟩
 have hA:∀{H':Hp},aq B0 H'->cf K H' a (cN l):=λsm=>ha.imp (rdB sm (by intro q z;cases z)) _root_.id;unfold HF SY at P8;cases YF:mB gK l.length l with
 |none=>rw[YF] at P8;cases P8
 |some cs0=>
  rw[YF] at P8;have h400:cs0.length<=400:=by have:=P8;rw[ak] at this;have h1:=this.1;unfold PyFlat.atMost at h1;have:=of_decide_eq_true h1;rw[ab] at this;show this
  have aso:qR l=De (Hz iC mC (cs0.map jx)):=by unfold qR SY;rw[YF];rfl
  exists pY λs dx H1 h1 h2 s1=>#[ib,s,dx,rfl,h2,λtb dt m l0 c dl th H2 q1 q2 q3 q4 q5 q6 q7 q8 q9 q10 WJ Zs Zt UU UV q16 q17 q18=>⟨rfl,?_⟩];have e2:aq H H2:=aB s1 q17 h1;have wL:eP H2 Tb mr lV:=A7.mono e2;have hX0:Va A Tb (Fz (λ_=>none) H2 [tb,m,l0]) B0 H2 s mC:=by
   have nF:∀{b},b≠tb->b≠m->b≠l0->Fz (λ_=>none) H2 [tb,m,l0] b=none:=λ{b}n1 n2 n3=>Fz.no (by simp only[aD,cR,or_false];show λz=>z.elim n1 λz=>z.elim n2 n3) rfl;have n1:∀b,H1 b=none->B0 b=none:=λb n=>sB0.free (s1.free n);have tn:∀b,H1 b=none->Tb≠b:=λb n z=>by rw[<-z,s1 _ _ hT] at n;cases n
   have sn:∀b,H1 b=none->s≠b:=λb n z=>by rw[<-z,h2] at n;cases n
   show qz.fresh (tb:=tb) (c:=c) (dl:=dl) (th:=th) (dx:=dx) (H:=H) (F:=H) (b:=gL) (now:=0) (Fz.same (λb o e=>by cases e)) (sB0.trans e2) (nF (tn _ q1) (tn _ q2) (tn _ q3)) (if_pos rfl) wL (nF (sn _ q1) (sn _ q2) (sn _ q3)) (sB0.free h1) q18
    #[ii,dt,m,l0,Fz.get (by simp) WJ,Fz.get (by simp) Zs,#[ia,[],Fz.get (by simp) Zt,.nil]] (nF (oy UU WJ) (oy UU Zs) (oy UU Zt)) (n1 _ q4) UU q10
    (nF (oy UV WJ) (oy UV Zs) (oy UV Zt)) (n1 _ q5) UV (nF (oy q16 WJ) q8 q9) (n1 _ q6) q16
  have sFz:aq (Fz (λ_=>none) H2 [tb,m,l0]) H2:=Fz.same (λb o e=>by cases e);exists jw λtd H3 htd aux e3=>?_;left;rintro W0 ck0 dk0 hS0:Qx hX0;let Iv:Nat->L2.St->Hp->Prop:=λmm σ' H'=>∃(i kc:Nat)(S:aO)(F B:Hp)(cs:List (List (List Int)))(UH:List Int)(u4 u5 u6:Option V),mm=l.length - i/\σ'=[some (.ref a),some (.ref s),some (.ref td),some (iv i),u4,u5,u6]/\i<=l.length/\(∃ff,mB gK ff (l.drop i)=some cs)/\
   Va A Tb F B H' s S/\aq B0 B/\B td=some (.lst (cN UH))/\F td=none/\Px (5*kc) S/\kc+cs.length<=400/\UH.length<=40001*kc/\qR l=UH++De (Hz iC S (cs.map jx))
  show #[ia,Iv,#[iw,l.length,0,0,mC,_,upd B0 td (.lst []),cs0,[],#[ii,none,none,none,rfl,rfl,#[iu,bV _,⟨l.length,YF⟩,#[ir,W0,ck0,⟨dk0,hS0.ajq e3 htd aux⟩],cq ((sB0.trans e2).free htd),aT,sFz.free htd,#[ij,Px.start 0 (by decide),by omega,aA _,aso]]]],?_];rintro mm σ' H' cG;rintro i kc S F B cs UH u4 u5 u6 rfl rfl VZ ⟨ff,O_⟩ ⟨W,ck,dk,hS⟩ sB adh ar7 hN hk4 hdl hE:vV 8 lA 5 wb 6 lB cG;have sBH:aq B0 H':=sB.trans hS.bh;exists h_ (hA sBH) ?_;unfold cN;rw[ab];exists cY (λlr=>?_) (λlr=>?_)
  .have lr:i<l.length:=by omega
   show #[ia,λσ' H'=>∃m',m'<l.length - i/\Iv m' σ' H',λσ' H' h=>h,?_];have hdr:l.drop i=l[i]::l.drop (i+1):=eW lr;have YQ:l[i]? = some l[i]:=bb lr;generalize l[i]=p at hdr YQ;rw[hdr] at O_;obtain⟨cl,t,cs',f',akt,as2,rfl⟩:∃cl t cs' f',Dd gK (p::l.drop (i+1))=some (cl,t)/\mB gK f' t=some cs'/\cs=cl::cs':=by
    cases ff with
    |zero=>simp[mB] at O_
    |succ f'=>
     unfold mB at O_;cases hc:Dd gK (p::l.drop (i+1)) with
     |none=>rw[hc] at O_;cases O_
     |some x=>
      obtain⟨cl,t⟩:=x;rw[hc] at O_;dsimp only at O_;cases YE:mB gK f' t with
      |none=>rw[YE] at O_;cases O_
      |some cs'=>rw[YE] at O_;cases O_;show #[iy,cl,t,cs',f',#[ic,rfl,YE,rfl]]
   rintro Dr num args c cut:Qx 3 bW<|Vj akt;rw[aP] at hk4;have hN5:5*kc+5<=2000:=by omega
   have ak2:i+Dr+num<=l.length:=by have:=cut.fits;rw[iW] at this;omega
   have akm:args=((l.drop i).drop Dr).take num:=by rw[hdr];show cut.args
   have aly:t=l.drop (i+Dr+num):=by have:=cut.rest;rw[<-hdr,X2] at this;rw[this];congr 1;omega
   have ix:∀{H':Hp}{Q:VK},aq B0 H'->Q (.int p) H'->L1 K (.ref a) (.int (i:Nat)) H' Q:=λsm q=>bY (hA sm) (aV (by unfold cN;rw[aF,YQ];rfl)) q
   with_reducible show mO ?_
   walk_at "rds"
   with_reducible show xk (λσ' UF=>σ'=[some (.ref a),some (.ref s),some (.ref td),some (iv i),some (iv (i+Dr)),u5,u6]/\UF=H') ?_ (λJ=>?_)
   .rintro σ' UF cG;rintro rfl hHE:fo cG;rw[hHE];clear hHE;exists #[ig,a,l,i,num,p,#[iu,rfl,hA sBH,hsz,YQ,λz=>?_,λz=>(cut.other z).2,?_]]
    .rintro _ r' hr':fo 1 bW<|cut.one z;have:(l.drop (i+1))[0]? = some (num:Int):=by rw[hr'];rfl
     rw[AB] at this;show this
    exists ix sBH ?_;exists WX (hA sBH) λnu H4 mZ ad7 e4=>?_;have adt:Cf (cN l) (some ((i+Dr:Nat):Int)) (some (((i+Dr:Nat):Int)+(num:Int)))=cN args:=by rw[show (((i+Dr:Nat):Int)+(num:Int))=((i+Dr+num:Nat):Int) by omega,Yr _ _ _ (by omega) (by unfold cN;rw[ab];show ak2)];rw[akm,X2];unfold cN;rw[ZY,As,show i+Dr+num - (i+Dr)=num by omega]
    have ad7:H4 nu=some (.lst (cN args)):=by rw[<-adt];show ad7
    have hS4:=hS.ajq e4 mZ ad7;have sB4:aq B0 H4:=sBH.trans e4;left;have axl:td≠nu:=λz=>by rw[<-z,hS.bh _ _ adh] at mZ;cases mZ
    have hB4:upd B nu (.lst (cN args)) td=some (.lst (cN UH)):=by rw[aR axl];show adh
    show #[iw,s,nu,F,_,S,5*kc,p,args,#[ie,c,rfl,cut.rn,#[ip,zX,#[ir,W,ck,⟨dk,hS4⟩],hN.so,hN.xok hN5,aT,λan F5 H5 hX5 f1 f2 han akl=>?_]]];rintro W5 ck5 dk5 hS5:Qx hX5;have hlen:(mf (az S c).2).length<=40000:=PL hN hN5 c;have aj6:H4 td=some (.lst (cN UH)):=hS4.bh _ _ hB4;have hF5:F5 td=none:=f2 _ _ aj6 ar7;have al2:H5 td=some (.lst (cN UH)):=hS5.bh _ _ hB4;have ari:an≠td:=λz=>by rw[z,aj6] at han;cases han
    have hdl2:UH.length<=16000400:=aE hdl (by have:40001*kc<=40001*400:=SV _ (by omega);omega);have hdl3:UH.length+1+(mf (az S c).2).length<=40001*(kc+1):=by rw[Nat.mul_succ];omega
    have hdl4:40001*(kc+1)<=40001*400:=SV _ (by omega);exists jm (cf.of al2) ?_;exists h_ (cf.of akl) ?_;exists fL (T:="list") rfl al2 (by unfold cN;rw[ab];unfold sizeLine;omega) λH6 t6 k6=>?_;have hS6:=hS5.swap hB4 hF5 k6 t6;exists jm (cf.of t6) ?_;exists Bi (l:=td) (T:="list") t6 (k6 _ _ akl ari) (by unfold cN;rw[ap,ab,ab];simp only[ci];unfold sizeLine;omega) λH7 t7 k7=>?_;have hS7:=hS6.swap aT hF5 k7 t7;left;have al1:iC S (jx cl)=((az S c).1,mf (az S c).2):=by unfold iC;rw[cut.co];rfl
    have hbeg:1<=Dr:=by
     by_cases z:p=1;.rw[(cut.one z).1];decide
     .rw[(cut.other z).1];show aA _
    show #[ia,l.length - (i+Dr+num),by omega,#[iw,i+Dr+num,kc+1,(az S c).1,F5,_,cs',UH++(((mf (az S c).2).length:Int)::mf (az S c).2),some (iv (i+Dr)),#[ik,some (.int (((i+Dr:Nat):Int)+(num:Int))),some (.ref an),rfl,?_,ak2,⟨f',by rw[<-aly];show as2⟩,#[iu,#[ir,W5,ck5,⟨dk5,hS7⟩],?_,?_,hF5,?_,by omega,⟨?_,?_⟩]]]];.change [_,_,_,some (V.int (((i+Dr:Nat):Int)+(num:Int))),_,_,_]=_;rw[show (((i+Dr:Nat):Int)+(num:Int))=((i+Dr+num:Nat):Int) by omega]
    .intro b o e;have nb:b≠td:=λz=>by
      have:H td=none:=(e2.trans (aq.refl _)).free htd;have h9:=sB0 _ _ e;rw[z,this] at h9;cases h9
     rw[aR nb,aR nb,aR (λz=>by
      have h9:=sBH _ _ e;rw[z,mZ] at h9;cases h9)]
     show sB _ _ e
    .rw[aT];unfold cN;rw[aj,ab,et];rfl
    .rw[show 5*(kc+1)=5*kc+5 by omega];show hN.step hN5 c
    .rw[ap,aP];omega
    .rw[hE];change UH++De ((iC S (jx cl)).2::Hz iC (iC S (jx cl)).1 (cs'.map jx))=_;rw[al1];unfold De;rw[js,et]
   .walk_at "rds";show ix sBH ?_;walk_at "rds";show cY (λh1=>?_) (λh1=>?_)<;>walk_at "rds";.show J _ _ ⟨?_,rfl⟩;rw[(cut.one h1).1];rfl
    .show J _ _ ⟨?_,rfl⟩;rw[(cut.other h1).1];rfl
  .have hi:i=l.length:=by omega
   left;have as3:cs=[]:=by rw[hi,eS (aA _)] at O_;cases ff<;>(unfold mB at O_;cases O_;rfl)
   show k td H' ?_;rw[hS.bh _ _ adh,hE,as3];change _=some (HO.lst (cN (UH++[])));rw[b9]
end
end TT
end
section
namespace TT
open PySem.W (WData Codec OpenSpec Well WellAll ReadsW ReadsAllW)
mutual
theorem Yv{K:ad}{H H':Hp}(s:aq H H'):∀{v:V}{d:kQ},Dw K H v d->Dw K H' v d
 |_,_,.non=>.non
 |_,_,.bl b=>.bl b
 |_,_,.int i=>.int i
 |_,_,.str x=>.str x
 |_,_,.KS b=>.KS b
 |_,_,.lst h t=>.lst (s.seq h) (ui s t)
 |_,_,.tup h t=>.tup (h.imp (λr=>r.imp (λe=>s _ _ e) λ⟨o,e⟩=>⟨o,s _ _ e⟩) id) (ui s t)
theorem ui{K:ad}{H H':Hp}(s:aq H H'):∀{vs:List V}{ds:List kQ},sM K H vs ds->sM K H' vs ds
 |_,_,.nil=>.nil
 |_,_,.cons h t=>.cons (Yv s h) (ui s t)
end
def Q7{P:aS}{w:bL}{K:ad}{mg mb:Str->Option ag}{CX:XB}{k:Nat}{fa T:af}{fd:b_}{ps:List Str}{sp:Sp}{s₁:ao}{vals:List ag}{ds:List kQ}{R:RA}{cl:Str->Option af}{d0:kQ}
 (KX:K.In s₁.heap) (hns:s₁.heap.Ns bS mg) (hb:s₁.heap.Ns EA mb) (hbb:∀x:Str,x≠"__name__"->mb x=yE x) (atx:s₁.heap.NoLimit) (hg:s₁.gens=#[])
 (hT:s₁.heap.get? T=some { cls:=.none,data:=.fields #[] }) (kT:K.lookup T=none) (hCT:isCodeTable s₁.heap T) (hbm:∃bm ob,mg "__builtins__"=some (.ref bm)/\bm≠EA/\s₁.heap.get? bm=some ob/\ob.cls=.type "module"/\ob.dict=some EA/\ob.data=.plain)
 (FR:BW w.params s₁.heap vals ds) (yu:Er ds=true) (hwt:∀d∈ds,d.weight<=1048576) (hr:jA k UC)
 (F:∀base:cE,K.In base->base.Ns bS mg->base.BuiltinsAt mg T->cQ P w K mg base CX k fa fd ps sp) (akr:∀(s:ao)(us:List ag),us.length=ps.length->Uz s fd ⟨us,[]⟩ (ps.zip us)) (hlen:ds.length=ps.length)
 (MD:∀(H:Hp)(xs:List V),H T=some (.Az #[])->sM K H xs ds->sp xs H (λv H'=>Dw K H' v d0) λ_ _ _=>False)
 (hCX:∀H e s',CX [] H s₁ (λ_ _ _=>False) e s'->False):
 vR (model P w) UC (.call (.ref fa) ⟨vals,[]⟩) (λr s'=>∃u as,r=.ok (.ret u)/\ReadsW R cl s'.heap u d0 as/\OldK s₁.heap s'.heap/\s'.os=s₁.os/\Hh s'.gens) s₁:=by
 rintro A ho ar:bM<|AM ds vals FR yu hwt;have hO:aad (ue K s₁.heap A):=S4 ar;have eU:vA P w (ue K s₁.heap A) s₁.heap:=Yl ar;have hS:=K1 KX ar ds vals FR yu ho;have hV:=tQ ho;have hK:∀b u,ue K s₁.heap A b=some u->K.lookup b=none:=λb u q=>(EF ar q).1;have noA:∀{b:af}{o:iG},s₁.heap.get? b=some o->(∀vs n,o.data≠.seq vs n)->ue K s₁.heap A b=none:=λ{b o}e d=>by
  cases q:ue K s₁.heap A b with
  |none=>rfl
  |some u=>
   rintro _ vs _ _ (⟨e2,_⟩|⟨e2,_⟩):EQ 3 fo<|EF ar q;.rw[e2] at e;cases e;show absurd rfl (d _ _)
   .rw[e2] at e;cases e;show absurd rfl (d _ _)
 generalize ue K s₁.heap A=H0 at hO eU hS hK noA;have h0T:H0 T=none:=noA hT (by intro vs n z;cases z);have sU:aq H0 (upd H0 T (.Az #[])):=λb o e=>by rw[aR (aI e h0T)];show e
 have aea:vA P w (upd H0 T (.Az #[])) s₁.heap:=λb o e=>by
  by_cases z:b=T;.subst z;rw[aT] at e;cases e;show hT
  .rw[aR z] at e;show (eU b o e).yA (λ_ _ _ q=>q) (λc q=>sU _ _ q) (λc xs q=>sU _ _ q)
 have hS1:=ui sU hS;have afi:∀{b:af}{o:iG},s₁.heap.get? b=some o->(∀vs n,o.data≠.seq vs n)->b≠T->upd H0 T (.Az #[]) b=none:=λe d n=>by rw[aR n];show noA e d
 have hK1:∀b u,upd H0 T (.Az #[]) b=some u->K.lookup b=none:=λb u q=>by
  by_cases z:b=T;.rw[z];show kT
  .rw[aR z] at q;show hK b u q
 have hH1:∀b u,upd H0 T (.Az #[]) b=some u->b=T\/∃o u',u=.oO o u':=λb u q=>by
  by_cases z:b=T;.show .inl z
  .rw[aR z] at q;rcases hO b with e|⟨o,u',e⟩;.rw[e] at q;cases q
   .rw[e] at q;cases q;show .inr #[ir,o,u',rfl]
 have hHT:upd H0 T (.Az #[]) T=some (.Az #[]):=aT;generalize upd H0 T (.Az #[])=H at aea hS1 afi hK1 hH1 hHT;have KQ:∀{b:af}{o:iG},s₁.heap.get? b=some o->H b=none->(Il s₁.heap H).get? b=some o:=λe n=>VY e n;have nsK:∀{b:af}{m:Str->Option ag},s₁.heap.Ns b m->(Il s₁.heap H).Ns b m:=λ{b m}cG=>rD cG λo es ep e d r=>#[ii,o,es,ep,KQ e (afi e (by rw[d];intro vs n z;cases z) (λz=>by rw[z,hT] at e;cases e;cases d)),d,r];have nK:∀b o,K.lookup b=some o->H b=none:=λb o e=>by
  cases q:H b with
  |none=>rfl
  |some u=>rw[hK1 b u q] at e;cases e
 have hKb:K.In (Il s₁.heap H):=λb o e=>KQ (KX b o e) (nK b o e);have hM:Mod K mg (Il s₁.heap H):=⟨hKb,nsK hns,#[ia,mb,nsK hb,hbb],bM atx λmc h1 h2=>#[ia,mc,nsK h1,h2]⟩;have hBA:(Il s₁.heap H).BuiltinsAt mg T:=by
  rintro bm ob b1 b2 b3 b4 b5 b6:lA 5 lB hbm;have bT:bm≠T:=λz=>by rw[z,hT] at b3;cases b3;cases b4
  show #[ik,bm,ob,b1,b2,λz=>?_,bT,#[ij,KQ b3 (afi b3 (by rw[b6];intro vs n q;cases q) bT),b4,b5,b6]];rintro o es ep e d _:rD hns;rw[<-z,b3] at e;cases e;rw[b6] at d;cases d
 have e0:KB P w K mg (Il s₁.heap H) UC [] s₁ H:=⟨rfl,hM,λb o e=>Zj e,vZ (Tu _ _),trivial,λb hb=>absurd (show b∈([]:List af) from hb) (by simp),aea,.of_eq hg⟩;have hl:vals.length=ps.length:=by rw[qN FR];show hlen
 show ow ((F _ hKb (nsK hns) hBA).run UC [] s₁ H ⟨vals,[]⟩ vals (vals.map MF) _ _ hr e0 (akr s₁ vals hl) hV (MD H _ hHT hS1)) λr s' x=>?_;cases r with
 |error e=>show (hCX H e s' x).elim
 |ok fl=>
  cases fl with
  |next=>show ee x
  |brk=>show ee x
  |cont=>show ee x
  |ret u=>
   rintro v H' os bare un ad9 r' q:lA 5 lB x;have kept:∀b o,b≠T->s₁.heap.get? b=some o->s'.heap.get? b=some o:=λb o nb e=>by
    cases q2:H b with
    |none=>show un.keep b o e q2 (by intro z;show absurd (show b∈([]:List af) from z) (by simp)) (by simp)
    |some u2=>
     rcases hH1 b u2 q2 with z|⟨ob,u3,z⟩;.show absurd z nb
     .rw[z] at q2;have z2:=un.FF b ob _ q2;rintro e1 _:fo<|aea b _ q2;rintro e2 _:fo<|ad9 b _ z2;rw[e] at e1;cases e1;show e2
   rintro more alj:bW<|un.Ja T #[] hHT;have hTn:s'.heap.get? T=some { cls:=.none,data:=.fields (#[]++more) }:=ad9 T _ alj;have KX':K.In s'.heap:=λb o e=>kept b o (λz=>by rw[z,kT] at e;cases e) (KX b o e);rintro as hrd:bW<|Dw.reads (R:=R) (cl:=cl) ad9 KX' d0 v u q r';show #[ik,u,as,rfl,hrd,⟨λb o e=>?_,λb o e=>?_⟩,os,bare]
   .by_cases z:b=T;.subst z;rw[hT] at e;cases e;show .inr (.inl #[ic,hCT,rfl,#[im,#[],more,rfl,hTn]])
    .show .inl (kept b o z e)
   .by_cases z:b=T;.subst z;show⟨_,hTn⟩
    .show⟨o,kept b o z e⟩
def Rn{r:OpenSpec}{k:Nat}{q:aS}{loose:List Str}{XP:(Str->Option ag)->cE->Prop}{YP:bL->cE->Prop}{d:DefRec}{K:Ji->ad}{CX:bL->XB}{ps:List Str}{sp:bL->Sp}{T c:af}
 (al7:r.wellSaid=true) (hdf:d.params.defaults=[]) (hlen:r.args.length=ps.length) (hr:jA k UC)
 (hY:∀(w:bL)(h:cE),YP w h->(K w.params).In h) (hYT:∀(w:bL)(h:cE),YP w h->h.get? T=some { cls:=.none,data:=.fields #[] }) (kT:∀w:bL,(K w.params).lookup T=none) (hC:∀w:bL,nk (K w.params) c T=true)
 (F:∀(w:bL)(mg:Str->Option ag)(fa:af)(h:cE),YP w h->(K w.params).In h->h.Ns bS mg->mg d.name=some (.ref fa)->
  ∃fd:b_,(∀(s:ao)(us:List ag),us.length=ps.length->Uz s fd ⟨us,[]⟩ (ps.zip us))/\
   ∀base:cE,(K w.params).In base->base.Ns bS mg->base.BuiltinsAt mg T->cQ r.prog w (K w.params) mg base (CX w) k fa fd ps (sp w))
 (MD:∀(w:bL)(H:Hp)(xs:List V)(a:Ez r.args),H T=some (.Az #[])->Codec.withinAll r.args a=true->UB r.args r.asked a=true->sM (K w.params) H xs (vv r.args a)->
  sp w xs H (λv H'=>Dw (K w.params) H' v (r.ret.enc (UB r.args r.f a))) λ_ _ _=>False)
 (hCX:∀(w:bL)(H:Hp)(s:ao)(e:ag)(s':ao),CX w [] H s (λ_ _ _=>False) e s'->False):
 PySem.W.WalkOS q loose XP YP r d [] (λf vs=>PySem.call f vs):=by
 intro w JT s₁ mg mb G Y fa o pm cd doc dV kV ho hd Tt hD hmg hg args vals as aee atv hrd FR hlo;rintro a e1 e2:bM<|PySem.W.os_pre_some aee
 rintro e3 hwi:fo<|Codec.encAll_of_decAll r.args args a e1;subst e3;have KX:=hY w _ Y;rintro fd hb hF:bM<|F w mg fa _ Y KX G.T.g hmg;have hcT:isCodeTable s₁.heap T:=by rintro o vs _ _ _ _ _ _ _ g1 g2 g3 g4 _:vV 8 Ix<|PySem.W.codeHd_of_K KX (hC w);show #[ii,c,o,vs,g1,g2,⟨g3,g4⟩]
 show PySem.W.enter_call (ow (Q7 (R:=[]) (cl:=classAt JT.heap) (d0:=r.ret.enc (UB r.args r.f a)) KX G.T.g G.T.b G.T.builtins G.T.nolimit hg (hYT w _ Y) (kT w) hcT G.T.bmain FR (JO _ _) (FU atv) hr hF hb (by rw[Fq];show hlen)
  (λH xs hO hS=>MD w H xs a hO hwi e2 hS) λH e s'=>hCX w H s₁ e s') λr' s' hq=>?_)
 rintro u as' rfl h1 h2 h3 h4:lA 5 fo hq;show #[ij,.inl #[ii,u,_,as',rfl,λ_=>rfl,#[ic,h1,(OpenSpec.post_iff al7 hwi _ _).mpr rfl,λz=>dR (show false=true from z)]],h2,h3,h4]
end TT
end
section
namespace TT
def Ws:Option (Option ag)->Bool
 |some none=>true
 |_=>false
def g8{o:Option (Option ag)}(h:Ws o=true):o=some none:=by
 rcases o with _|_|v;.cases h
 .rfl
 .cases h
def aez(i:Int):Option (Option ag)->Bool
 |some (some (.int j _))=>i==j
 |_=>false
def ZO(z:Str):Option (Option ag)->Bool
 |some (some (.str y _))=>z==y
 |_=>false
def ZF:V->ag->Bool
 |.int i,.int j _=>i==j
 |.str z,.str y _=>z==y
 |_,_=>false
def SE:List V->List ag->Bool
 |[],[]=>true
 |v::vs,u::us=>ZF v u&&SE vs us
 |_,_=>false
def ZG{v:V}{u:ag}(h:ZF v u=true):RelV v u:=by
 unfold ZF at h;split at h;.cases beq_iff_eq.mp h;show⟨_,rfl⟩
 .cases beq_iff_eq.mp h;show⟨_,rfl⟩
 .cases h
theorem Ox:∀{vs:List V}{us:List ag},SE vs us=true->eV vs us
 |[],[],_=>.nil
 |v::vs,u::us,h=>by
  have h:(ZF v u&&SE vs us)=true:=h;rw[ak] at h;show .cons (ZG h.1) (Ox h.2)
 |[],_::_,h=>by cases h
 |_::_,[],h=>by cases h
def Uh(K:ad)(a:af)(xs:List V):Bool:=match K.lookup a with
 |some ⟨.type "tuple",none,.seq its _,_⟩=>SE xs its.toList&&decide (its.size<=1000)
 |_=>false
def Mq{K:ad}{a:af}{xs:List V}(h:Uh K a xs=true):(∀H,ox K H a xs)/\∃o,K.lookup a=some o/\o.cls=.type "tuple"/\o.dict=none:=by
 unfold Uh at h;split at h;.rename_i its n sl q;rw[ak] at h;show #[io,λH=>.inr #[ii,_,its,n,q,rfl,#[ic,rfl,aE (of_decide_eq_true h.2) (by unfold sizeLine;omega),Ox h.1]],_,q,⟨rfl,rfl⟩]
 .cases h
section
variable{K:ad}{h:cE}{mg:Str->Option ag}{x:Str}
def jb(X:K.In h)(G:h.Ns bS mg){i:Int}(e:aez i (ef K bS x)=true):GI mg x i:=by
 unfold aez at e;split at e;.rename_i j t q;cases beq_iff_eq.mp e;show⟨t,gI X G q⟩
 .cases e
def aam(X:K.In h)(G:h.Ns bS mg){z:Str}(e:ZO z (ef K bS x)=true):GS mg x z:=by
 unfold ZO at e;split at e;.rename_i j t q;cases beq_iff_eq.mp e;show⟨t,gI X G q⟩
 .cases e
def aan(X:K.In h)(G:h.Ns bS mg){a:af}{xs:List V}(e:ef K bS x=some (some (.ref a)))(t:Uh K a xs=true):GT K mg x xs:=#[ia,a,gI X G e,(Mq t).1]
def aj2(X:K.In h)(G:h.Ns bS mg){a:af}{xs:List V}(e:ef K bS x=some (some (.ref a)))(t:Uh K a xs=true):GD K mg x xs:=#[ie,a,gI X G e,(Mq t).1,(Mq t).2]
end
def acu(K:ad)(C:af)(fs:List Str):Bool:=nq K C zo&&(qp K C&&(Av K C&&(tZ K C&&(gR K (.ref C)&&fs.all λf=>Ws (eB K (.ref C) f)))))
def vB{K:ad}{C:af}{fs:List Str}(h:acu K C fs=true)(sa:eB K (.ref C) "__setattr__"=some (some (.builtin "object.__setattr__"))):CF K C fs/\tZ K C=true/\gR K (.ref C)=true:=by unfold acu at h;simp only[ak] at h;rintro h1 h2 h3 h4 h5 h6:Iw h;show #[ic,⟨⟨h1,h2,h3,sa⟩,λf hf=>g8 (bB.mp h6 f hf)⟩,h4,h5]
def HG(K:ad)(a:af):List (ez×V):=match K.lookup a with
 |some ⟨_,_,.dict es _,_⟩=>Fr es.toList
 |_=>[]
def Zg:List (ez×V)->Bool
 |[]=>true
 |x::r=>!(r.any λy=>decide (y.1=x.1))&&Zg r
theorem Sg:∀{l:List (ez×V)},Zg l=true->(l.map (·.1)).Nodup
 |[],_=>.nil
 |x::r,h=>by
  have h:(!(r.any λy=>decide (y.1=x.1))&&Zg r)=true:=h;rw[ak] at h;show bJ.mpr ⟨λz=>?_,Sg h.2⟩;rintro y hy e:bM<|List.mem_map.mp z;have h1:(r.any λy=>decide (y.1=x.1))=true:=jE.mpr #[ia,y,hy,by simp[e]];rw[h1] at h;show absurd h.1 (by decide)
def kdB(K:ad)(a:af):Bool:=match K.lookup a with
 |some ⟨.type "dict",none,.dict es _,sl⟩=>sl.isEmpty&&(es.toList.all M9&&Zg (Fr es.toList))
 |_=>false
def aa7{K:ad}{a:af}(h:kdB K a=true):AK K a (HG K a):=by
 unfold kdB at h;split at h
 .rename_i es n sl q;simp only[ak] at h;rintro h1 h2 h3:lB h;have:sl=#[]:=by simpa using h1
  subst this;have e:HG K a=Fr es.toList:=by unfold HG;rw[q]
  rw[e];show #[ib,es,n,q,h2,⟨Sg h3,rfl⟩]
 .cases h
def Vk(K:ad)(aQ:List (ez×V)):Bool:=(ay 19).all λi=>match Cb[i]? with
 |none=>false
 |some nm=>match ef K bS nm,dy aQ (.inl (i:Int)) with
  |some (some (.ref f)),some (.ref f')=>f==f'
  |_,_=>false
def S9{K:ad}{h:cE}{mg:Str->Option ag}{aQ:List (ez×V)}(X:K.In h)(G:h.Ns bS mg)(e:Vk K aQ=true):∀(i:Nat)(nm:Str)(f:af),Cb[i]? = some nm->mg nm=some (.ref f)->dy aQ (.inl (i:Int))=some (.ref f):=by
 intro i nm f hi hm;have lr:i<19:=(ai.mp hi).1;have:=bB.mp e i (gV.mpr lr);rw[hi] at this;dsimp only at this;split at this;.rename_i f1 f2 q1 q2;have e1:=gI X G q1;rw[hm] at e1;cases e1;rw[q2,beq_iff_eq.mp this]
 .cases this
def fnB(K:ad)(cd:ag)(q:Str)(f:af):Bool:=pB K cd q&&gR K (.ref f)
def FX(K:ad)(nm q:Str)(st:cK)(f:af):Prop:=∃oc od kV dc pm an cd ct sl,K.lookup f=some ⟨oc,od,.func (gG nm q (nQ st) (ll st) (aG st) .none kV dc pm an cd ct),sl⟩/\fnB K cd q f=true
def FG(K:ad)(x:Str)(st:cK):Prop:=∃f,ef K bS x=some (some (.ref f))/\FX K x x st f
def FM(K:ad)(C:af)(m q:Str)(st:cK):Prop:=∃f,eB K (.ref C) m=some (some (.ref f))/\At K (.ref f)=true/\FX K m q st f
def CG(K:ad)(x:Str)(C:af)(fs:List Str):Prop:=ef K bS x=some (some (.ref C))/\eB K (.ref C) "__setattr__"=some (some (.builtin "object.__setattr__"))/\acu K C fs=true
def FC(K:ad)(x:Str)(st:cK)(c:af):Prop:=∃f oc od kV dc pm an ct sl,ef K bS x=some (some (.ref f))/\K.lookup f=some ⟨oc,od,.func (gG x x (nQ st) (ll st) (aG st) .none kV dc pm an (.ref c) ct),sl⟩/\fnB K (.ref c) x f=true
def FX.fn{K:ad}{nm q:Str}{st:cK}{f:af}(h:FX K nm q st f):∃fd,i9 K nm q st f fd:=by rintro oc od kV dc pm an cd ct sl l c:vV 8 bM h;rw[fnB,ak] at c;show⟨_,VH (st:=st) l c.1 c.2⟩
abbrev U5(nm q:Str)(st:cK)(ps:List Str):Prop:=∀(kV doc pm:ag)(an:Option af)(gq ct:ag)(us:List ag),us.length=ps.length->yb (gG nm q (nQ st) (ll st) (aG st) .none kV doc pm an gq ct) ⟨us,[]⟩=pure (ps.zip us)
def bm0{p:List ag->Prop}(k:p [])(us:List ag)(e:us.length=0):p us:=List.eq_nil_of_length_eq_zero e▸k
def bmC{n:Nat}{p:List ag->Prop}(k:∀a t,t.length=n->p (a::t))(us:List ag)(e:us.length=n+1):p us:=by
 cases us with
 |nil=>cases e
 |cons a t=>show k a t (Nat.succ.inj e)
def bm1{a:Str}{p:List ag->Prop}(k:∀s,p [s]):∀us:List ag,us.length=[a].length->p us:=bmC λs=>bm0 (p:=λl=>p (s::l)) (k s)
def bm2{a b:Str}{p:List ag->Prop}(k:∀s t,p [s,t]):∀us:List ag,us.length=[a,b].length->p us:=bmC λs=>bm1 (a:=b) (p:=λl=>p (s::l)) (k s)
def bm3{a b c:Str}{p:List ag->Prop}(k:∀s t u,p [s,t,u]):∀us:List ag,us.length=[a,b,c].length->p us:=bmC λs=>bm2 (a:=b) (b:=c) (p:=λl=>p (s::l)) (k s)
def bm4{a b c d:Str}{p:List ag->Prop}(k:∀s t u v,p [s,t,u,v]):∀us:List ag,us.length=[a,b,c,d].length->p us:=bmC λs=>bm3 (a:=b) (b:=c) (c:=d) (p:=λl=>p (s::l)) (k s)
def bm5{a b c d e:Str}{p:List ag->Prop}(k:∀s t u v x,p [s,t,u,v,x]):∀us:List ag,us.length=[a,b,c,d,e].length->p us:=bmC λs=>bm4 (a:=b) (b:=c) (c:=d) (d:=e) (p:=λl=>p (s::l)) (k s)
def bm6{a b c d e f:Str}{p:List ag->Prop}(k:∀s t u v x y,p [s,t,u,v,x,y]):∀us:List ag,us.length=[a,b,c,d,e,f].length->p us:=bmC λs=>bm5 (a:=b) (b:=c) (c:=d) (d:=e) (e:=f) (p:=λl=>p (s::l)) (k s)
def bm7{a b c d e f g:Str}{p:List ag->Prop}(k:∀s t u v x y z,p [s,t,u,v,x,y,z]):∀us:List ag,us.length=[a,b,c,d,e,f,g].length->p us:=bmC λs=>bm6 (a:=b) (b:=c) (c:=d) (d:=e) (e:=f) (f:=g) (p:=λl=>p (s::l)) (k s)
def bm8{a b c d e f g h:Str}{p:List ag->Prop}(k:∀s t u v x y z w,p [s,t,u,v,x,y,z,w]):∀us:List ag,us.length=[a,b,c,d,e,f,g,h].length->p us:=bmC λs=>bm7 (a:=b) (b:=c) (c:=d) (d:=e) (e:=f) (f:=g) (g:=h) (p:=λl=>p (s::l)) (k s)
local macro_rules|`(tactic| walk_at "b1")=>`(tactic| exact λ_ _ _ _ _ _=>bm1 λ_=>rfl)
local macro_rules|`(tactic| walk_at "b2")=>`(tactic| exact λ_ _ _ _ _ _=>bm2 λ_ _=>rfl)
local macro_rules|`(tactic| walk_at "b3")=>`(tactic| exact λ_ _ _ _ _ _=>bm3 λ_ _ _=>rfl)
local macro_rules|`(tactic| walk_at "b4")=>`(tactic| exact λ_ _ _ _ _ _=>bm4 λ_ _ _ _=>rfl)
local macro_rules|`(tactic| walk_at "b5")=>`(tactic| exact λ_ _ _ _ _ _=>bm5 λ_ _ _ _ _=>rfl)
local macro_rules|`(tactic| walk_at "b6")=>`(tactic| exact λ_ _ _ _ _ _=>bm6 λ_ _ _ _ _ _=>rfl)
local macro_rules|`(tactic| walk_at "b7")=>`(tactic| exact λ_ _ _ _ _ _=>bm7 λ_ _ _ _ _ _ _=>rfl)
local macro_rules|`(tactic| walk_at "b8")=>`(tactic| exact λ_ _ _ _ _ _=>bm8 λ_ _ _ _ _ _ _ _=>rfl)
def fj{α:Type}{l:List α}(i:Nat){a:α}(e:l[i]? = some a):a∈l:=aZ e
section
variable{P:aS}{w:bL}{K:ad}{mg:Str->Option ag}{base h:cE}{k:Nat}{x q m:Str}{st:cK}{ps:List Str}{sp:Sp}{C:af}{fs:List Str}
def kX(P:aS)(w:bL)(base:cE)(X:K.In h)(G:h.Ns bS mg)(hx:FG K x st)(ok:∀f fd,i9 K x x st f fd->cQ P w K mg base gW k f fd ps sp)(b:U5 x x st ps):fP P w K mg base k x ps sp:=by rintro f a hf:bM hx;rintro fd F:bW hf.fn;show⟨f,fd,ok f fd F,gI X G a,F.kp,F.binds b⟩
def XT(P:aS)(w:bL)(base:cE)(X:K.In h)(G:h.Ns bS mg)(hc:CG K x C fs)(hx:FM K C "__init__" q st)(ok:∀f fd,i9 K "__init__" q st f fd->cQ P w K mg base gW k f fd ps sp)(b:U5 "__init__" q st ps):MY P w K mg base k x C ps sp:=by rintro f a i hf:gF hx;rintro fd F:bW hf.fn;have c:=vB hc.2.2 hc.2.1;show⟨f,fd,ok f fd F,⟨c.2.1,a,i,c.2.2⟩,gI X G hc.1,F.binds b⟩
def mk3(P:aS)(w:bL)(mg:Str->Option ag)(base:cE)(hc:CG K x C fs)(hx:FM K C m q st)(ok:∀f fd,i9 K m q st f fd->cQ P w K mg base gW k f fd ps sp)(b:U5 m q st ps):Me1 P w K mg base k C m ps sp:=by rintro f a i hf:gF hx;rintro fd F:bW hf.fn;show⟨f,fd,ok f fd F,(vB hc.2.2 hc.2.1).1.cl,⟨a,i,F.kp⟩,F.binds b⟩
end
set_option maxHeartbeats 0 in
def Xz{P:aS}{w:bL}{K:ad}{h:cE}{mg:Str->Option ag}{fa Tb:af}{ca sz aL aW cT:af}{Ps:af}{Pt:af}{Ky:af}{U6:af}{Pr:af}{Kz:af}{AJ:af}{Kx:af}{Kw:af}{B8:af}(X:K.In h)(G:h.Ns bS mg)(hfa:mg "answers"=some (.ref fa))(hC:nk K cT Tb=true)
 (Fk:CG K "Stop" Ps ["office","comes","goes"])
 (Fl:CG K "Trip" Pt ["number","weekdays","first_day","last_day","rooms","cut","stops"])
 (AR:CG K "Table" Ky ["minutes","trips"])
 (M6:CG K "Run" U6 ["trip","day","key","comes","goes"])
 (Fj:CG K "Ride" Pr ["run","first","later","origin","goal","goes","comes","take_by","ready"])
 (AT:CG K "Thing" Kz ["number","origin","goal","kind","amount","rank","ready","promise","begun"])
 (ug:CG K "State" AJ ["table","cancelled","delays","delays_told","now","things"])
 (AQ:CG K "Known" Kx ["ready","rides"])
 (AO:CG K "Draft" Kw ["table","told","has_open"])
 (sN:CG K "Reading" B8 ["table","fault","line"])
 (nL:ef K bS "LETTERS"=some (some (.ref aL)))
 (tL:Uh K aL j_=true)
 (nW:ef K bS "ALL_WEEKDAYS"=some (some (.ref aW)))
 (tW:Uh K aW [.int 0,.int 1,.int 2,.int 3,.int 4,.int 5,.int 6]=true)
 (nC:ef K bS "CALLS"=some (some (.ref ca)))
 (tC:Vk K (HG K ca)=true)
 (nZ:ef K bS "SIZES"=some (some (.ref sz)))
 (bl:((["range","enumerate","len","any","all","max","ord","sorted","int","str","list","dict","set"]:List Str).all λx=>Ws (ef K bS x))=true)
 (gi:(([("LAST_DAY",13),("DAY_MINUTES",1440),("ROUNDS",5),("TEXT_MOST",3000),("TRIPS_MOST",6),("STOPS_MOST",5),("NO_FAULT",0),("FIRST_WORD",1),("TRIP_LINE",2),("STOP_LINE",3),("NOT_ENDED",4),("TRIP_TWICE",5),("MIN_LINE",6),("NO_PROMISE",-1),("OUT_OF_RANGE",-1),("NO_TEXT",-2),("TOO_MANY",-3),("NUMBER_TAKEN",-4),("NO_THING",-4),("NO_RUN",-5),("HAS_GONE",-6),("TIME_BEFORE",-7),("NO_WAY",-8),("NO_LATENESS",-8),("HAS_BEGUN",-9),("HAS_THINGS",-10),("TIME_MOST",100000),("DELAYS_MOST",40),("THINGS_MOST",10),("TABLE",1)]:List (Str×Int)).all λx=>aez x.2 (ef K bS x.1))=true)
 (gS:ZO "\n #-=0123456789ABCDEFIMNPRTUV" (ef K bS "SIGNS")=true)
 (gO:ZO "?" (ef K bS "OTHER")=true)
 (ur:FM K Ky "__init__" "Table.__init__" uV)
 (lT:FM K AJ "take_table" "State.take_table" lZ)
 (lS:FM K AJ "begin_anew" "State.begin_anew" lY)
 (uq:FM K AJ "__init__" "State.__init__" uU)
 (Co:FG K "size_of" CQ)
 (ux:FG K "call_clear" uZ)
 (Cl:FG K "is_text" CN)
 (um:FM K Kw "__init__" "Draft.__init__" uS)
 (pQ:FM K B8 "__init__" "Reading.__init__" p8)
 (zU:FG K "signs_of" Al)
 (zW:FG K "words_of" An)
 (wZ:FG K "number_of" xD)
 (pU:FG K "read_minutes" qb)
 (wO:FM K Pt "__init__" "Trip.__init__" xp)
 (rA:FG K "weekdays_of" rS)
 (Cj:FG K "days_of" CL)
 (Cq:FG K "trip_of" CT)
 (w9:FG K "read_trip" xG)
 (uF:FG K "minutes_of" vd)
 (wN:FM K Ps "__init__" "Stop.__init__" xo)
 (pS:FG K "further_stop" p_)
 (uE:FG K "first_stop" vc)
 (Cp:FG K "stop_of" CS)
 (w8:FG K "read_stop" xF)
 (w6:FG K "read_line" xE)
 (uG:FG K "read_table" ve)
 (uB:FG K "call_table" u9)
 (zV:FG K "with_row" Am)
 (oF:FG K "minutes_lines" oJ)
 (xa:FG K "trip_line" xI)
 (uC:FG K "clock_text" u_)
 (uI:FG K "stop_lines" vg)
 (uH:FG K "show_table" vf)
 (wU:FG K "call_show" xy)
 (Cn:FG K "run_key" CP)
 (zO:FG K "does_run" Af)
 (zL:FM K U6 "__init__" "Run.__init__" Ac)
 (FN:FG K "run_of" GQ)
 (zP:FG K "find_run" Ag)
 (rg:FG K "call_cancel" rM)
 (wX:FG K "goes_from" xB)
 (wP:FG K "add_delay" xq)
 (uz:FG K "call_delay" u0)
 (Cm:FG K "is_time" CO)
 (wM:FM K Pr "__init__" "Ride.__init__" xn)
 (rc:FG K "begun_rides" rK)
 (w_:FG K "take_ride" xH)
 (zT:FG K "rides_of" Ak)
 (wQ:FG K "all_rides" xr)
 (rq:FG K "rides_to_go" rR)
 (mJ:FC K "things_in_order" db cT)
 (zR:FG K "has_room" Ai)
 (uo:FM K Kx "__init__" "Known.__init__" uT)
 (zQ:FG K "go_round" Ah)
 (mH:FG K "known_by_rounds" mP)
 (pR:FG K "earliest_way" p9)
 (uK:FG K "way_onward" vi)
 (zM:FG K "book_all" Ad)
 (q_:FG K "begin_rides" rJ)
 (wV:FG K "call_time" xz)
 (wY:FG K "is_office" xC)
 (uJ:FG K "tell_rides" vh)
 (oC:FG K "call_earliest" oH)
 (wR:FG K "best_ways" xu)
 (uv:FG K "call_bests" uX)
 (Ck:FG K "go_back" CM)
 (pT:FG K "latest_ready" qa)
 (rj:FG K "call_latest" rP)
 (zS:FG K "is_thing" Aj)
 (uu:FM K Kz "__init__" "Thing.__init__" uW)
 (uD:FG K "find_thing" va)
 (wT:FG K "call_post" xx)
 (oE:FG K "call_withdraw" oI)
 (rf:FG K "call_booked" rL)
 (mI:FG K "rides_by_things" mQ)
 (wW:FG K "call_used" xA)
 (zN:FG K "call_run" Ae)
 (uA:FG K "call_order" u7)
 (uw:FG K "call_board" uY)
 (rp:FG K "call_runsof" rQ)
 (wS:FG K "call_late" xw)
 (rh:FG K "call_counts" rO)
 (q0:FG K "answer_call" rH)
 (Ci:FG K "answers" pG)
 : ∃fd:b_,(∀(s:ao)(us:List ag),us.length=(["calls"]:List Str).length->Uz s fd ⟨us,[]⟩ ((["calls"]:List Str).zip us))/\∀base:cE,K.In base->base.Ns bS mg->base.BuiltinsAt mg Tb->cQ P w K mg base gW 12 fa fd ["calls"] (Ao K Tb ca sz (HG K ca)):=by
 rintro f_ a_a hf_:bM Ci;rintro fd_ F:bW hf_.fn;have e:=hfa.symm.trans (gI X G a_a);cases e;rintro _ _ kV_ dc_ pm_ an_ cd_ ct_ _ rfl _ _:vV 8 gF<|id F.ex;rintro _ _ _ _ _ _ _ _ _ a_ l_ c_:vV 8 gF mJ;rw[fnB,ak] at c_;let A:dW:={ stop:=Ps,trip:=Pt,table:=Ky,run:=U6,mw:=Pr,iL:=Kz,state:=AJ,known:=Kx,mD:=Kw,i_:=B8 };have Yo:=vB Fk.2.2 Fk.2.1;have Yp:=vB Fl.2.2 Fl.2.1;have Vp:=vB AR.2.2 AR.2.1;have acs:=vB M6.2.2 M6.2.1;have Yn:=vB Fj.2.2 Fj.2.1;have Vq:=vB AT.2.2 AT.2.1;have Vo:=vB ug.2.2 ug.2.1;have Vn:=vB AQ.2.2 AQ.2.1;have Vm:=vB AO.2.2 AO.2.1;have PR:=vB sN.2.2 sN.2.1;have S6:=bB.mp bl;have Ax:=bB.mp gi;have T:eX K mg A:={ stop:=Yo.1,trip:=Yp.1,table:=Vp.1,run:=acs.1,mw:=Yn.1,iL:=Vq.1,state:=Vo.1,known:=Vn.1,mD:=Vm.1,i_:=PR.1,uf:=dh X G (g8 (S6 "range" (fj 0 rfl))),kz:=dh X G (g8 (S6 "enumerate" (fj 1 rfl))),fb:=dh X G (g8 (S6 "len" (fj 2 rfl))),Vf:=dh X G (g8 (S6 "any" (fj 3 rfl))),aaf:=dh X G (g8 (S6 "all" (fj 4 rfl))),aag:=dh X G (g8 (S6 "max" (fj 5 rfl))),Vg:=dh X G (g8 (S6 "ord" (fj 6 rfl))),Fh:=dh X G (g8 (S6 "sorted" (fj 7 rfl))),M0:=dh X G (g8 (S6 "int" (fj 8 rfl))),Dq:=dh X G (g8 (S6 "str" (fj 9 rfl))),PM:=dh X G (g8 (S6 "list" (fj 10 rfl))),KP:=dh X G (g8 (S6 "dict" (fj 11 rfl))),aah:=dh X G (g8 (S6 "set" (fj 12 rfl))),pE:=aan X G nL tL,nE:=jb X G (Ax ("LAST_DAY",13) (fj 0 rfl)),pP:=aan X G nW tW,qY:=jb X G (Ax ("DAY_MINUTES",1440) (fj 1 rfl)),FJ:=jb X G (Ax ("ROUNDS",5) (fj 2 rfl)),Du:=jb X G (Ax ("TEXT_MOST",3000) (fj 3 rfl)),A5:=jb X G (Ax ("TRIPS_MOST",6) (fj 4 rfl)),A4:=jb X G (Ax ("STOPS_MOST",5) (fj 5 rfl)),kD:=jb X G (Ax ("NO_FAULT",0) (fj 6 rfl)),A2:=jb X G (Ax ("FIRST_WORD",1) (fj 7 rfl)),Dx:=jb X G (Ax ("TRIP_LINE",2) (fj 8 rfl)),wK:=jb X G (Ax ("STOP_LINE",3) (fj 9 rfl)),wI:=jb X G (Ax ("NOT_ENDED",4) (fj 10 rfl)),A6:=jb X G (Ax ("TRIP_TWICE",5) (fj 11 rfl)),uj:=jb X G (Ax ("MIN_LINE",6) (fj 12 rfl)),uk:=jb X G (Ax ("NO_PROMISE",-1) (fj 13 rfl)),fg:=jb X G (Ax ("OUT_OF_RANGE",-1) (fj 14 rfl)),Jx:=jb X G (Ax ("NO_TEXT",-2) (fj 15 rfl)),zK:=jb X G (Ax ("TOO_MANY",-3) (fj 16 rfl)),wJ:=jb X G (Ax ("NUMBER_TAKEN",-4) (fj 17 rfl)),ul:=jb X G (Ax ("NO_THING",-4) (fj 18 rfl)),sW:=jb X G (Ax ("NO_RUN",-5) (fj 19 rfl)),zJ:=jb X G (Ax ("HAS_GONE",-6) (fj 20 rfl)),qZ:=jb X G (Ax ("TIME_BEFORE",-7) (fj 21 rfl)),FI:=jb X G (Ax ("NO_WAY",-8) (fj 22 rfl)),yM:=jb X G (Ax ("NO_LATENESS",-8) (fj 23 rfl)),Dt:=jb X G (Ax ("HAS_BEGUN",-9) (fj 24 rfl)),A3:=jb X G (Ax ("HAS_THINGS",-10) (fj 25 rfl)),Dv:=jb X G (Ax ("TIME_MOST",100000) (fj 26 rfl)),yL:=jb X G (Ax ("DELAYS_MOST",40) (fj 27 rfl)),yN:=jb X G (Ax ("THINGS_MOST",10) (fj 28 rfl)),Ld:=jb X G (Ax ("TABLE",1) (fj 29 rfl)),RV:=aam X G gS,RU:=aam X G gO };have L:GD K mg "LETTERS" j_:=aj2 X G nL tL;show⟨gG "answers" "answers" (nQ pG) (ll pG) (aG pG) .none kV_ dc_ pm_ an_ cd_ ct_,λs us hu=>match us,hu with|[_],_=>.of_eq rfl,λbase KI NS BA=>?_⟩;have AI:=XT P w base X G AR ur (λ_ _ F=>IB F T) (by walk_at "b1");have gz:=mk3 P w mg base ug lT (λ_ _ F=>yx F T) (by walk_at "b2");have gy:=mk3 P w mg base ug lS (λ_ _ F=>yw F T AI gz) (by walk_at "b1");have Km:=XT P w base X G ug uq (λ_ _ F=>IA F T gy) (by walk_at "b1");have B5:=kX P w base X G Co (λ_ _ F=>QE F T (gI X G nZ)) (by walk_at "b2");have Ks:=kX P w base X G ux (λ_ _ F=>IF (Tb:=Tb) F T gy) (by walk_at "b2");have B4:=kX P w base X G Cl (λ_ _ F=>QB F T) (by walk_at "b1");have Kk:=XT P w base X G AO um (λ_ _ F=>Iy F T AI) (by walk_at "b1");have E6:=XT P w base X G sN pQ (λ_ _ F=>El F T) (by walk_at "b4");have zy:=kX P w base X G zU (λ_ _ F=>Ob F T) (by walk_at "b1");have zA:=kX P w base X G zW (λ_ _ F=>Od F T) (by walk_at "b1");have gf:=kX P w base X G wZ (λ_ _ F=>LL F T) (by walk_at "b2");have pN:=kX P w base X G pU (λ_ _ F=>Ep F T L gf) (by walk_at "b2");have MR:=XT P w base X G Fl wO (λ_ _ F=>Lx F T) (by walk_at "b6");have qU:=kX P w base X G rA (λ_ _ F=>Go F T) (by walk_at "b1");have B2:=kX P w base X G Cj (λ_ _ F=>Qz F T gf) (by walk_at "b1");have B7:=kX P w base X G Cq (λ_ _ F=>QG F T gf MR qU B2) (by walk_at "b1");have wq:=kX P w base X G w9 (λ_ _ F=>LP F T B7) (by walk_at "b2");have jP:=kX P w base X G uF (λ_ _ F=>IM F T) (by walk_at "b1");have Do:=XT P w base X G Fk wN (λ_ _ F=>Lw F T) (by walk_at "b4");have pL:=kX P w base X G pS (λ_ _ F=>En F T jP Do) (by walk_at "b3");have t8:=kX P w base X G uE (λ_ _ F=>IL F T jP Do) (by walk_at "b2");have B6:=kX P w base X G Cp (λ_ _ F=>QF F T L pL t8) (by walk_at "b2");have wo:=kX P w base X G w8 (λ_ _ F=>LO F T B6) (by walk_at "b2");have wn:=kX P w base X G w6 (λ_ _ F=>LM F T pN wq wo) (by walk_at "b2");have t9:=kX P w base X G uG (λ_ _ F=>IO F T Kk E6 zy zA wn) (by walk_at "b1");have Kv:=kX P w base X G uB (λ_ _ F=>II (Tb:=Tb) F T B4 t9 gz) (by walk_at "b2");have cS:=kX P w base X G zV (λ_ _ F=>Oc F T) (by walk_at "b2");have oA:=kX P w base X G oF (λ_ _ F=>CC F T) (by walk_at "b1");have wu:=kX P w base X G xa (λ_ _ F=>LR F T) (by walk_at "b1");have oW:=kX P w base X G uC (λ_ _ F=>IJ F T) (by walk_at "b1");have ua:=kX P w base X G uI (λ_ _ F=>IQ F T oW) (by walk_at "b1");have t_:=kX P w base X G uH (λ_ _ F=>IP F T oA wu ua) (by walk_at "b1");have MU:=kX P w base X G wU (λ_ _ F=>LF (Tb:=Tb) F T cS t_) (by walk_at "b2");have lj:=kX P w base X G Cn (λ_ _ F=>QD F T) (by walk_at "b2");have jO:=kX P w base X G zO (λ_ _ F=>N7 F T lj) (by walk_at "b3");have Pp:=XT P w base X G M6 zL (λ_ _ F=>N4 F T lj) (by walk_at "b4");have sI:=kX P w base X G FN (λ_ _ F=>T4 F T lj Pp) (by walk_at "b3");have d_:=kX P w base X G zP (λ_ _ F=>N8 F T jO sI) (by walk_at "b3");have HK:=kX P w base X G rg (λ_ _ F=>Gi (Tb:=Tb) F T d_) (by walk_at "b2");have jk:=kX P w base X G wX (λ_ _ F=>LJ F T) (by walk_at "b2");have wj:=kX P w base X G wP (λ_ _ F=>Ly (Tb:=Tb) F T) (by walk_at "b4");have Kt:=kX P w base X G uz (λ_ _ F=>IG (Tb:=Tb) F T d_ jk wj) (by walk_at "b2");have gE:=kX P w base X G Cm (λ_ _ F=>QC F T) (by walk_at "b1");have Dn:=XT P w base X G Fj wM (λ_ _ F=>Lv F T) (by walk_at "b5");have eL:=kX P w base X G rc (λ_ _ F=>Gg F T d_ Dn) (by walk_at "b2");have qy:=kX P w base X G w_ (λ_ _ F=>LQ F T) (by walk_at "b3");have zx:=kX P w base X G zT (λ_ _ F=>Oa F T Dn) (by walk_at "b2");have gd:=kX P w base X G wQ (λ_ _ F=>Lz F T jO sI zx) (by walk_at "b1");have j3:=kX P w base X G rq (λ_ _ F=>Gn F T gd) (by walk_at "b1");have ek:fP P w K mg base 4 "things_in_order" ["state"] (i5 A Tb):=⟨_,_,z_ l_ c_.1 hC BA T,gI X G a_,c_.2,(VH (st:=db) l_ c_.1 c_.2).binds (λ_ _ _ _ _ _ us hl=>match us,hl with|[_],_=>rfl)⟩;have zv:=kX P w base X G zR (λ_ _ F=>N' F T) (by walk_at "b3");have AH:=XT P w base X G AQ uo (λ_ _ F=>Iz F T) (by walk_at "b3");have zu:=kX P w base X G zQ (λ_ _ F=>N9 F T AH) (by walk_at "b2");have gY:=kX P w base X G mH (λ_ _ F=>z8 F T AH zu) (by walk_at "b3");have e_:=kX P w base X G pR (λ_ _ F=>Em F T gY) (by walk_at "b4");have ub:=kX P w base X G uK (λ_ _ F=>IT F T eL e_) (by walk_at "b3");have g_:=kX P w base X G zM (λ_ _ F=>N5 (Tb:=Tb) F T eL qy j3 ek zv ub) (by walk_at "b1");have qT:=kX P w base X G q_ (λ_ _ F=>Gf (Tb:=Tb) F T g_) (by walk_at "b2");have MV:=kX P w base X G wV (λ_ _ F=>LG (Tb:=Tb) F T gE qT) (by walk_at "b2");have d9:=kX P w base X G wY (λ_ _ F=>LK F) (by walk_at "b1");have jQ:=kX P w base X G uJ (λ_ _ F=>IR F T) (by walk_at "b1");have Ec:=kX P w base X G oC (λ_ _ F=>CA (Tb:=Tb) F T d9 gE gd e_ jQ cS) (by walk_at "b2");have wm:=kX P w base X G wR (λ_ _ F=>LA F T gY) (by walk_at "b4");have Kq:=kX P w base X G uv (λ_ _ F=>ID (Tb:=Tb) F T d9 gE gd wm cS) (by walk_at "b2");have B3:=kX P w base X G Ck (λ_ _ F=>QA F T) (by walk_at "b2");have pM:=kX P w base X G pT (λ_ _ F=>Eo F T B3) (by walk_at "b4");have HM:=kX P w base X G rj (λ_ _ F=>Gk (Tb:=Tb) F T d9 gE gd pM) (by walk_at "b2");have zw:=kX P w base X G zS (λ_ _ F=>N_ F T d9 gE) (by walk_at "b1");have Kp:=XT P w base X G AT uu (λ_ _ F=>IC F T) (by walk_at "b8");have fw:=kX P w base X G uD (λ_ _ F=>IK F T) (by walk_at "b2");have MT:=kX P w base X G wT (λ_ _ F=>LE (Tb:=Tb) F T zw Kp fw e_ j3) (by walk_at "b2");have Ed:=kX P w base X G oE (λ_ _ F=>CB (Tb:=Tb) F T fw) (by walk_at "b2");have HJ:=kX P w base X G rf (λ_ _ F=>Gh (Tb:=Tb) F T fw eL g_ jQ cS) (by walk_at "b2");have gZ:=kX P w base X G mI (λ_ _ F=>z9 (Tb:=Tb) F T eL ek g_) (by walk_at "b1");have MW:=kX P w base X G wW (λ_ _ F=>LH (Tb:=Tb) F T d_ jk gZ) (by walk_at "b2");have Pq:=kX P w base X G zN (λ_ _ F=>N6 (Tb:=Tb) F T d_ cS) (by walk_at "b2");have Ku:=kX P w base X G uA (λ_ _ F=>IH (Tb:=Tb) F T ek cS) (by walk_at "b2");have Kr:=kX P w base X G uw (λ_ _ F=>IE (Tb:=Tb) F T d_ jk gZ cS) (by walk_at "b2");have HN:=kX P w base X G rp (λ_ _ F=>Gm (Tb:=Tb) F T jO cS) (by walk_at "b2");have MS:=kX P w base X G wS (λ_ _ F=>LC (Tb:=Tb) F T fw g_) (by walk_at "b2");have HL:=kX P w base X G rh (λ_ _ F=>Gj (Tb:=Tb) F T) (by walk_at "b2");have qS:=kX P w base X G q0 (λ_ _ F=>Ge (Tb:=Tb) F T (gI X G nC) (S9 X G tC) Ks Kv MU HK Kt MV Ec Kq HM MT Ed HJ MW Pq Ku Kr HN MS HL) (by walk_at "b3");show Qy (Tb:=Tb) F T Km B5 qS
end TT
end
end
open L2 TT
open PySem PySem.W PyProof.Rows
local macro_rules|`(tactic| o_headS ($f $k $a $e))=>`(tactic| o_headS (id (PySem.W.kmHook $k $a $e [236])))
local macro_rules|`(tactic| walk_at "fk")=>`(tactic| first|k_is|with_unfolding_all rfl)
local macro_rules|`(tactic| walk_at "fg")=>`(tactic| (refine'⟨_,?a,_,_,_,_,_,_,_,_,_,?l,?c⟩;(case a=>walk_at "fk");(case l=>walk_at "fk");(case c=>kernel_rfl)))
local macro_rules|`(tactic| walk_at "fm")=>`(tactic| (refine'⟨_,?a,?i,_,_,_,_,_,_,_,_,_,?l,?c⟩;(case a=>walk_at "fk");(case i=>walk_at "fk");(case l=>walk_at "fk");(case c=>kernel_rfl)))
local macro_rules|`(tactic| walk_at "cg")=>`(tactic| (refine'⟨?a,?s,?c⟩;(case a=>walk_at "fk");(case s=>walk_at "fk");(case c=>kernel_rfl)))
local macro_rules|`(tactic| walk_at "fc")=>`(tactic| (refine'⟨_,_,_,_,_,_,_,_,_,?a,?l,?c⟩;(case a=>walk_at "fk");(case l=>walk_at "fk");(case c=>kernel_rfl)))
set_option maxHeartbeats 0 in
theorem PySem.Challenge.cw_timetable_s01_answers_holds : PySem.Challenge.rw_timetable_s01_answers.Holds := by
 w_on;have h0:=x'1;(have:True:=by decide +kernel);k_headS;(case hw=>exact⟨[.list [.int 0]],by decide +kernel,by decide +kernel⟩)
 k_fillS
 refine Rn (r:=PySem.Challenge.rw_timetable_s01_answers) (k:=12) (T:=236) (c:=240) (K:=PySem.Challenge.cw_timetable_s01_answers_holds.heap_1) (CX:=λ_=>gW) (ps:=["calls"]) (sp:=λw=>Ao (PySem.Challenge.cw_timetable_s01_answers_holds.heap_1 w.params) 236 686 695 (HG (PySem.Challenge.cw_timetable_s01_answers_holds.heap_1 w.params) 686)) (by decide +kernel) rfl rfl ⟨rfl,by decide,by decide⟩ (λw h Y=>PySem.W.km_in_of Y) (λw h Y=>PySem.W.km_tabs_of Y 236 (aX.mpr rfl)) (λw=>?kT) (λw=>?kC) ?F ?S (λ_ _ _ _ _ z=>z);case kT=>kernel_rfl
 case kC=>kernel_rfl
 case F=>intro w mg fa h Y KX G hmg;refine' Xz (cT:=240) KX G hmg ?hC ?Fk ?Fl ?AR ?M6 ?Fj ?AT ?ug ?AQ ?AO ?sN ?nL ?tL ?nW ?tW ?nC ?tC ?nZ ?bl ?gi ?gS ?gO ?ur ?lT ?lS ?uq ?Co ?ux ?Cl ?um ?pQ ?zU ?zW ?wZ ?pU ?wO ?rA ?Cj ?Cq ?w9 ?uF ?wN ?pS ?uE ?Cp ?w8 ?w6 ?uG ?uB ?zV ?oF ?xa ?uC ?uI ?uH ?wU ?Cn ?zO ?zL ?FN ?zP ?rg ?wX ?wP ?uz ?Cm ?wM ?rc ?w_ ?zT ?wQ ?rq ?mJ ?zR ?uo ?zQ ?mH ?pR ?uK ?zM ?q_ ?wV ?wY ?uJ ?oC ?wR ?uv ?Ck ?pT ?rj ?zS ?uu ?uD ?wT ?oE ?rf ?mI ?wW ?zN ?uA ?uw ?rp ?wS ?rh ?q0 ?Ci;(case hC=>kernel_rfl);(case Fk=>walk_at "cg");(case Fl=>walk_at "cg");(case AR=>walk_at "cg");(case M6=>walk_at "cg");(case Fj=>walk_at "cg");(case AT=>walk_at "cg");(case ug=>walk_at "cg");(case AQ=>walk_at "cg");(case AO=>walk_at "cg");(case sN=>walk_at "cg");(case nL=>walk_at "fk");(case tL=>kernel_rfl);(case nW=>walk_at "fk");(case tW=>kernel_rfl);(case nC=>walk_at "fk");(case tC=>kernel_rfl);(case nZ=>walk_at "fk");(case bl=>kernel_rfl);(case gi=>kernel_rfl);(case gS=>kernel_rfl);(case gO=>kernel_rfl);(case ur=>walk_at "fm");(case lT=>walk_at "fm");(case lS=>walk_at "fm");(case uq=>walk_at "fm");(case Co=>walk_at "fg");(case ux=>walk_at "fg");(case Cl=>walk_at "fg");(case um=>walk_at "fm");(case pQ=>walk_at "fm");(case zU=>walk_at "fg");(case zW=>walk_at "fg");(case wZ=>walk_at "fg");(case pU=>walk_at "fg");(case wO=>walk_at "fm");(case rA=>walk_at "fg");(case Cj=>walk_at "fg");(case Cq=>walk_at "fg");(case w9=>walk_at "fg");(case uF=>walk_at "fg");(case wN=>walk_at "fm");(case pS=>walk_at "fg");(case uE=>walk_at "fg");(case Cp=>walk_at "fg");(case w8=>walk_at "fg");(case w6=>walk_at "fg");(case uG=>walk_at "fg");(case uB=>walk_at "fg");(case zV=>walk_at "fg");(case oF=>walk_at "fg");(case xa=>walk_at "fg");(case uC=>walk_at "fg");(case uI=>walk_at "fg");(case uH=>walk_at "fg");(case wU=>walk_at "fg");(case Cn=>walk_at "fg");(case zO=>walk_at "fg");(case zL=>walk_at "fm");(case FN=>walk_at "fg");(case zP=>walk_at "fg");(case rg=>walk_at "fg");(case wX=>walk_at "fg");(case wP=>walk_at "fg");(case uz=>walk_at "fg");(case Cm=>walk_at "fg");(case wM=>walk_at "fm");(case rc=>walk_at "fg");(case w_=>walk_at "fg");(case zT=>walk_at "fg");(case wQ=>walk_at "fg");(case rq=>walk_at "fg");(case mJ=>walk_at "fc");(case zR=>walk_at "fg");(case uo=>walk_at "fm");(case zQ=>walk_at "fg");(case mH=>walk_at "fg");(case pR=>walk_at "fg");(case uK=>walk_at "fg");(case zM=>walk_at "fg");(case q_=>walk_at "fg");(case wV=>walk_at "fg");(case wY=>walk_at "fg");(case uJ=>walk_at "fg");(case oC=>walk_at "fg");(case wR=>walk_at "fg");(case uv=>walk_at "fg");(case Ck=>walk_at "fg");(case pT=>walk_at "fg");(case rj=>walk_at "fg");(case zS=>walk_at "fg");(case uu=>walk_at "fm");(case uD=>walk_at "fg");(case wT=>walk_at "fg");(case oE=>walk_at "fg");(case rf=>walk_at "fg");(case mI=>walk_at "fg");(case wW=>walk_at "fg");(case zN=>walk_at "fg");(case uA=>walk_at "fg");(case uw=>walk_at "fg");(case rp=>walk_at "fg");(case wS=>walk_at "fg");(case rh=>walk_at "fg");(case q0=>walk_at "fg");(case Ci=>walk_at "fg")
 case S=>
  intro w H xs a hT hwi P8 hx;cases hx with
  |cons h1 h2=>
   cases h2;cases h1 with
   |lst hs ha=>
    have e:=R8 a.1 _ ha;subst e;have e1:AK (PySem.Challenge.cw_timetable_s01_answers_holds.heap_1 w.params) 695 vj:=by
     have e:HG (PySem.Challenge.cw_timetable_s01_answers_holds.heap_1 w.params) 695=vj:=by kernel_rfl
     rw[<-e];exact aa7 (by kernel_rfl)
    exact⟨_,a.1,rfl,hs,aa7 (by kernel_rfl),e1,⟨#[],hT,.inl rfl⟩,P8,λp H' hp=>.lst (cf.of hp) (RQ _)⟩
