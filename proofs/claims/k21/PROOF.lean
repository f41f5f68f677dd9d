import PyProof.Rows.All
import Wide.All
import OpenK.AllK
import Wide.FinOn
import Lean
import PyProof.EqAt
import PyProof.EqKinds
import PyProof.TupleCall
import PySem.Challenge.RW_slanttiles_k21_what_makes_a_job
open PySem renaming wpAny_bind->Aa,wpAny_pure->Ad,Shared->Ae,Program->Ap,wpAny->Au,FuncData->Bb,starEach->Bc,World->Bh,Around->Bl,Expr->Bw,mem_of_lookup->Bz,wpAny_loadPart_at->Ce,wpAny_holding->Cg,wpAny_mono->Dc,wpAny_truthy_bool->De,wpAny_newObj_type->Dj,keywordEach->Do,swapsWith->Dt,sizeLine_eq->Dv,compareOp->Ed,codeAny_builtin->Ee,cellsFrom->Ef,boot_len->Eg,attributeBase->Eh,wpAny_setState_of->En,mainGlobals->Eo,bindArgs->Ez,wpAny_forIn_list->Fb,intKind->Fg,wpAny_loadPart'->Fp,wpAny_call_entry->Ga,plainId_quiet->Gb,bootBuiltins->Gc,codeAny_call_builtin->Gg,backToKw->Gh,wpAny_specialOf->Gm,ofAClassStatement->Gn,wpAny_isSubtype_exc->Gq,codeAny->Gr,binaryOp->Gs,behindInMarks->Gu,checkBuiltinCall->Gx,wpAny_setField->Gy,wpAny_seqItems->Gz,assignEach->Ha,wpAny_Call_Name_kw->Hh,wpAny_field->Hj,GenState->Hl,wpAny_isInstance->Hx,HeapKind->Ii,sysModules->Il,wpAny_tupleItemsOf->Iw,wpAny_standAt->Iy,wpAny_ite_split->Iz,NameKind->Ja,Keyword->Jm,IsTupleKey->Jn,tupleKeyHash->Jq,isSubtype_tuple_tuple->Jr,codeAny_mono->Js,backTo->Ju,wpAny_askSetting->Jz,isInstance->Ki,wpAny_updateSeq->Kl,wpAny_passesOwn->Km,sliceBounds->Kn,wpAny_comprehension_free->Ld,wpAny_call->Le,typeLookup->Lf,foldedSetIterable->Lg,standAt->Lr,hashByValue->Lu,excClassObj->Lv,Result->Mg,wpAny_typeOf->Mv,wpAny_execs_nil->Mw,tupleKind->Mx,rawInt->My,putSet_of->Mz,pushCells->Na,letOwnedTupleGo->Nb,getMethod->Nd,wpAny_rule->Nk,closureFor->Nl,call_meets->Nm,newFunctionEnv->Oc,wpAny_letGo->Oe,tupleKind_room_in1->Ow,pyNext->Ox,wpAny_storeSet_of->Pp,wpAny_pyIter_list->Pq,wpAny_assign_Name->Pr,plainObj_wpAny_Assign_Attribute->Pt,intKind_is->Pw,getItem->Px,setAddHashed->Qi,wpAny_eqBool_int->Qu,opaqueClassAbove->Qv,noFill_tuple_add->Qw,wpAny_richCompare_same_room->Rj,valueAt->Rk,setFlight->Rm,codeAny_of_tree->Rn,callerA->Ro,Within->Rr,wpAny_tryCatch->Sa,wpAny_loadPart->Sb,isSubtype_type->Sd,carriedByValue->Se,wpAt_of_wpAny->Sg,CmpOp->Ss,IsPart->Sw,wpAny_newList->Sy,wpAny_callSpecial?_slot->Sz,swapsWithSole->Tc,swappedStores->Td,setItem->Tf,seq_tuple_add->Th,intItems->Tj,call->To,Model->Tt,BindsTo->Ub,wpAny_isTrue_Compare1->Ur,updateSeq->Us,seqItems? ->Ut,seqIndex_neg->Uu,pickOrder->Uv,noteFrame->Uw,lastMarks->Ux,isSubtype->Uy,exec_Assign_Name_used->Uz,eqIsQuiet->Va,concat_meets->Vb,call_meetsIn->Vc,builtinLookup_eq_fast->Vd,wpAt_bind->Ve,PassesOwn->Vh,Paired->Vi,unbindBehindTheSuite->Vu,wpAny_setEntries_of->Wa,wpAny_of_eq->Wb,seqIndex_of->Wc,newList->We,getAttr->Wg,atKey->Wh,OsState->Wj,isTrue->Wp,compEnvC->Wq,callWith->Wr,argsOk->Wt,wpAny_pyIter_slot->Xg,wpAny_pyIter_enum->Xh,wpAny_Name->Xi,wpAny_Call_method->Xj,typeIs_int->Xk,setsByText->Xl,searchCouldBeSeen->Xm,eqIsQuiet_byValue->Xn,builtinsNs->Xo,bindL->Xp,bindC->Xq,wpAny_madeBy_exc->Ye,wpAny_lookBehind->Yf,wpAny_execs_cons->Yg,pastItsLine_dict->Yh,typeOf->Yy,typeLookup_type->Yz,raiseStmt->Za,pyIter->Zb,pushCells_keeps->Zc,Drawn->Zj,DictEntry->Zk
open PySem.W renaming Frag->Ab,findIn->Bo,kitOne->Dk,kia_one->Dl,hasDictIn->Dq,emptyDict->Ei,takerIn->Fd,fnOf->Fl,instObj->Fz,keepIn->Gi,mg_of->Ip,looks_findIn->Jd,Looks->Jf,kitAny->Ka,plainGet->Ks,cellsFrom_some->Kv,typeIn->Lj,lookIn->Lk,exmOne->Ll,plainGet_of->Ly,looks_clsIn->Lz,callWith_K->Mm,methodObj->Nf,handedIn->Nv,any_some->Nx,makesIn->Of,codeIn->Oz,InstAt->Pa,ktsIn->Pz,looks_findIn->Qj,nsIn->Ra,methodCall_KW->Rc,isFn->Re,set_plain->Sh,plainOver->Si,kitx_list->Sj,kitx_dict->Sk,findCls->Tp,bind_fn->Tq,notCls->Ug,mroIn->Vf,kitOne->Vv,hasDictIn->Zd,findIn->Ze
open List renaming length_map->Ac,mem_cons_of_mem->Ag,mem_cons_self->Ah,size_toArray->Ai,getElem?_eq_getElem->Ak,replicate->Al,length_append->An,mem_cons->Ao,length_cons->Aq,getElem?_eq_some_iff->Ax,getElem?_map->Ay,mem_map->Az,mem_append_right->Bg,lookup_cons->Bi,getElem?_replicate->Bk,length_set->Bm,mem_singleton->Br,append_nil->Bs,mem_range->Cc,mem_append->Cd,mem_of_getElem? ->Cf,range->Cj,not_mem_nil->Ck,map_map->Cp,getElem?_append_left->Cq,append_assoc->Cv,length_replicate->Cy,map_eq_nil_iff->Cz,map_cons->Da,replicate_succ->Ds,mem_append_left->Ea,getElem?_append->Eb,nodup_cons->El,map_append->Em,pairwise_cons->Er,contains_cons->Es,lookup->Eu,getElem_mem->Ew,length_range->Fe,getElem?_append_right->Fm,flatten_cons->Ge,eq_nil_iff_forall_not_mem->Gf,getElem_of_mem->Gj,length_singleton->Hb,length_nil->Hc,getElem?_eq_none->Hd,length_take->Hk,map_congr_left->Hr,map_nil->Hs,zip_cons_cons->Hz,pairwise_singleton->Ia,length_zip->Ib,length_eq_zero_iff->Ic,find?_cons->Ie,any_cons->Ig,pairwise_map->Iv,getD->Je,length_drop->Ji,map_eq_cons_iff->Jk,nil_append->Jx,filterMap_cons->Jy,getElem?_set->Kt,nodup_range->La,take_append_drop->Lm,of_mem_zip->Ln,foldl_cons->Lo,mem_of_mem_drop->Mh,getElem?_set_ne->Mi,getElem?_of_mem->Mj,length_pos_iff->Mo,getElem?_range->Mp,mem_filterMap->Nq,all_cons->Nr,take_sublist->Od,all_map->Oj,getElem_inj->Ot,all_eq_true->Ou,mem_filter->Pk,length->Pl,forIn_cons->Pn,pairwise_iff_getElem->Qp,findSome? ->Qq,drop_eq_getElem_cons->Qr,foldl->Rf,getElem?_set_self->Rt,mem_iff_getElem? ->Rv,mem_of_mem_take->Sr,map_inj_right->Tu,map_filterMap->Tv,lookup_append->Tw,find?_eq_none->Tx,nodup_append->Ui,ext_getElem? ->Uj,drop_sublist->Uk,take_length->Vk,perm_middle->Vl,drop_length->Vm,any_eq_true->Vn,zip_append->Vx,nodup_nil->Wk,forIn_nil->Wm,map_take->Ww,map_drop->Wx,elem_iff->Wy,toArray->Xu,Nodup->Zh
open PySem.Heap renaming get?_push_of_some->Af,lt_size->Ar,get?_push_size->Ba,get?_update_other->Bj,get?_update_self->Bn,size_push->Dd,SameBut->Dm,get?_none_of_le->Ey,get?_update_ne->Sx
open PySem.Value renaming ref->Aj,none->Cb,int->Df,isInt_shape->Ej,type->Fc,builtin->Hg,bool->Hn,str->Ko,isInt->Ku,notImplemented->Lw,float->Ml,bytes->Oy,ellipsis->Vw,isStrOf->Wi
open Nat renaming le_refl->Am,le_trans->Bd,ne_of_lt->Be,lt_of_lt_of_le->Bf,zero_le->Bt,lt_irrefl->Dr,not_lt_zero->Dz,lt_succ_self->Fs,le_succ->Gp,lt_succ_of_lt->Hi,succ_le_succ->Hq,lt_of_le_of_lt->Ik,pow_le_pow_right->Jo,zero_add->Kj,lt_trans->Kk,le_max_right->Lb,le_add_right->Lc,ne_of_gt->Ma,lt_or_ge->Mb,le_of_lt->Mc,le_max_left->Md,mul_le_mul_left->Nh,lt_trichotomy->Oh,le_of_succ_le->Oi,mod_lt->Ri,lt_of_succ_lt_succ->Ru,succ_pos->Sn,le_of_eq->So,succ_add->Yo,sub_self->Yp,pow_succ->Yq,mul_comm->Yr,min_self->Ys,log2_lt->Zg
open Bool renaming false_ne_true->As,false_and->Dh,and_eq_true->Dp,false_eq_true->Dx,true_and->Gk,not_false->Jb,and_false->Jc,or_true->Kh,not_true->Nt,eq_false_iff->Uq,and_true->Xd,and_self->Xe
open Array renaming length_toList->Aw,getElem?_eq_some_iff->Bu,getElem?_eq_getElem->By,getElem?_toList->Cm,forIn_toList->Fq,getD->Gd,mem_toList_iff->Me,replicate->Vt,size_map->Vz,toList->Xf
open Option.some renaming inj->Bq
open PyProof.Rows.F renaming plain_set_update_loop->Ca,entry_set_update_loop->Ek
open Ne renaming symm->Ci
open PySem.SetTable renaming below->Co,sizeAbove->Du,runEnd->Gw,insertAt->Hy,turns->Lh,insertAt->Ls,tooFull->Sf,fits->Ud,fill->Ue
open Sum renaming inr->Cr,inl->Py
open PySem.PassesOwn renaming never->Cu
open PySem.Heap.SameBut renaming update->Cw,trans->Qf,refl->Yt
open PySem.NameKind renaming free->Dg,cell->Dn
open PySem.Around renaming under_plainId->Di,under->Ob
open False renaming elim->Dw
open PySem.Obj renaming data_mapFields->Dy,mapSeq->Et,isFreed_of_fields->Fu,putSet->Hv,mapFields->Ij,cls_mapFields->Vj
open PySem.Builtin.Tuple renaming tupleHashOf->Ec,tupleExact->He,tupleTooMany->Mq,tupleItemsOf->Mr
open True renaming intro->Ep
open Or renaming inl->Ex,inr->Fy
open Option renaming map_eq_some_iff->Ff,or_eq_none_iff->Iu,isSome_iff_exists->Qc,bind_eq_some_iff->Qo,isSome_some->Sm,getD_none->Ts,map_some->Uh
open List.cons renaming inj->Fh
open PySem.SetTable.layClean renaming free->Fj
open PySem.Builtin.Slice renaming slicePlaces->Gv,sliceAdjust->Jg,sliceApplied->Ms,slicePartIndex->Yb,sliceFields->Yc
open ForInStep renaming yield->Hm
open PyProof.Rows renaming slot_tuple_getitem->Ho,callWith_type1->Iq,seqObj->Jh,boot_list->Jt,envOfC->Ke,AllBare->Mf,IntsAre->Ni,boot_tuple->Nn,lt_int->Pj,boot_int->Rg,boot_isinstance->Rp,sortedHeap->Su,subscriptTail->Te,listUpdate_at->Ti,subscriptTail_builtinR->Uc,seqEpoch_at->Wd,boot_all->Ws,Subscript_->Xs,callWith_kw->Ym,callWith_builtin1->Yn
open PySem.Str renaming ofString->Ht
open PySem.PyData renaming leavesShort->Hu,leavesShortAll->Ir,showableAll->Kb,depth->Kc,weightAll->Kx,depthAll->Os,hasDictAll->Sv,hasDict->Vg
open PySem.F renaming plain_max_loop->Hw,excBase_ValueError->Jv,args_tuple_add_2->Kf,plainAttrs_list->Kp,entry_tuple_add->Kq,slot_tuple_add->Kw,slot_dict_get->Kz,typeOf_object_class->Mn,args_tuple_mul_2->On,excCall_ValueError->Oq,entry_tuple_mul->Pe,type_list_append->Pg,slot_list_append->Ph,slot_dict_update->Pi,plainAttrs_dict->Qa,args_dict_get_2->Qb,slot_tuple_mul->Qg,entry_dict_get->Qm,slot_tuple_hash->Wn,plain_list_iadd->Wo,entry_max_loop->Xb,slot_tuple_eq->Xv,slot_set_iter->Xw,slot_int_rmul->Xx,plain_set_new->Xy
open List.Perm renaming refl->Ih,swap->Ol
open Nat.succ renaming inj->Im
open PySem.Calls renaming callWith_builtin->Io,evalArgs_plain->Jj,spliced_cons->Nj,spliced_nil->Nz,Name_function_global->Po,call_function_entry->Qh
open List.Pairwise renaming nil->Jl
open PySem.Builtin.List renaming listTooLong->Jp,listExtendWith->Mu,listSameRef->Oa,listTouch->Yw,listLengthHint->Yx
open Classical renaming byContradiction->Jw
open PySem.SetTable.probe renaming go->Kd
open PySem.Code renaming quiet_builtin->Kg,isFrame->Ry,isGuard->Xz,frames->Yv
open PySem.Builtin.BaseException renaming bexcPut->Kr
open PySem.Builtin.ObjectAttr renaming storeInDict->Ky,storeTaker? ->Um,storeInOwnDict->Uo,newKeyGuard->Up
open PySem.SeqAt renaming EqAt->Li,RcNeAt->Wu,RcAt->Yk
open PySem.Builtin.Builtins renaming bindParams->Lq
open Sum.inr renaming inj->Lx
open PySem.SeqAt.EqAt renaming same->Np,str_int->Qx,of_refs->Qy,int_str->Qz
open PySem.AutoSeq1 renaming idx_int->Nu
open Int renaming emod_lt_of_pos->Ny,toNat_natCast->Om,mul_le_mul_of_nonneg_right->Ov,mul_le_mul_of_nonneg_left->Pd,emod_nonneg->Qd,fdiv_eq_ediv_of_nonneg->Qs,le_ediv_iff_mul_le->Rw,mul_one->Tz,le_refl->Ua,mul_le_mul->Wz
open PySem.W.Looks renaming of_pure->Og,here->Pf,ld->Xt
open PySem.SetTable.below renaming go->Oo
open Prod renaming ext->Pb
open PyProof.Rows.IsTup renaming new->Pc
open PySem.pickOrder renaming go->Pu
open Iff renaming rfl->Qe
open PySem.Shared renaming TypeIs->Qk
open PySem.Within renaming cons->Ql,nil->Yl
open PySem.Paired renaming length->Qn,snoc->Wv
open PySem.EntryCells renaming newEntry->Qt
open PySem.SeqAt.RcAt renaming tuples->Rh,lists->Rq
open PySem.Heap.Ns1 renaming of_empty->Rx
open PySem.Moved renaming trans->Sq
open PySem.Walks renaming list->Tn
open Function renaming comp->Ul
open Eq renaming trans->Vo
open PySem.Builtin.Frozenset renaming updateFrom->Vp,slot0->Vq,sizeOf->Vr,newClass->Vs
open PySem.Data renaming dict->Vy,seq->Xc,fields->Yu
open PySem.Heap.IsSliceOf renaming new->Xa
open PySem.W.WShape renaming has->Xr
open PySem.CmpOp renaming NotIn->Ya
open PySem.Builtin.Range renaming rangeSize->Yd
open PySem.SeqAt.RcNeAt renaming tuples->Yi,lists->Yj
open PySem.W.WData renaming int->Zf
open PySem.Heap.DictOf renaming new->Zi
set_option compiler.extract_closed false
set_option bootstrap.genMatcherCode false
set_option genSizeOf false
set_option genInjectivity false
local macro_rules| `(tactic|trivial)=> `(tactic|first|exact Ex rfl|exact Fy (Ex rfl)|exact Fy (Fy rfl)|exact Fy rfl)
local macro_rules| `(tactic|ac_rfl)=> `(tactic|simp only[Nt,Dx,if_false])
local macro_rules|`(∅)=>`(by lia)
local macro_rules|`(⋯)=>`(by decide)
set_option hygiene false
local macro_rules|`(⇑$x)=>`(Cal P w K mg base CX0 $x)
local macro_rules|`(↥$x)=>`(bG P w K mg base CX0 $x)
local macro_rules|`(~~~$x)=>`(show ($x : List Str).Nodup by decide+kernel)
local macro_rules|`(↑$x)=>`(fun cl C s2 H2 fp=>$x)
local macro_rules|`(#v[0])=>`(s.heap.objs.size)
local macro_rules|`(#v[1])=>`(Inv X pins σ H s)
local macro_rules|`(#v[2])=>`(SetTable.advs t.mask N (t.probeStart (knd.hash k)))
local macro_rules|`(#v[3])=>`(by decide+kernel)
local macro_rules|`(#v[4])=>`(List (Addr×Obj))
local macro_rules|`(#v[5])=>`(.ListComp elt [⟨tg,iter,[],0⟩] scope pos)
local macro_rules|`(#v[6])=>`(bU X (dM own cap) scope cl C s2 H2 fp)
local macro_rules|`(#v[7])=>`({cls:=.type "dict",data:=.dict #[]})
local macro_rules|`(#v[8])=>`(Option Value)
local macro_rules|`(#v[9])=>`(List (Str×Nat))
local macro_rules|`(#v[10])=>`(.ListComp elt [⟨tg,iter,cis,0⟩] scope pos)
local macro_rules|`(#v[a])=>`(Value->Ae->Prop)
local macro_rules|`(#v[b])=>`(model X.prog X.w)
local macro_rules|`(#v[c])=>`(model prog w)
local macro_rules|`(#v[d])=>`(aK aJ (hr.mono ⋯) rfl (aA (aB 0) (aA aC aD)))
local macro_rules|`(#v[e])=>`(⇑1 "_law_draw" ["_law_well_here","_law_most"] (spV oR))
set_option Elab.async false
set_option linter.all false
set_option maxRecDepth 100000
namespace L2
variable {u:Value}{us:List Value}{mg:Str->#v[8]}{kw:List (Str×Value)}{t':Nat}{b:Addr}{pos:Pos}{k:Nat}{base:Heap}{mA:Str->#v[8]}{ch:List Addr}{fp:List Addr}{i:Nat}{g:Int->Int->Int}{body:List Stmt}{N ps:List Str}
open PySem PySem.Spec PyProof.Rows
abbrev Key:=Sum Int Str
def aCn:Key->Value->Bool
 |.inl k,v=>Ku k v
 |.inr x,v=>Wi x v
def aY3(w:Bh):Key->Int
 |.inl k=>hashInt k
 |.inr x=>hashStr w x
def dG:∀{k:Key}{v:Value},aCn k v=true->(∃i t,k=Py i/\v=Df i t)∨(∃x t,k=Cr x/\v=Ko x t)
 |.inl i,v,h=>by
  obtain⟨t,e⟩:=Ej (k:=i) (v:=v) h;exact .inl ⟨i,t,rfl,e⟩
 |.inr x,v,h=>by
  obtain⟨t,e⟩:=Value.isStrOf_shape (x:=x) (v:=v) h;exact .inr ⟨x,t,rfl,e⟩
def aJu(i:Int)(t:Tok):aCn (.inl i) (.int i t)=true:=by simp[aCn,Ku]
def aJv(x:Str)(t:Tok):aCn (.inr x) (.str x t)=true:=by simp[aCn,Wi]
def aTr(a b:Int):decide ((Py a:Key)=Py b)=(a==b):=by
 by_cases e:a=b
 ·subst e;simp
 ·have h:¬(Py a:Key)=Py b:=λq=>e (Sum.inl.inj q);rw[decide_eq_false h];exact(beq_eq_false_iff_ne.mpr e).symm
def aTu(a b:Str):decide ((Cr a:Key)=Cr b)=decide (a=b):=by
 by_cases e:a=b
 ·subst e;simp
 ·have h:¬(Cr a:Key)=Cr b:=λq=>e (Lx q);rw[decide_eq_false h,decide_eq_false e]
def aTs(a:Int)(b:Str):decide ((Py a:Key)=Cr b)=false:=decide_eq_false (λq=>nomatch q)
def aTt(a:Str)(b:Int):decide ((Cr a:Key)=Py b)=false:=decide_eq_false (λq=>nomatch q)
def dB(prog:Ap)(w:Bh):PySem.KeyKind prog w Key where
 is:=aCn
 hash:=aY3 w
 inj:=λv a b ha hb=>by
  rcases dG ha with ⟨i,t,rfl,rfl⟩|⟨x,t,rfl,rfl⟩
  ·rcases dG hb with ⟨j,u,rfl,e⟩|⟨y,u,rfl,e⟩
   ·injection e with e1 _;rw[e1]
   ·exact nomatch e
  ·rcases dG hb with ⟨j,u,rfl,e⟩|⟨y,u,rfl,e⟩
   ·exact nomatch e
   ·injection e with e1 _;rw[e1]
 byValue:=λk v h=>by
  rcases dG h with ⟨i,t,rfl,rfl⟩|⟨x,t,rfl,rfl⟩<;>rfl
 pyHash:=λhv h=>by
  rcases dG hv with ⟨i,t,rfl,rfl⟩|⟨x,t,rfl,rfl⟩
  ·exact wpAny_pyHash_int h
  ·exact wpAny_pyHash_str h
 eqBool:=λhu hv h=>by
  rcases dG hu with ⟨i,t,rfl,rfl⟩|⟨x,t,rfl,rfl⟩
  ·rcases dG hv with ⟨j,u,rfl,rfl⟩|⟨y,u,rfl,rfl⟩
   ·rw[aTr]at h;exact Qu h
   ·rw[aTs]at h;exact Qz i t y u _ _ _ _ h
  ·rcases dG hv with ⟨j,u,rfl,rfl⟩|⟨y,u,rfl,rfl⟩
   ·rw[aTt]at h;exact Qx x t j u _ _ _ _ h
   ·rw[aTu]at h;exact wpAny_eqBool_str h
 «strs»:=λk x t v h=>by
  rcases dG h with ⟨i,u,rfl,e⟩|⟨y,u,rfl,e⟩
  ·exact nomatch e
  ·injection e with e1 _
   subst e1;cases v<;>rfl
def aFk(prog:Ap)(w:Bh)(i:Int)(t:Tok):(dB prog w).is (.inl i) (.int i t)=true:=aJu i t
def aFl(prog:Ap)(w:Bh)(x:Str)(t:Tok):(dB prog w).is (.inr x) (.str x t)=true:=aJv x t
inductive V where
 |non|bl (b:Bool)|int (i:Int)|str (x:Str)|byt (b:Array UInt8)|flt (b:UInt64)|ref (a:Addr)|ty (n:String)
 deriving DecidableEq
def RelV:V->Value->Prop
 |.non,u=>u=Cb
 |.bl b,u=>u=Hn b
 |.int i,u=>∃t,u=Df i t
 |.str x,u=>∃t,u=Ko x t
 |.byt b,u=>∃t,u=Oy b t
 |.flt b,u=>∃t,u=Ml b t
 |.ref a,u=>u=Aj a
 |.ty n,u=>u=Fc n
abbrev Vals:List V->List Value->Prop:=Vi RelV
def Vals.length{xs:List V}(r:Vals xs us):xs.length=us.length:=Qn r
def Vals.get:∀{xs:List V}{us:List Value}{i:Nat}{x:V},Vals xs us->xs[i]? =some x->∃u,us[i]? =some u/\RelV x u
 |_,_,_,_,.nil,e=>by simp at e
 |_,_,0,_,.cons r _,e=>by simp at e;subst e;exact⟨_,rfl,r⟩
 |_,_,i+1,x,.cons _ t,e=>by
  obtain⟨u,h1,h2⟩:=Vals.get (i:=i) (x:=x) t (by simpa using e);exact⟨u,by simpa using h1,h2⟩
def Vals.set{x:V}(r:RelV x u):∀{xs:List V}{us:List Value}(i:Nat),Vals xs us->Vals (xs.set i x) (us.set i u)
 |_,_,_,.nil=> .nil
 |_,_,0,.cons _ t=> .cons r t
 |_,_,i+1,.cons q t=> .cons q (Vals.set r i t)
def Vals.append:∀{xs ys:List V}{us ws:List Value},Vals xs us->Vals ys ws->Vals (xs++ys) (us++ws)
 |_,_,_,_,.nil,s=>s
 |_,_,_,_,.cons r t,s=> .cons r (Vals.append t s)
def Vals.take:∀{xs:List V}{us:List Value}(n:Nat),Vals xs us->Vals (xs.take n) (us.take n)
 |_,_,0,_=> .nil
 |_,_,_+1,.nil=> .nil
 |_,_,n+1,.cons r t=> .cons r (Vals.take n t)
def Vals.drop:∀{xs:List V}{us:List Value}(n:Nat),Vals xs us->Vals (xs.drop n) (us.drop n)
 |_,_,0,r=>r
 |_,_,_+1,.nil=> .nil
 |_,_,n+1,.cons _ t=>Vals.drop n t
def pB:Option V->#v[8]->Prop
 |some v,some u=>RelV v u
 |none,none=>True
 |_,_=>False
def KV{κ:Type}:List (κ×V)->List (κ×Value)->Prop:=Vi λ(p:κ×V)(q:κ×Value)=>p.1=q.1/\RelV p.2 q.2
def kV:Key->V
 |.inl i=> .int i
 |.inr x=> .str x
inductive HO where
 |lst (xs:List V)
 |tup (xs:List V)
 |dK (kvs:List (Key×V))|dT (kvs:List (List Key×V))
 |set (S:Int->Bool) (n:Nat)
 |ins (C dx:Addr) (fs:List (Str×V))
 |own (x:Addr)
 |xd (fs:List (Str×V))
 |met (f x:Addr)
 |rng (lo hi:Int)
 |frz (o:Obj) (u:HO)
 |tbl (ps:Array Value)
 |ext (φ:Heap->Prop)
abbrev Hp:=Addr->Option HO
def upd(H:Hp)(a:Addr)(o:HO):Hp:=λb=>if b=a then some o else H b
def aM{H:Hp}{a:Addr}{o:HO}:upd H a o a=some o:=by unfold upd;rw[if_pos rfl]
def aL{H:Hp}{a b:Addr}{o:HO}(h:b≠a):upd H a o b=H b:=by unfold upd;rw[if_neg h]
def aI0{H:Hp}{a:Addr}{o u:HO}:upd (upd H a o) a u=upd H a u:=by
 funext b;unfold upd;split<;>rfl
def aWu{H:Hp}{a b:Addr}{o u:HO}(h:H a=some o)(h':H b=some u)(d:o≠u):a≠b:=by
 intro e;subst e;rw[h]at h';exact d (Bq h')
def aR{H:Hp}{a b:Addr}{o:HO}(h:H a=some o)(h':H b=none):a≠b:=by
 intro e;subst e;rw[h]at h';cases h'
section
variable (P:Ap)(w:Bh)
def cC(H:Hp)(h:Heap)(a:Addr):HO->Prop
 |.lst xs=>xs.length<=sizeLine/\∃(its:List Value)(n:Nat),Vals xs its/\h.get? a=some {cls:=.type "list",data:=.seq its.toArray n}
 |.tup xs=>xs.length<=sizeLine/\∃its:List Value,Vals xs its/\IsTup h a its.toArray
 |.dK kvs=>kvs.length<=sizeLine/\(a==Il)=false/\∃vs,KV kvs vs/\h.DictOf (dB P w) a vs
 |.dT kvs=>kvs.length<=sizeLine/\(a==Il)=false/\∃xs:List (List Key×Addr×Value),
   Vi (λ(p:List Key×V)(q:List Key×Addr×Value)=>p.1=q.1/\H q.2.1=some (.tup (p.1.map kV))/\RelV p.2 q.2.2) kvs xs/\
   ∃o es ep,h.get? a=some o/\o.ExactDict/\o.data=.dict es ep/\es.toList=xs.map (entryOfKey (Mx (dB P w)))/\(xs.map (·.1)).Nodup
 |.set S n=>h.SetOf (Fg P w) a S n
 |.ins C dx fs=>H dx=some (.own a)/\fs.length<=1000/\dx≠a/\h.get? a=some (Fz C dx)/\
   ∃mA,h.Ns1 dx mA/\(∀f,pB (fs.lookup f) (mA f))/\Rr mA (fs.map (·.1))
 |.own _=>∃o,h.get? a=some o
 |.xd fs=>∃mA,h.Ns1 a mA/\∀f,pB (fs.lookup f) (mA f)
 |.rng lo hi=>∃t u v,h.get? a=some {cls:=.type "range",data:=.fields #[.int lo t,.int hi u,.int 1 v]}
 |.frz o u=>h.get? a=some o/\cC H h a u
 |.tbl ps=>h.get? a=some {cls:=.none,data:=.fields ps}
 |.met f x=>h.get? a=some (Nf (.ref f) (.ref x))
 |.ext φ=>φ h/\(∃o,h.get? a=some o)/\∀h1 h2:Heap,φ h1->(∀o,h1.get? a=some o->h2.get? a=some o)->φ h2
def HOk(H:Hp)(h:Heap):Prop:=∀a o,H a=some o->cC P w H h a o
end
variable {P:Ap}{w:Bh}{H H':Hp}{h h':Heap}{a:Addr}{o:HO}
def cC.lt(x:cC P w H h a o):a<h.objs.size:=by
 cases o with
 |lst xs=>obtain⟨_,_,_,_,e⟩:=x;exact Ar e
 |tup xs=>obtain⟨_,_,_,p⟩:=x;exact p.lt
 |dK kvs=>obtain⟨_,_,_,_,o,_,_,e,_⟩:=x;exact Ar e
 |dT kvs=>obtain⟨_,_,_,_,o,_,_,e,_⟩:=x;exact Ar e
 |set S n=>obtain⟨o,_,_,_,e,_⟩:=x;exact Ar e
 |ins C dx fs=>obtain⟨_,_,_,e,_⟩:=x;exact Ar e
 |own y=>obtain⟨_,e⟩:=x;exact Ar e
 |xd fs=>obtain⟨_,⟨_,_,_,e,_⟩,_⟩:=x;exact Ar e
 |rng lo hi=>obtain⟨_,_,_,e⟩:=x;exact Ar e
 |frz ob u=>obtain⟨e,_⟩:=x;exact Ar e
 |tbl ps=>exact Ar (show h.get? a=some _ from x)
 |met f y=>exact Ar (show h.get? a=some _ from x)
 |ext φ=>obtain⟨_,⟨_,e⟩,_⟩:=x;exact Ar e
def Paired.mapP{α β:Type}{F G:α->β->Prop}:∀{l₁:List α}{l₂:List β},Vi F l₁ l₂->(∀a b,F a b->G a b)->Vi G l₁ l₂
 |_,_,.nil,_=> .nil
 |_,_,.cons r t,f=> .cons (f _ _ r) (Paired.mapP t f)
def cC.stay(x:cC P w H h a o)(k:∀b u,(b=a∨H b=some (.own a))->h.get? b=some u->h'.get? b=some u)
  (ho:∀b,H b=some (.own a)->H' b=some (.own a)) (ht:∀b xs,H b=some (.tup xs)->H' b=some (.tup xs)):cC P w H' h' a o:=by
 induction o with
 |lst xs=>obtain⟨z,its,n,r,e⟩:=x;exact⟨z,its,n,r,k _ _ (.inl rfl) e⟩
 |tup xs=>obtain⟨z,its,r,ob,e,c⟩:=x;exact⟨z,its,r,ob,k _ _ (.inl rfl) e,c⟩
 |dK kvs=>obtain⟨z,y,vs,r,ob,es,ep,e,c⟩:=x;exact⟨z,y,vs,r,ob,es,ep,k _ _ (.inl rfl) e,c⟩
 |dT kvs=>
  obtain⟨z,y,xs,r,ob,es,ep,e,c⟩:=x;exact⟨z,y,xs,Paired.mapP r λp q z=>⟨z.1,ht _ _ z.2.1,z.2.2⟩,ob,es,ep,k _ _ (.inl rfl) e,c⟩
 |set S n=>obtain⟨ob,es,ep,t,e,c⟩:=x;exact⟨ob,es,ep,t,k _ _ (.inl rfl) e,c⟩
 |ins C dx fs=>
  obtain⟨d,z,ne,e,mA,⟨od,es,ep,e2,c⟩,r⟩:=x;exact⟨ho _ d,z,ne,k _ _ (.inl rfl) e,mA,⟨od,es,ep,k _ _ (.inr d) e2,c⟩,r⟩
 |own y=>obtain⟨ob,e⟩:=x;exact⟨ob,k _ _ (.inl rfl) e⟩
 |xd fs=>obtain⟨mA,⟨od,es,ep,e,c⟩,r⟩:=x;exact⟨mA,⟨od,es,ep,k _ _ (.inl rfl) e,c⟩,r⟩
 |rng lo hi=>obtain⟨t,u,v,e⟩:=x;exact⟨t,u,v,k _ _ (.inl rfl) e⟩
 |frz ob u ih=>obtain⟨e,q⟩:=x;exact⟨k _ _ (.inl rfl) e,ih q⟩
 |tbl ps=>
  have e:h.get? a=some {cls:=.none,data:=.fields ps}:=x;show h'.get? a=some {cls:=.none,data:=.fields ps};exact k a _ (.inl rfl) e
 |met f y=>
  have e:h.get? a=some (Nf (.ref f) (.ref y)):=x;show h'.get? a=some (Nf (.ref f) (.ref y));exact k a _ (.inl rfl) e
 |ext φ=>obtain⟨p,⟨o,e⟩,st⟩:=x;exact⟨st _ _ p λo q=>k _ _ (.inl rfl) q,⟨o,k _ _ (.inl rfl) e⟩,st⟩
def HOk.lt(x:HOk P w H h)(e:H a=some o):a<h.objs.size:=(x a o e).lt
def HOk.fresh(x:HOk P w H h)(e:h.objs.size<=a):H a=none:=by
 cases q:H a with
 |none=>rfl
 |some u=>exact absurd (Bf (x.lt q) e) (Dr _)
def HOk.kept(x:HOk P w H h)(k:∀b u,h.get? b=some u->h'.get? b=some u):HOk P w H h':=λa o e=>
 (x a o e).stay (λb u _ q=>k b u q) (λ_ q=>q) λ_ _ q=>q
def HOk.laid(x:HOk P w H h)(k:∀b u,h.get? b=some u->h'.get? b=some u)(hp:h.objs.size<=a)(new:cC P w (upd H a o) h' a o):HOk P w (upd H a o) h':=λb u e=>by
 have hn:=x.fresh hp;by_cases hb:b=a
 ·subst hb;rw[aM]at e;cases e;exact new
 ·rw[aL hb]at e;exact(x b u e).stay (λc v _ q=>k c v q) (λc q=>by rw[aL (aR q hn)];exact q) λc xs q=>by rw[aL (aR q hn)];exact q
def Rd(H:Hp)(a:Addr)(u:HO):Prop:=H a=some u∨∃o,H a=some (.frz o u)
def Rd.ok{P:Ap}{w:Bh}{H:Hp}{h:Heap}{a:Addr}{u:HO}(r:Rd H a u)(x:HOk P w H h):cC P w H h a u:=by
 rcases r with r|⟨o,r⟩
 ·exact x a u r
 ·obtain⟨_,q⟩:=x a _ r;exact q
def Mut:Option HO->Prop
 |some (.lst _)=>True
 |some (.dK _)=>True
 |some (.dT _)=>True
 |some (.set _ _)=>True
 |some (.ins _ _ _)=>True
 |some (.ext _)=>True
 |_=>False
variable {x e:Addr}{o':HO}
def HOk.write(ok:HOk P w H h)(mu:Mut (H x))(he:e=x∨H e=some (.own x))(k:∀b u,b≠e->h.get? b=some u->h'.get? b=some u)(heo:∃u,h'.get? e=some u)
  (new:cC P w (upd H x o') h' x o'):HOk P w (upd H x o') h':=λb u q=>by
 have nown:∀c y,H c=some (.own y)->c≠x:=λc y r z=>by subst z;rw[r]at mu;exact mu
 have ntup:∀c xs,H c=some (.tup xs)->c≠x:=λc xs r z=>by subst z;rw[r]at mu;exact mu
 by_cases hb:b=x
 ·subst hb;rw[aM]at q;cases q;exact new
 ·rw[aL hb]at q;by_cases hbe:b=e
  ·have q':H b=some (.own x):=by
    rcases he with z|z
    ·exact absurd (hbe.trans z) hb
    ·rw[hbe];exact z
   rw[q]at q';cases q';obtain⟨v,hv⟩:=heo;exact⟨v,by rw[hbe];exact hv⟩
  ·refine(ok b u q).stay (λc v hc r=>k c v ?_ r) (λc r=>by rw[aL (nown c b r)];exact r) λc xs r=>by rw[aL (ntup c xs r)];exact r
   rcases hc with rfl|hc
   ·exact hbe
   ·rintro rfl;rcases he with z|z
    ·exact nown c b hc z
    ·rw[hc]at z;cases z;exact hb rfl
structure Un(fs ex:List Addr)(H H':Hp)(h h':Heap):Prop where
 keep:∀b o,h.get? b=some o->H b=none->b∉fs->b∉ex->h'.get? b=some o
 slot:∀b o,h.get? b=some o->H b=none->b∈fs->b∉ex->∃sl,h'.get? b=some {o with slots:=sl}
 free:∀b o,h.get? b=some o->H b=none->b∉ex->H' b=none
 there:∀b o,h.get? b=some o->b∉ex->∃o',h'.get? b=some o'
 tups:∀b xs,H b=some (.tup xs)->H' b=some (.tup xs)
 frzs:∀b o u,H b=some (.frz o u)->H' b=some (.frz o u)
 tbls:∀b ps,H b=some (.tbl ps)->∃more,H' b=some (.tbl (ps++more))
section
variable {fs fs' ex ex':List Addr}{H H1 H2:Hp}{h h1 h2 h':Heap}{a x e:Addr}{o:HO}
def Un.any(u:Un fs ex H H1 h h1){ob:Obj}(q:h.get? b=some ob)(n:H b=none)(hx:b∉ex):∃sl,h1.get? b=some {ob with slots:=sl}:=by
 by_cases hb:b∈fs
 ·exact u.slot b ob q n hb hx
 ·exact⟨ob.slots,u.keep b ob q n hb hx⟩
def Un.kept(k:∀b u,h.get? b=some u->h'.get? b=some u):Un fs ex H H h h':=
 ⟨λb ob q _ _ _=>k b ob q,λb ob q _ _ _=>⟨ob.slots,k b ob q⟩,λ_ _ _ n _=>n,λb ob q _=>⟨ob,k b ob q⟩,λ_ _ q=>q,λ_ _ _ q=>q,λ_ ps q=>⟨#[],by rw[q];simp⟩⟩
def Un.refl:Un fs ex H H h h:=Un.kept λ_ _ q=>q
def Un.laid(k:∀b u,h.get? b=some u->h'.get? b=some u)(hp:h.objs.size<=a)(hn:H a=none):Un fs ex H (upd H a o) h h' where
 keep:=λb u q _ _ _=>k b u q
 slot:=λb u q _ _ _=>⟨u.slots,k b u q⟩
 free:=λb u q n _=>by rw[aL (Be (Bf (Ar q) hp))];exact n
 there:=λb u q _=>⟨u,k b u q⟩
 tups:=λb xs q=>by rw[aL (aR q hn)];exact q
 frzs:=λb u xs q=>by rw[aL (aR q hn)];exact q
 tbls:=λb ps q=>⟨#[],by rw[aL (aR q hn),q];simp⟩
def Un.write(mu:Mut (H x))(he:e=x∨H e=some (.own x))(k:∀b u,b≠e->h.get? b=some u->h'.get? b=some u)(heo:∃u,h'.get? e=some u):Un fs ex H (upd H x o) h h':=by
 have hx:∀b,H b=none->b≠x:=λb n z=>by subst z;rw[n]at mu;exact mu
 have hb:∀b,H b=none->b≠e:=λb n z=>by
  subst z;rcases he with r|r
  ·exact hx b n r
  ·rw[n]at r;cases r
 have hm:∀b u,H b=some u->¬Mut (some u)->b≠x:=λb u q nm z=>by subst z;rw[q]at mu;exact nm mu
 refine⟨λb u q n _ _=>k b u (hb b n) q,λb u q n _ _=>⟨u.slots,k b u (hb b n) q⟩,λb u q n _=>by rw[aL (hx b n)];exact n,λb u q _=>?_,
  λb xs q=>by rw[aL (hm b _ q λz=>z)];exact q,λb u xs q=>by rw[aL (hm b _ q λz=>z)];exact q,λb ps q=>⟨#[],by rw[aL (hm b _ q λz=>z),q];simp⟩⟩
 by_cases hbe:b=e
 ·subst hbe;exact heo
 ·exact⟨u,k b u hbe q⟩
end
def trk(h:Heap)(H:Hp):List Addr:=(Cj h.objs.size).filter λa=>(H a).isSome
def aDs(h:Heap)(H:Hp):Heap:=PySem.W.hideAll h (trk h H)
def aJq(h:Heap)(H:Hp):(aDs h H).objs.size=h.objs.size:=PySem.W.hideAll_size _ _
def aMk{h:Heap}{H:Hp}{o:Obj}(e:h.get? b=some o)(n:H b=none):(aDs h H).get? b=some o:=
 PySem.W.hideAll_get _ e λhm=>by
  have q:(H b).isSome=true:=(Pk.mp hm).2;rw[n]at q;simp at q
def aPw{h:Heap}{H:Hp}{o:Obj}(e:(aDs h H).get? b=some o):h.get? b=some o/\H b=none:=by
 have e':h.get? b=some o:=PySem.W.of_hideAll (trk h H) e;refine⟨e',?_⟩;cases q:H b with
 |none=>rfl
 |some x=>
  have hm:b∈trk h H:=Pk.mpr ⟨Cc.mpr (Ar e'),by simp[q]⟩;have z:(aDs h H).get? b=none:=PySem.W.hideAll_none (trk h H) hm;rw[z]at e;cases e
structure Mod(K:Ab)(mg:Str->#v[8])(base:Heap):Prop where
 kin:K.In base
 glob:base.Ns Eo mg
 blt:∃mb,base.Ns Xo mb/\∀x:Str,x≠"__name__"->mb x=Gc x
 nolimit:base.NoLimit
structure Cx where
 prog:Ap
 w:Bh
 K:Ab
 mg:Str->#v[8]
 base:Heap
 A:Bl
 N:List Str
 s₀:Ae
 H₀:Hp
 env:Env
 outer:List Env
 stack:List Env
 ex:List Addr
 fn:Str->Bool
 calm:Bool
 pn:#v[4]
 xe:Value->Ae->Prop
def frs(l:List Env):List Addr:=l.filterMap (·.frame)
abbrev Cx.fs(X:Cx):List Addr:=frs X.outer
def Vis(sc:Scope)(x:Str):Prop:=sc.names.lookup x=some .local∨sc.names.lookup x=some .cell∨sc.names.lookup x=some .free
def Loc(sc:Scope)(x:Str):Prop:=sc.names.lookup x=some .local∨sc.names.lookup x=some .cell
def Look(env:Env)(h:Heap)(m:Str->#v[8])(x:Str)(u:Value):Prop:=
 (env.kindOf x=some .local/\m x=some u)∨((env.kindOf x=some .cell∨env.kindOf x=some .free)/\∃c,env.cells.lookup x=some c/\h.IsCell c (some u))
structure Cx.Ok(X:Cx):Prop where
 mod:Mod X.K X.mg X.base
 kind:X.env.scope.kind=.function
 glob:X.env.globals=Eo
 blt:X.env.builtins=Xo
 above:X.s₀.heap.objs.size<=X.env.locals
 inj:∀x y c,X.env.cells.lookup x=some c->X.env.cells.lookup y=some c->x=y
 has:∀x,(X.env.kindOf x=some .cell∨X.env.kindOf x=some .free)->∃c,X.env.cells.lookup x=some c
 cab:∀x c,X.fn x=true->X.env.cells.lookup x=some c->X.s₀.heap.objs.size<=c
 hd:X.calm=true->X.A.handled=none
 frames:X.A.frames=some X.stack
 stk:X.stack=X.outer∨(X.stack=X.env::X.outer/\X.env.frame=some X.env.locals)
 exf:∀b∈X.ex,b≠X.env.locals/\∀x c,X.env.cells.lookup x=some c->c≠b
 bs:∀b o,X.base.get? b=some o->X.s₀.heap.get? b=some o/\X.H₀ b=none
 bsz:X.base.objs.size<=X.s₀.heap.objs.size
 noex:∀b o,X.base.get? b=some o->b∉X.ex
 exfs:∀b∈X.ex,b∉X.fs
 funs:X.s₀.heap.FunFrames X.base X.outer
 frf:∀b∈X.fs,X.H₀ b=none
structure Inv(X:Cx)(pins:#v[4])(σ:List (Option V))(H:Hp)(s:Ae):Prop where
 ok:X.Ok
 os:s.os=X.s₀.os
 bare:Mf s.gens
 base:Un X.fs X.ex X.H₀ H X.s₀.heap s.heap
 loc:∃m,s.heap.Ns X.env.locals m/\∀(i:Nat)(x:Str)(v:V),X.N[i]? =some x->σ[i]? =some (some v)->Vis X.env.scope x->∃u,RelV v u/\Look X.env s.heap m x u
 cell:∀x c,X.env.cells.lookup x=some c->∃v,s.heap.IsCell c v
 free:H X.env.locals=none
 freeC:∀x c,X.env.cells.lookup x=some c->H c=none
 pin:∀p∈X.pn++pins,s.heap.get? p.1=some p.2/\H p.1=none/\p.1≠X.env.locals/\p.1∉X.fs/\∀v,p.2.data≠.cell v
 hok:HOk X.prog X.w H s.heap
 len:σ.length=X.N.length
variable {X:Cx}{pins:#v[4]}{σ:List (Option V)}{s:Ae}
def Cx.Ok.nofr(ok:X.Ok){o:Obj}(e:X.base.get? b=some o):b∉X.fs:=λhb=>by
 have:=(ok.funs.mem hb).1;rw[e]at this;cases this
def Inv.bs(I:#v[1]):∀b o,X.base.get? b=some o->s.heap.get? b=some o/\H b=none:=λb o e=>
 ⟨I.base.keep b o (I.ok.bs b o e).1 (I.ok.bs b o e).2 (I.ok.nofr e) (I.ok.noex b o e),I.base.free b o (I.ok.bs b o e).1 (I.ok.bs b o e).2 (I.ok.noex b o e)⟩
def Inv.bk(I:#v[1]):∀b o,X.base.get? b=some o->s.heap.get? b=some o:=λb o e=>(I.bs b o e).1
def Inv.mod(I:#v[1]):Mod X.K X.mg X.base:=I.ok.mod
def Inv.kIn(I:#v[1]):X.K.In s.heap:=I.ok.mod.kin.keeps I.bk
def Inv.lt(I:#v[1]):X.env.locals<#v[0]:=let⟨_,hn,_⟩:=I.loc;hn.lt
def Inv.sz(I:#v[1]):X.s₀.heap.objs.size<=#v[0]:=Bd I.ok.above (Mc I.lt)
def Inv.nofs(I:#v[1]){a:Addr}(h:#v[0]<=a):a∉X.fs:=λhb=>by
 obtain⟨_,o,ho,_⟩:=I.ok.funs.mem hb;exact absurd (Bf (Ar ho) (Bd I.sz h)) (Dr _)
def Inv.cne(I:#v[1]):∀x c,X.env.cells.lookup x=some c->c≠X.env.locals:=λx c e z=>by
 obtain⟨v,o,ho,hd⟩:=I.cell x c e;obtain⟨m,⟨o',es,ep,ho',hd',_⟩,_⟩:=I.loc;rw[z,ho']at ho;cases ho;rw[hd']at hd;cases hd
def Inv.funs(I:#v[1]):s.heap.FunFrames X.base X.outer:=by
 have all:∀(l:List Env),(∀b∈frs l,b∈X.fs)->X.s₀.heap.FunFrames X.base l->s.heap.FunFrames X.base l:=by
  intro l;induction l with
  |nil=>intro _ _;trivial
  |cons env r ih=>
   intro hs hl;obtain⟨hk,⟨L,o,hf,hn,ho,hd⟩,hr⟩:=hl;have hL:L∈X.fs:=hs L (by unfold frs;rw[Jy,hf];exact Ah);obtain⟨sl,e⟩:=I.base.slot L o ho (I.ok.frf L hL) hL λz=>I.ok.exfs L z hL;exact⟨hk,⟨L,_,hf,hn,e,hd⟩,ih (λb hb=>hs b (by unfold frs;rw[Jy,hf];exact Ag _ hb)) hr⟩
 exact all X.outer (λ_ hb=>hb) I.ok.funs
def Inv.stack(I:#v[1]):s.heap.FunFrames X.base X.stack:=by
 rcases I.ok.stk with e|⟨e,hf⟩
 ·rw[e];exact I.funs
 ·rw[e];obtain⟨m,hn,_⟩:=I.loc;refine .cons (by rw[I.ok.kind];decide) hf hn ?_ I.funs;exact Ey (Bd I.ok.bsz I.ok.above)
def Inv.stkSub(I:#v[1]):∀b∈frs X.stack,b∈X.env.locals::X.fs:=λb hb=>by
 rcases I.ok.stk with e|⟨e,hf⟩
 ·rw[e]at hb;exact Ag _ hb
 ·rw[e]at hb;unfold frs at hb;rw[Jy,hf]at hb;exact hb
def Inv.stkFree(I:#v[1]):∀b∈frs X.stack,H b=none:=λb hb=>by
 rcases Ao.mp (I.stkSub b hb)with e|hb
 ·rw[e];exact I.free
 ·obtain⟨_,o,ho,_⟩:=I.ok.funs.mem hb;exact I.base.free b o ho (I.ok.frf b hb) λz=>I.ok.exfs b z hb
def Inv.step{g':Array Hl}{d':Zj}(I:#v[1])
  (hch:∀b∈ch,(b∈X.ex∨X.s₀.heap.objs.size<=b)/\b≠X.env.locals/\(∀x c,X.env.cells.lookup x=some c->c≠b)/\∀p∈X.pn++pins,p.1≠b)
  (keep:∀b o,b≠X.env.locals->b∉X.fs->b∉ch->s.heap.get? b=some o->H b=none->h'.get? b=some o)
  (slot:∀b o,b≠X.env.locals->b∈X.fs->b∉ch->s.heap.get? b=some o->H b=none->∃sl,h'.get? b=some {o with slots:=sl}) (free:∀b o,b∉ch->s.heap.get? b=some o->H b=none->H' b=none)
  (there:∀b o,b∉ch->s.heap.get? b=some o->∃o',h'.get? b=some o')
  (tups:∀b xs,H b=some (.tup xs)->H' b=some (.tup xs)) (frzs:∀b o u,H b=some (.frz o u)->H' b=some (.frz o u)) (tbls:∀b ps,H b=some (.tbl ps)->∃more,H' b=some (.tbl (ps++more)))
  (ns:∀m,s.heap.Ns X.env.locals m->h'.Ns X.env.locals m) (hok:HOk X.prog X.w H' h') (hg:Mf g'):
  Inv X pins σ H' {s with heap:=h',gens:=g',drawn:=d',toks:=t'}:=by
 have neL:∀b o,X.s₀.heap.get? b=some o->b≠X.env.locals:=λb o e=>Be (Bf (Ar e) I.ok.above);have neC:∀b o,X.s₀.heap.get? b=some o->b∉X.ex->b∉ch:=λb o e hx hb=>by
  rcases (hch b hb).1 with z|z
  ·exact hx z
  ·exact absurd (Bf (Ar e) z) (Dr _)
 have cellK:∀x c,X.env.cells.lookup x=some c->∀v,s.heap.IsCell c v->h'.IsCell c v:=λx c e v ⟨o,ho,hd⟩=>by
  have nch:c∉ch:=λz=>(hch c z).2.2.1 x c e rfl;by_cases hc:c∈X.fs
  ·obtain⟨sl,q⟩:=slot c o (I.cne x c e) hc nch ho (I.freeC x c e);exact⟨_,q,hd⟩
  ·exact⟨o,keep c o (I.cne x c e) hc nch ho (I.freeC x c e),hd⟩
 refine⟨I.ok,I.os,hg,⟨λb o e n hb hx=>?_,λb o e n hb hx=>?_,λb o e n hx=>?_,λb o e hx=>?_,λb xs e=>tups b xs (I.base.tups b xs e),λb o xs e=>frzs b o xs (I.base.frzs b o xs e),λb ps e=>?_⟩,?_,λx c e=>?_,?_,λx c e=>?_,λp hp=>?_,hok,I.len⟩
 ·exact keep b o (neL b o e) hb (neC b o e hx) (I.base.keep b o e n hb hx) (I.base.free b o e n hx)
 ·obtain⟨sl,e1⟩:=I.base.slot b o e n hb hx;obtain⟨sl',e2⟩:=slot b _ (neL b o e) hb (neC b o e hx) e1 (I.base.free b o e n hx);exact⟨sl',e2⟩
 ·obtain⟨o',e1⟩:=I.base.there b o e hx;exact free b o' (neC b o e hx) e1 (I.base.free b o e n hx)
 ·obtain⟨o',e1⟩:=I.base.there b o e hx;exact there b o' (neC b o e hx) e1
 ·obtain⟨m1,e1⟩:=I.base.tbls b ps e;obtain⟨m2,e2⟩:=tbls b _ e1;exact⟨m1++m2,by rw[e2,Array.append_assoc]⟩
 ·obtain⟨m,hn,hl⟩:=I.loc;refine⟨m,ns m hn,λi x v e1 e2 e3=>?_⟩;obtain⟨u,r,l⟩:=hl i x v e1 e2 e3;refine⟨u,r,?_⟩;rcases l with l|⟨k,c,e,z⟩
  ·exact .inl l
  ·exact .inr ⟨k,c,e,cellK x c e _ z⟩
 ·obtain⟨v,z⟩:=I.cell x c e;exact⟨v,cellK x c e v z⟩
 ·obtain⟨m,⟨o,_,_,ho,_⟩,_⟩:=I.loc;exact free _ o (λz=>(hch _ z).2.1 rfl) ho I.free
 ·obtain⟨v,o,ho,hd⟩:=I.cell x c e;exact free c o (λz=>(hch c z).2.2.1 x c e rfl) ho (I.freeC x c e)
 ·obtain⟨e,n,ne,nf,d⟩:=I.pin p hp;have nch:p.1∉ch:=λz=>(hch p.1 z).2.2.2 p hp rfl;exact⟨keep p.1 p.2 ne nf nch e n,free p.1 p.2 nch e n,ne,nf,d⟩
def Inv.un(I:#v[1])(u:Un X.fs [] H H' s.heap h')(hok:HOk X.prog X.w H' h'):Inv X pins σ H' {s with heap:=h',toks:=t'}:=by
 obtain⟨m,⟨o,es,ep,ho,r⟩,_⟩:=id I.loc;obtain⟨sl,hL⟩:=u.any ho I.free (by simp);exact I.step (g':=s.gens) (d':=s.drawn) (ch:=[]) (λ_ z=>nomatch z) (λb o _ hb _ e n=>u.keep b o e n hb (by simp)) (λb o _ hb _ e n=>u.slot b o e n hb (by simp)) (λb o _ e n=>u.free b o e n (by simp)) (λb o _ e=>u.there b o e (by simp)) u.tups u.frzs u.tbls (λm' hm=>by
  obtain⟨o',es',ep',ho',r'⟩:=hm;rw[ho]at ho';cases ho';exact⟨_,es',ep',hL,r'⟩) hok I.bare
def Inv.call{g':Array Hl}{d':Zj}(I:#v[1])(u:Un (frs X.stack) ch H H' s.heap h')(hok:HOk X.prog X.w H' h')(hg:Mf g')
  (hch:∀b∈ch,(b∈X.ex∨X.s₀.heap.objs.size<=b)/\b≠X.env.locals/\(∀x c,X.env.cells.lookup x=some c->c≠b)/\∀p∈X.pn++pins,p.1≠b):
  Inv X pins σ H' {s with heap:=h',gens:=g',drawn:=d',toks:=t'}:=by
 obtain⟨m,⟨o,es,ep,ho,r⟩,_⟩:=id I.loc;obtain⟨sl,hL⟩:=u.any ho I.free λz=>(hch _ z).2.1 rfl;exact I.step (ch:=ch) hch (λb o hL hb hc e n=>u.keep b o e n (λz=>(Ao.mp (I.stkSub b z)).elim hL hb) hc) (λb o _ _ hc e n=>u.any e n hc) (λb o hc e n=>u.free b o e n hc) (λb o hc e=>u.there b o e hc) u.tups u.frzs u.tbls (λm' hm=>by
  obtain⟨o',es',ep',ho',r'⟩:=hm;rw[ho]at ho';cases ho';exact⟨_,es',ep',hL,r'⟩) hok hg
def Inv.turned{it:Addr}(I:#v[1])(k:∀b o,b≠it->s.heap.get? b=some o->h'.get? b=some o)(hn:H it=none)(hL:it≠X.env.locals)
  (h1:it∈X.ex∨X.s₀.heap.objs.size<=it) (h2:∀x c,X.env.cells.lookup x=some c->c≠it) (h3:∀p∈X.pn++pins,p.1≠it):Inv X pins σ H {s with heap:=h',toks:=t'}:=by
 have nit:∀b u,H b=some u->b≠it:=λb u e z=>by rw[z,hn]at e;cases e
 refine I.step (g':=s.gens) (d':=s.drawn) (ch:=[it]) (λb hb=>?_) (λb o _ _ hc e _=>k b o (λz=>hc (by simp[z])) e) (λb o _ _ hc e _=>⟨o.slots,k b o (λz=>hc (by simp[z])) e⟩) (λ_ _ _ _ n=>n)
  (λb o hc e=>⟨o,k b o (λz=>hc (by simp[z])) e⟩) (λ_ _ e=>e) (λ_ _ _ e=>e) (λb ps e=>⟨#[],by rw[e];simp⟩) (λm hm=>?_) (λb u e=>?_) I.bare
 ·have e:b=it:=by simpa using hb
  subst e;exact⟨h1,hL,h2,h3⟩
 ·obtain⟨o,es,ep,ho,r⟩:=hm;exact⟨o,es,ep,k _ o (Ci hL) ho,r⟩
 ·refine(I.hok b u e).stay (λc v hc q=>k c v ?_ q) (λ_ q=>q) λ_ _ q=>q;rcases hc with z|z
  ·rw[z];exact nit b u e
  ·exact nit c _ z
def Inv.tok(I:#v[1])(t:Nat):Inv X pins σ H {s with toks:=t}:=I.un (h':=s.heap) (t':=t) Un.refl I.hok
def Inv.kept(I:#v[1])(k:∀b u,s.heap.get? b=some u->h'.get? b=some u):Inv X pins σ H {s with heap:=h',toks:=t'}:=I.un (Un.kept k) (I.hok.kept k)
def Inv.laid{a:Addr}{o:HO}(I:#v[1])(k:∀b u,s.heap.get? b=some u->h'.get? b=some u)(hp:#v[0]<=a)(new:cC X.prog X.w (upd H a o) h' a o):
  Inv X pins σ (upd H a o) {s with heap:=h',toks:=t'}:=I.un (Un.laid k hp (I.hok.fresh hp)) (I.hok.laid k hp new)
def Inv.write{x e:Addr}{o:HO}(I:#v[1])(mu:Mut (H x))(he:e=x∨H e=some (.own x))(k:∀b u,b≠e->s.heap.get? b=some u->h'.get? b=some u)(heo:∃u,h'.get? e=some u)
  (new:cC X.prog X.w (upd H x o) h' x o):Inv X pins σ (upd H x o) {s with heap:=h',toks:=t'}:=I.un (Un.write mu he k heo) (I.hok.write mu he k heo new)
def Inv.weak{σ':List (Option V)}(I:#v[1])(hl:σ'.length=σ.length)(w:∀(i:Nat) v,σ'[i]? =some (some v)->σ[i]? =some (some v)):Inv X pins σ' H s:=
 ⟨I.ok,I.os,I.bare,I.base,let⟨m,hn,hl'⟩:=I.loc;⟨m,hn,λi x v e1 e2 e3=>hl' i x v e1 (w i v e2) e3⟩,I.cell,I.free,I.freeC,I.pin,I.hok,hl.trans I.len⟩
def Inv.pins_of{pins':#v[4]}(I:#v[1])(h:∀p∈pins',s.heap.get? p.1=some p.2/\H p.1=none/\p.1≠X.env.locals/\p.1∉X.fs/\∀v,p.2.data≠.cell v):Inv X pins' σ H s:=
 ⟨I.ok,I.os,I.bare,I.base,I.loc,I.cell,I.free,I.freeC,λp hp=>(Cd.mp hp).elim (λz=>I.pin p (Ea _ z)) (h p),I.hok,I.len⟩
def aAz{N:List Str}(hN:N.Nodup){i j:Nat}{x:Str}(a:N[i]? =some x)(b:N[j]? =some x):i=j:=by
 obtain⟨h1,e1⟩:=Ax.mp a;obtain⟨h2,e2⟩:=Ax.mp b;exact(Ot hN).mp (e1.trans e2.symm)
abbrev ND(x:Str):Prop:=(x==("__debug__":Str))=false
abbrev BT(X:Cx)(pos:Pos)(es:List Bw):Prop:=(Ju pos (Bc es X.env)).any (·.1)=false
abbrev FL(X:Cx)(x:Str):Prop:=X.fn x=true∨X.env.scope.names.lookup x=some .local
abbrev NC(x:Str):Prop:=(x==("__classdict__":Str))=false
abbrev SE(X:Cx)(e:Bw)(es:List Bw):Prop:=Bc (e::es) X.env=(false,eval e X.env)::Bc es X.env
abbrev FS(X:Cx)(e:Bw):Prop:=∀x,Lg e X.env x=pure x
abbrev HC(X:Cx):Prop:=∀x,X.env.scope.names.lookup x=some .cell->∃c,X.env.cells.lookup x=some c
abbrev EL(a b:Pos):Prop:=(a.endLine==b.line)=true
def xT{M:Tt}{A:Bl}{E:#v[a]}{x:Str}{v:V}{Q:Unit->Ae->Prop}(I:#v[1])(hN:X.N.Nodup)(hi:X.N[i]? =some x)(hx:Loc X.env.scope x)(r:RelV v u)
  (h:∀s',Inv X pins (σ.set i (some v)) H s'->(∃a,Dm a s.heap s'.heap/\(a=X.env.locals∨X.env.cells.lookup x=some a))->Q () s') (hf:FL X x:=by trivial):Au M A (storeName X.env x u) Q E s:=by
 obtain⟨m,hn,hl⟩:=id I.loc;have hcls:(X.env.scope.kind== .class || (X.env.scope.kind== .module && X.env.locals != X.env.globals))=false:=by rw[I.ok.kind];rfl
 have hiσ:i<σ.length:=by rw[I.len];exact(Ax.mp hi).1
 have cne:=I.cne;have tracked:∀{a:Addr}{h':Heap},(∃o,s.heap.get? a=some o/\H a=none)->Dm a s.heap h'->HOk X.prog X.w H h':=λ{a h'} ha hs b ob e=>by
  obtain⟨_,_,hfree⟩:=ha;refine(I.hok b ob e).stay (λc w' hc q=>(hs.2 c ?_).trans q) (λ_ q=>q) λ_ _ q=>q;rintro rfl;rcases hc with rfl|hc
  ·rw[hfree]at e;cases e
  ·rw[hfree]at hc;cases hc
 rcases hx with hk|hk
 ·refine wpAny_storeName_local hk hn (λh' hn' hs=>?_) hcls;obtain⟨oL,_,_,hoL,_⟩:=id hn;refine h _ ⟨I.ok,I.os,I.bare,⟨λb o e n hb hx=>?_,λb o e n hb hx=>?_,I.base.free,λb o e hx=>?_,I.base.tups,I.base.frzs,I.base.tbls⟩,⟨_,hn',λj y v' e1 e2 e3=>?_⟩,λy c e=>?_,I.free,I.freeC,λp hp=>?_,tracked ⟨oL,hoL,I.free⟩ hs,by simpa using I.len⟩ ⟨_,hs,.inl rfl⟩
  ·exact(hs.2 b (Be (Bf (Ar e) I.ok.above))).trans (I.base.keep b o e n hb hx)
  ·obtain⟨sl,e1⟩:=I.base.slot b o e n hb hx;exact⟨sl,(hs.2 b (Be (Bf (Ar e) I.ok.above))).trans e1⟩
  ·obtain⟨o',e1⟩:=I.base.there b o e hx;exact⟨o',(hs.2 b (Be (Bf (Ar e) I.ok.above))).trans e1⟩
  ·by_cases hj:j=i
   ·subst hj;rw[hi]at e1;cases e1;rw[Rt hiσ]at e2;cases e2;exact⟨u,r,.inl ⟨hk,by simp⟩⟩
   ·rw[Mi (Ci hj)]at e2;obtain⟨u',r',q⟩:=hl j y v' e1 e2 e3;refine⟨u',r',?_⟩;rcases q with ⟨k,e⟩|⟨k,c,e,z⟩
    ·refine .inl ⟨k,?_⟩;have:y≠x:=λe=>hj (aAz hN e1 (e▸hi));simp[this,e]
    ·exact .inr ⟨k,c,e,z.sameBut hs (cne y c e)⟩
  ·obtain⟨w',z⟩:=I.cell y c e;exact⟨w',z.sameBut hs (cne y c e)⟩
  ·obtain⟨e,n,ne,nf,d⟩:=I.pin p hp;exact⟨(hs.2 p.1 ne).trans e,n,ne,nf,d⟩
 ·have hfn:X.fn x=true:=by
   rcases hf with z|z
   ·exact z
   ·rw[z]at hk;cases hk
  obtain⟨c,hc⟩:=I.ok.has x (.inl hk);obtain⟨w',z⟩:=I.cell x c hc;refine wpAny_storeName_cell I.ok.kind hk hc z (λh' hc' hs=>?_);obtain⟨oc,hoc,hocd⟩:=id z;refine h {s with heap:=h'} ⟨I.ok,I.os,I.bare,⟨λb o e n hb hx=>?_,λb o e n hb hx=>?_,I.base.free,λb o e hx=>?_,I.base.tups,I.base.frzs,I.base.tbls⟩,⟨m,hn.sameBut hs (Ci (cne x c hc)),λj y v' e1 e2 e3=>?_⟩,λy c' e=>?_,I.free,I.freeC,λp hp=>?_,tracked ⟨oc,hoc,I.freeC x c hc⟩ hs,by simpa using I.len⟩ ⟨c,hs,.inr hc⟩
  ·exact(hs.2 b (Be (Bf (Ar e) (I.ok.cab x c hfn hc)))).trans (I.base.keep b o e n hb hx)
  ·obtain⟨sl,e1⟩:=I.base.slot b o e n hb hx;exact⟨sl,(hs.2 b (Be (Bf (Ar e) (I.ok.cab x c hfn hc)))).trans e1⟩
  ·obtain⟨o',e1⟩:=I.base.there b o e hx;exact⟨o',(hs.2 b (Be (Bf (Ar e) (I.ok.cab x c hfn hc)))).trans e1⟩
  ·by_cases hj:j=i
   ·subst hj;rw[hi]at e1;cases e1;rw[Rt hiσ]at e2;cases e2;exact⟨u,r,.inr ⟨.inl hk,c,hc,hc'⟩⟩
   ·rw[Mi (Ci hj)]at e2;obtain⟨u',r',q⟩:=hl j y v' e1 e2 e3;refine⟨u',r',?_⟩;rcases q with q|⟨k,c',e,z'⟩
    ·exact .inl q
    ·refine .inr ⟨k,c',e,z'.sameBut hs ?_⟩;rintro rfl;exact hj (aAz hN e1 (I.ok.inj _ _ _ e hc▸hi))
  ·by_cases hcc:c'=c
   ·subst hcc;exact⟨_,hc'⟩
   ·obtain⟨w2,z2⟩:=I.cell y c' e;exact⟨w2,z2.sameBut hs hcc⟩
  ·obtain⟨e,n,ne,nf,d⟩:=I.pin p hp;refine⟨(hs.2 p.1 ?_).trans e,n,ne,nf,d⟩;intro q;rw[q,hoc]at e;have q':oc=p.2:=Bq e;exact d w' (by rw[<-q'];exact hocd)
def aA9{M:Tt}{A:Bl}{E:#v[a]}{x:Str}{v:V}{Q:Unit->Ae->Prop}(I:#v[1])(hN:X.N.Nodup)(hi:X.N[i]? =some x)(hx:Loc X.env.scope x)(r:RelV v u)
  (h:∀s',Inv X pins (σ.set i (some v)) H s'->Q () s') (hf:FL X x:=by trivial):Au M A (storeName X.env x u) Q E s:=
 xT I hN hi hx r (λs' I' _=>h s' I') hf
def Inv.call'{s':Ae}(I:#v[1])(ho:s'.os=s.os)(u:Un (frs X.stack) ch H H' s.heap s'.heap)(hok:HOk X.prog X.w H' s'.heap)(hg:Mf s'.gens)
  (hch:∀b∈ch,(b∈X.ex∨X.s₀.heap.objs.size<=b)/\b≠X.env.locals/\(∀x c,X.env.cells.lookup x=some c->c≠b)/\∀p∈X.pn++pins,p.1≠b):Inv X pins σ H' s':=by
 obtain⟨h',g',d',t',o'⟩:=s';have e:o'=s.os:=ho;subst e;exact I.call (g':=g') (t':=t') (d':=d') u hok hg hch
abbrev XK:=Value->Option Addr->Hp->Prop
abbrev St:=List (Option V)
abbrev VK:=V->Hp->Prop
abbrev TE:=St->Hp->VK->Prop
abbrev TT:=St->Hp->(Bool->Hp->Prop)->Prop
abbrev TA:=St->Hp->(List V->Hp->Prop)->Prop
structure Ends where
 nx:St->Hp->Prop
 rt:VK
 bk:St->Hp->Prop:=λ_ _=>False
 ct:St->Hp->Prop:=λ_ _=>False
abbrev TS:=Ends->St->Hp->Prop
inductive IEP(X:Cx)(pins:#v[4])(σ:St)(Q:VK)(u:Value)(s':Ae):Prop
 |mk (v H':_) (q0_:Inv X pins σ H' s') (q1_:RelV v u) (q2_:Q v H'):IEP X pins σ Q u s'
def EP(X:Cx)(pins:#v[4])(σ:St)(Q:VK)(u:Value)(s':Ae):Prop:=IEP X pins σ Q u s'
def TP(X:Cx)(pins:#v[4])(σ:St)(Q:Bool->Hp->Prop)(b:Bool)(s':Ae):Prop:=∃H',Inv X pins σ H' s'/\Q b H'
inductive IAP(X:Cx)(pins:#v[4])(σ:St)(Q:List V->Hp->Prop)(us:List Value)(s':Ae):Prop
 |mk (vs H':_) (q0_:Inv X pins σ H' s') (q1_:Vals vs us) (q2_:Q vs H'):IAP X pins σ Q us s'
def AP(X:Cx)(pins:#v[4])(σ:St)(Q:List V->Hp->Prop)(us:List Value)(s':Ae):Prop:=IAP X pins σ Q us s'
def SP(X:Cx)(pins:#v[4])(D:Ends)(f:Flow)(s':Ae):Prop:=
 match f with
 |.next=>∃σ' H',Inv X pins σ' H' s'/\D.nx σ' H'
 |.brk=>∃σ' H',Inv X pins σ' H' s'/\D.bk σ' H'
 |.cont=>∃σ' H',Inv X pins σ' H' s'/\D.ct σ' H'
 |.ret u=>∃v σ' H',Inv X pins σ' H' s'/\RelV v u/\D.rt v H'
def PE(X:Cx)(e:Bw)(t:TE):Prop:=
 ∀(pins:#v[4])(s:Ae)(σ:St)(H:Hp)(Q:VK),#v[1]->t σ H Q->Au #v[b] X.A (eval e X.env) (EP X pins σ Q) X.xe s
def PT(X:Cx)(e:Bw)(t:TT):Prop:=
 ∀(pins:#v[4])(s:Ae)(σ:St)(H:Hp)(Q:Bool->Hp->Prop),#v[1]->t σ H Q->Au #v[b] X.A (Wp e X.env (eval e X.env)) (TP X pins σ Q) X.xe s
def PW(X:Cx)(e:Bw)(t:TT):Prop:=
 ∀(whole:Sem Value)(pins:#v[4])(s:Ae)(σ:St)(H:Hp)(Q:Bool->Hp->Prop),#v[1]->t σ H Q->Au #v[b] X.A (Wp e X.env whole) (TP X pins σ Q) X.xe s
def PW.pt{X:Cx}{e:Bw}{t:TT}(h:PW X e t):PT X e t:=h _
def PA(X:Cx)(es:List Bw)(t:TA):Prop:=
 ∀(pos:Pos)(pins:#v[4])(s:Ae)(σ:St)(H:Hp)(Q:List V->Hp->Prop),#v[1]->t σ H Q->Au #v[b] X.A (spliced (Ju pos (Bc es X.env))) (AP X pins σ Q) X.xe s
def PS(X:Cx)(st:Stmt)(t:TS):Prop:=
 ∀(pins:#v[4])(s:Ae)(σ:St)(H:Hp)(D:Ends),#v[1]->t D σ H->Au #v[b] X.A (exec st X.env) (SP X pins D) X.xe s
def PSs(X:Cx)(st:List Stmt)(t:TS):Prop:=
 ∀(pins:#v[4])(s:Ae)(σ:St)(H:Hp)(D:Ends),#v[1]->t D σ H->Au #v[b] X.A (execs st X.env) (SP X pins D) X.xe s
def thn{α:Type}{t:Sem α}{Q Q':α->Ae->Prop}{M:Tt}{A:Bl}{E:#v[a]}{s:Ae}(h:Au M A t Q E s)(hQ:∀a s,Q a s->Q' a s):Au M A t Q' E s:=Dc h hQ λ_ _ x=>x
section
variable {X:Cx}
inductive aR7(i:Nat)(σ:St)(H:Hp)(Q:VK):Prop
 |mk (v:_) (q0_:σ[i]? =some (some v)) (q1_:Q v H):aR7 i σ H Q
def aXx(i:Nat):TE:=λσ H Q=>aR7 i σ H Q
def tC(v:V):TE:=λ_ H Q=>Q v H
def fK{x:Str}(hN:X.N[i]? =some x)(hv:Vis X.env.scope x)(hd:ND x:=by decide)(hcd:NC x:=by decide):PE X (.Name x pos) (aXx i):=by
 intro pins s σ H Q I h;obtain⟨v,e,h⟩:=h;obtain⟨m,hn,hl⟩:=I.loc;obtain⟨u,r,l⟩:=hl i x v hN e hv;have fin:EP X pins σ Q u s:=⟨v,H,I,r,h⟩;rcases l with ⟨hk,hm⟩|⟨hk,c,hc,hcell⟩
 ·exact Xi (wpAny_loadName_local I.ok.kind hk hn hm fin) hd
 ·rcases hk with hk|hk
  ·exact Xi (wpAny_loadName_cell I.ok.kind hk hc hcell fin) hd
  ·exact Xi (wpAny_loadName_free I.ok.kind hk hc hcell fin hcd) hd
def cU{i j pos}:PE X (.Constant (.int i) j pos) (tC (.int i)):=λ_ _ _ H _ I h=>wpAny_Constant_int ⟨.int i,H,I.tok _,⟨_,rfl⟩,h⟩
def aW0{b j pos}:PE X (.Constant (.bool b) j pos) (tC (.bl b)):=λ_ _ _ H _ I h=>Constant_bool ⟨.bl b,H,I,rfl,h⟩
def aUd{j pos}:PE X (.Constant .none j pos) (tC .non):=λ_ _ _ H _ I h=>Constant_none ⟨.non,H,I,rfl,h⟩
def jD{x j pos}:PE X (.Constant (.str x) j pos) (tC (.str x)):=λ_ _ _ H _ I h=>Calls.Constant_str ⟨.str x,H,I.tok _,⟨_,rfl⟩,h⟩
def Gl(X:Cx)(x:Str):Prop:=X.env.kindOf x=some .globalImplicit
def vA{E:#v[a]}{pins:#v[4]}{s:Ae}{σ:St}{H:Hp}{x:Str}{Q:#v[a]}(I:#v[1])(hg:Gl X x)(hm:X.mg x=some u)(h:Q u s)
  (hd:ND x:=by decide):Au #v[b] X.A (eval (.Name x pos) X.env) Q E s:=
 Po I.ok.kind hg (Calls.loadGlobal_global (by rw[I.ok.glob];exact I.mod.glob.keeps I.bk) hm h) hd
def wV{E:#v[a]}{pins:#v[4]}{s:Ae}{σ:St}{H:Hp}{x:Str}{Q:#v[a]}(I:#v[1])(hg:Gl X x)(hm:X.mg x=none)(hv:Gc x=some u)(h:Q u s)
  (hn:x≠"__name__":=by decide) (hd:ND x:=by decide):Au #v[b] X.A (eval (.Name x pos) X.env) Q E s:=by
 obtain⟨mb,h1,h2⟩:=I.mod.blt;exact Po I.ok.kind hg (Calls.loadGlobal_builtin (by rw[I.ok.glob];exact I.mod.glob.keeps I.bk) hm (by rw[I.ok.blt];exact h1.keeps I.bk) ((h2 x hn).trans hv) h) hd
def aIp{x:Str}{v:V}(hg:Gl X x)(hm:X.mg x=some u)(r:RelV v u)(hd:ND x:=by decide):PE X (.Name x pos) (tC v):=
 λ_ _ _ H _ I h=>vA I hg hm ⟨v,H,I,r,h⟩ hd
def aIm{x:Str}{v:V}(hg:Gl X x)(hm:X.mg x=none)(hv:Gc x=some u)(r:RelV v u)(hn:x≠"__name__":=by decide)(hd:ND x:=by decide):PE X (.Name x pos) (tC v):=
 λ_ _ _ H _ I h=>wV I hg hm hv ⟨v,H,I,r,h⟩ hn hd
variable {a b:Bw}{ta tb:TE}{pos:Pos}
def PC(X:Cx)(op:Ss)(a b:Bw)(t:TE):Prop:=
 ∀(pins:#v[4])(s:Ae)(σ:St)(H:Hp)(Q:VK),#v[1]->t σ H Q->
  Au #v[b] X.A (eval a X.env) (λv s₁=>Au #v[b] X.A (eval b X.env) (λu s₂=>Au #v[b] X.A (Ed op v u) (EP X pins σ Q) X.xe s₂) X.xe s₁) X.xe s
def aMy(b:Bw){op:Ss}(h:op≠.In)(h2:op≠.NotIn):Gu op b=false:=by
 have e1:(op==CmpOp.In)=false:=by cases op<;>first|rfl|exact absurd rfl h
 have e2:(op==Ya)=false:=by cases op<;>first|rfl|exact absurd rfl h2
 cases b<;>simp[Gu,e1,e2]
def aSw(ta:TE):TE:=λσ H Q=>ta σ H λx H1=>Q (.bl (!decide (x=.non))) H1
def RelV.none_iff{x:V}{v:Value}(r:RelV x v):(v==Cb)=decide (x=.non):=by
 cases x with
 |non=>cases r;rfl
 |bl _=>cases r;rfl
 |int _=>obtain⟨t,rfl⟩:=r;rfl
 |str _=>obtain⟨t,rfl⟩:=r;rfl
 |byt _=>obtain⟨t,rfl⟩:=r;rfl
 |flt _=>obtain⟨t,rfl⟩:=r;rfl
 |ref _=>cases r;rfl
 |ty _=>cases r;rfl
def aQd{j pos'}(ha:PE X a ta):PC X .IsNot a (.Constant .none j pos') (aSw ta):=by
 intro pins s σ H Q I h;refine thn (ha pins s σ H _ I h) λv s1 ⟨x,H1,I1,r1,q1⟩=>?_;exact Constant_none (isnot_none_gen ⟨.bl _,H1,I1,by rw[r1.none_iff];rfl,q1⟩)
inductive aV3(x:V)(H:Hp)(Q:Bool->Hp->Prop):Prop
 |mk (c:_) (q0_:x=.bl c) (q1_:Q c H):aV3 x H Q
def rBl(x:V)(H:Hp)(Q:Bool->Hp->Prop):Prop:=aV3 x H Q
def tB(t:TE):TT:=λσ H Q=>t σ H λx H1=>rBl x H1 Q
def aUi{op:Ss}{t:TE}(h:PC X op a b t)(h1:Gu op b=false:=by first|exact aMy _ ⋯ ⋯|rfl):PT X (.Compare a [op] [b] pos) (tB t):=by
 intro pins s σ H Q I hw;refine Ur (thn (h pins s σ H _ I hw) λv s1 h1=>thn h1 λu s2 h2=>thn h2 λc s3 ⟨x,H1,I1,r1,q1⟩=>?_) h1;obtain⟨d,rfl,q⟩:=q1;cases r1;exact De ⟨H1,I1,q⟩
def aUk{e:Bw}{t:TE}(h:PE X e t)(he:∀whole,Wp e X.env whole=(do let v<-whole;Lr e.pos;holding [v] (truthy v)):=by intro _;rfl):PT X e (tB t):=by
 intro pins s σ H Q I hw;refine isTrue_plain (thn (h pins s σ H _ I hw) λv s1 ⟨x,H1,I1,r1,q1⟩=>?_) (he _);obtain⟨d,rfl,q⟩:=q1;cases r1;exact De ⟨H1,I1,q⟩
variable {tA tB':TT}{rest:List Bw}
def aZb(t u:TT):TT:=λσ H Q=>t σ H λc H1=>if c=true then u σ H1 Q else Q false H1
def tOr(t u:TT):TT:=λσ H Q=>t σ H λc H1=>if c=true then Q true H1 else u σ H1 Q
def aZh(t:TT):TT:=λσ H Q=>t σ H λc H1=>Q (!c) H1
def aQn(ha:PT X a tA):PW X (.BoolOp .And [a] pos) tA:=by
 intro wh pins s σ H Q I h;refine isTrue_and (thn (ha pins s σ H Q I h) λc s1 e=>?_);cases c with
 |true=>exact isTrue_and_nil e
 |false=>exact e
def aUm(ha:PT X a tA):PW X (.BoolOp .Or [a] pos) tA:=by
 intro wh pins s σ H Q I h;refine isTrue_or (thn (ha pins s σ H Q I h) λc s1 e=>?_);cases c with
 |false=>exact isTrue_or_nil e
 |true=>exact e
def aUl(ha:PT X a tA)(hb:PW X (.BoolOp .And (b::rest) pos) tB'):PW X (.BoolOp .And (a::b::rest) pos) (aZb tA tB'):=by
 intro wh pins s σ H Q I h;refine isTrue_and (thn (ha pins s σ H _ I h) λc s1 ⟨H1,I1,q1⟩=>?_);cases c with
 |true=>exact hb wh pins s1 σ H1 Q I1 q1
 |false=>exact⟨H1,I1,q1⟩
def aW5(ha:PT X a tA)(hb:PW X (.BoolOp .Or (b::rest) pos) tB'):PW X (.BoolOp .Or (a::b::rest) pos) (tOr tA tB'):=by
 intro wh pins s σ H Q I h;refine isTrue_or (thn (ha pins s σ H _ I h) λc s1 ⟨H1,I1,q1⟩=>?_);cases c with
 |true=>exact⟨H1,I1,q1⟩
 |false=>exact hb wh pins s1 σ H1 Q I1 q1
def aUj(ha:PT X a tA):PT X (.UnaryOp .Not a pos) (aZh tA):=by
 intro pins s σ H Q I h;exact isTrue_not (ha pins s σ H (λc H1=>Q (!c) H1) I h)
def aXo(ta tb:TE):TE:=λσ H Q=>ta σ H λx H1=>∃c,x=.bl c/\if c=true then tb σ H1 Q else Q (.bl false) H1
def aZi(ta tb:TE):TE:=λσ H Q=>ta σ H λx H1=>∃c,x=.bl c/\if c=true then Q (.bl true) H1 else tb σ H1 Q
def aXv(ta:TE):TE:=λσ H Q=>ta σ H λx H1=>∃c,x=.bl c/\Q (.bl (!c)) H1
def aUf{op}{t:TE}(h:PE X a t):PE X (.BoolOp op [a] pos) t:=λpins s σ H Q I hw=>BoolOp_one (h pins s σ H Q I hw)
def aT9(ha:PE X a ta)(hb:PE X (.BoolOp .And (b::rest) pos) tb):PE X (.BoolOp .And (a::b::rest) pos) (aXo ta tb):=by
 intro pins s σ H Q I h;refine BoolOp_and (thn (ha pins s σ H _ I h) λv s1 ⟨x,H1,I1,r1,q1⟩=>?_);obtain⟨c,rfl,q1⟩:=q1;cases r1;refine De ?_;cases c with
 |true=>exact hb pins s1 σ H1 Q I1 q1
 |false=>exact⟨.bl false,H1,I1,rfl,q1⟩
def aW2(ha:PE X a ta)(hb:PE X (.BoolOp .Or (b::rest) pos) tb):PE X (.BoolOp .Or (a::b::rest) pos) (aZi ta tb):=by
 intro pins s σ H Q I h;refine BoolOp_or (thn (ha pins s σ H _ I h) λv s1 ⟨x,H1,I1,r1,q1⟩=>?_);obtain⟨c,rfl,q1⟩:=q1;cases r1;refine De ?_;cases c with
 |false=>exact hb pins s1 σ H1 Q I1 q1
 |true=>exact⟨.bl true,H1,I1,rfl,q1⟩
def aUe(ha:PE X a ta):PE X (.UnaryOp .Not a pos) (aXv ta):=by
 intro pins s σ H Q I h;refine UnaryOp_ (thn (ha pins s σ H _ I h) λv s1 ⟨x,H1,I1,r1,q1⟩=>?_);obtain⟨c,rfl,q1⟩:=q1;cases r1;exact not_of (De ⟨.bl (!c),H1,I1,rfl,q1⟩)
end
def SqL(K:Ab)(H:Hp)(a:Addr)(xs:List V):Prop:=
 Rd H a (.lst xs)∨
  ∃(o:Obj)(its:Array Value)(n:Nat),K.lookup a=some o/\o.cls=.type "list"/\o.dict=none/\o.data=.seq its n/\its.size<=sizeLine/\Vals xs its.toList
def SqT(K:Ab)(H:Hp)(a:Addr)(xs:List V):Prop:=
 Rd H a (.tup xs)∨
  ∃(o:Obj)(its:Array Value)(n:Nat),K.lookup a=some o/\o.cls=.type "tuple"/\o.data=.seq its n/\its.size<=sizeLine/\Vals xs its.toList
def aYw:Value->Option V
 |.none=>some .non
 |.bool b=>some (.bl b)
 |.int i _=>some (.int i)
 |.str x _=>some (.str x)
 |.bytes b _=>some (.byt b)
 |.float b _=>some (.flt b)
 |.ref a=>some (.ref a)
 |.type n=>some (.ty n)
 |_=>none
def RelV.abs{x:V}(r:RelV x u):aYw u=some x:=by
 cases x with
 |non=>cases r;rfl
 |bl _=>cases r;rfl
 |int _=>obtain⟨t,rfl⟩:=r;rfl
 |str _=>obtain⟨t,rfl⟩:=r;rfl
 |byt _=>obtain⟨t,rfl⟩:=r;rfl
 |flt _=>obtain⟨t,rfl⟩:=r;rfl
 |ref _=>cases r;rfl
 |ty _=>cases r;rfl
def RelV.inj{x y:V}(r:RelV x u)(q:RelV y u):x=y:=Bq (r.abs.symm.trans q.abs)
def Vals.inj:∀{xs ys:List V}{us:List Value},Vals xs us->Vals ys us->xs=ys
 |_,_,_,.nil,.nil=>rfl
 |_,_,_,.cons r t,.cons r' t'=>by rw[r.inj r',Vals.inj t t']
section
variable {X:Cx}{pins:#v[4]}{σ:St}{H:Hp}{s:Ae}{a:Addr}{xs ys:List V}
def SqL.of{K:Ab}(h:H a=some (.lst xs)):SqL K H a xs:=.inl (.inl h)
def SqT.of{K:Ab}(h:H a=some (.tup xs)):SqT K H a xs:=.inl (.inl h)
def Inv.list(I:#v[1])(h:SqL X.K H a xs):∃its:List Value,Vals xs its/\PlainL s.heap a its.toArray/\xs.length<=sizeLine:=by
 rcases h with h|⟨o,its,n,hk,hc,hd,hs,hz,r⟩
 ·obtain⟨z,its,n,r,e⟩:=h.ok I.hok;exact⟨its,r,⟨_,n,e,rfl,rfl,rfl⟩,z⟩
 ·refine⟨its.toList,r,⟨o,n,I.kIn a o hk,hc,hd,by simpa using hs⟩,?_⟩;have e:=r.length;simp only[Aw]at e
  lia
def Inv.tuple(I:#v[1])(h:SqT X.K H a xs):∃its:List Value,Vals xs its/\IsTup s.heap a its.toArray/\xs.length<=sizeLine:=by
 rcases h with h|⟨o,its,n,hk,hc,hs,hz,r⟩
 ·obtain⟨z,its,r,p⟩:=h.ok I.hok;exact⟨its,r,p,z⟩
 ·refine⟨its.toList,r,⟨o,I.kIn a o hk,hc,n,by simpa using hs⟩,?_⟩;have e:=r.length;simp only[Aw]at e
  lia
def Inv.list_inj(I:#v[1])(h:SqL X.K H a xs)(h':SqL X.K H a ys):xs=ys:=by
 obtain⟨its,r,⟨o,n,e,_,_,d⟩,_⟩:=I.list h;obtain⟨its',r',⟨o',n',e',_,_,d'⟩,_⟩:=I.list h';rw[e]at e';cases e';rw[d]at d';injection d' with d1 _
 have:its=its':=by simpa using congrArg Xf d1
 subst this;exact r.inj r'
def Inv.tuple_inj(I:#v[1])(h:SqT X.K H a xs)(h':SqT X.K H a ys):xs=ys:=by
 obtain⟨its,r,⟨o,e,_,n,d⟩,_⟩:=I.tuple h;obtain⟨its',r',⟨o',e',_,n',d'⟩,_⟩:=I.tuple h';rw[e]at e';cases e';rw[d]at d';injection d' with d1 _
 have:its=its':=by simpa using congrArg Xf d1
 subst this;exact r.inj r'
end
abbrev Cx.wish(X:Cx)(E:#v[a]):Cx:={X with xe:=E}
abbrev Cx.nox(X:Cx):Cx:=X.wish λ_ _=>False
def Cx.Ok.wish{X:Cx}(ok:X.Ok)(E:#v[a]):(X.wish E).Ok:=
 ⟨ok.mod,ok.kind,ok.glob,ok.blt,ok.above,ok.inj,ok.has,ok.cab,ok.hd,ok.frames,ok.stk,ok.exf,ok.bs,ok.bsz,ok.noex,ok.exfs,ok.funs,ok.frf⟩
def Cx.Ok.unwish{X:Cx}{E:#v[a]}(ok:(X.wish E).Ok):X.Ok:=
 ⟨ok.mod,ok.kind,ok.glob,ok.blt,ok.above,ok.inj,ok.has,ok.cab,ok.hd,ok.frames,ok.stk,ok.exf,ok.bs,ok.bsz,ok.noex,ok.exfs,ok.funs,ok.frf⟩
section
variable {X:Cx}{pins:#v[4]}{σ:St}{H:Hp}{s:Ae}{E:#v[a]}
def Inv.wish(I:#v[1])(E:#v[a]):Inv (X.wish E) pins σ H s:=⟨I.ok.wish E,I.os,I.bare,I.base,I.loc,I.cell,I.free,I.freeC,I.pin,I.hok,I.len⟩
def Inv.unwish(I:Inv (X.wish E) pins σ H s):#v[1]:=⟨I.ok.unwish,I.os,I.bare,I.base,I.loc,I.cell,I.free,I.freeC,I.pin,I.hok,I.len⟩
def SP.unwish{D:Ends}{f:Flow}{s':Ae}(h:SP (X.wish E) pins D f s'):SP X pins D f s':=by
 cases f with
 |next=>obtain⟨σ',H',I,q⟩:=h;exact⟨σ',H',I.unwish,q⟩
 |brk=>obtain⟨σ',H',I,q⟩:=h;exact⟨σ',H',I.unwish,q⟩
 |cont=>obtain⟨σ',H',I,q⟩:=h;exact⟨σ',H',I.unwish,q⟩
 |ret u=>obtain⟨v,σ',H',I,r,q⟩:=h;exact⟨v,σ',H',I.unwish,r,q⟩
def PSs.nox{st:List Stmt}{t:TS}(h:PSs X.nox st t):PSs X st t:=λpins s σ H D I hw=>
 Dc (h pins s σ H D (I.wish _) hw) (λ_ _ q=>q.unwish) λ_ _ z=>Dw z
end
section
variable {X:Cx}{st:Stmt}{rest:List Stmt}{t u:TS}{e:Bw}{te:TE}{pos:Pos}
def aXu:TS:=λD σ H=>D.nx σ H
def aZj(t u:TS):TS:=λD σ H=>t {D with nx:=u D} σ H
def nF:PSs X [] aXu:=λ_ _ σ H _ I h=>Mw ⟨σ,H,I,h⟩
def bC(h1:PS X st t)(h2:PSs X rest u):PSs X (st::rest) (aZj t u):=by
 intro pins s σ H D I h;refine Yg (thn (h1 pins s σ H {D with nx:=u D} I h) λf s1 q=>?_);cases f with
 |next=>
  obtain⟨σ',H',I',q⟩:=q;exact h2 pins s1 σ' H' D I' q
 |ret v=>exact q
 |brk=>exact q
 |cont=>exact q
def cI(h1:PS X st t):PSs X [st] t:=by
 intro pins s σ H D I h;refine Yg (thn (h1 pins s σ H D I h) λf s1 q=>?_);cases f with
 |next=>exact Mw q
 |ret v=>exact q
 |brk=>exact q
 |cont=>exact q
def Inv.quiet{pins:#v[4]}{σ:St}{H:Hp}{s:Ae}(I:#v[1]):interactive X.env=false:=by simp[interactive,I.ok.kind]
def aXs(te:TE):TS:=λD σ H=>te σ H λ_ H1=>D.nx σ H1
def lG(he:PE X e te)(hs:Dt e none pos.line X.env=pure false:=by rfl):PS X (.Expr e pos) (aXs te):=by
 intro pins s σ H D I h;exact wpAny_Expr_any (thn (he pins s σ H _ I h) λv s1 ⟨x,H1,I1,r1,q1⟩=>⟨σ,H1,I1,q1⟩) I.quiet hs
def aU2(te:TE):TS:=λD σ H=>te σ H D.rt
def rG(he:PE X e te):PS X (.Return (some e) pos) (aU2 te):=by
 intro pins s σ H D I h;exact wpAny_Return_some (thn (he pins s σ H _ I h) λv s1 ⟨x,H1,I1,r1,q1⟩=>⟨x,σ,H1,I1,r1,q1⟩)
def aZf(c:TT)(t u:TS):TS:=λD σ H=>c σ H λb H1=>if b=true then t D σ H1 else u D σ H1
def vK{c:Bw}{a b:List Stmt}{tc:TT}(hc:PT X c tc)(ha:PSs X a t)(hb:PSs X b u):PS X (.If c a b pos) (aZf tc t u):=by
 intro pins s σ H D I h;refine wpAny_If (thn (hc pins s σ H _ I h) λd s1 ⟨H1,I1,q1⟩=>?_);cases d with
 |true=>exact ha pins s1 σ H1 D I1 q1
 |false=>exact hb pins s1 σ H1 D I1 q1
def aU1:TS:=λ_ _ _=>False
def aFn:PS X st aU1:=λ_ _ _ _ _ _ h=>h.elim
end
abbrev TG:=V->St->Hp->(St->Hp->Prop)->Prop
abbrev TGs:=List V->St->Hp->(St->Hp->Prop)->Prop
def PG(X:Cx)(target:Bw)(t:TG):Prop:=
 ∀(pins:#v[4])(s:Ae)(σ:St)(H:Hp)(v:V)(u:Value)(Q:St->Hp->Prop),#v[1]->RelV v u->t v σ H Q->
  Au #v[b] X.A (assign target X.env u) (λ_ s'=>∃σ' H',Inv X pins σ' H' s'/\Q σ' H') X.xe s
def PGs(X:Cx)(ts:List Bw)(t:TGs):Prop:=
 ∀(pins:#v[4])(s:Ae)(σ:St)(H:Hp)(vs:List V)(us:List Value)(Q:St->Hp->Prop),#v[1]->Vals vs us->t vs σ H Q->
  Au #v[b] X.A (assignInOrder ((Ha ts X.env).map (·.2)) us) (λ_ s'=>∃σ' H',Inv X pins σ' H' s'/\Q σ' H') X.xe s
abbrev aS9:=V->V->V->Hp->(Hp->Prop)->Prop
def aS7(X:Cx)(t:aS9):Prop:=
 ∀(pins:#v[4])(s:Ae)(σ:St)(H:Hp)(o i v:V)(ov iv u:Value)(Q:Hp->Prop),#v[1]->RelV o ov->RelV i iv->RelV v u->t o i v H Q->
  Au #v[b] X.A (Tf ov iv u) (λ_ s'=>∃H',Inv X pins σ H' s'/\Q H') X.xe s
variable {pos:Pos}
def rA(i:Nat):TG:=λv σ H Q=>Q (σ.set i (some v)) H
def bW{x:Str}(hN:X.N.Nodup)(hi:X.N[i]? =some x)(hx:Loc X.env.scope x)(hf:FL X x:=by trivial):PG X (.Name x pos) (rA i):=by
 intro pins s σ H v u Q I r h;exact Pr (aA9 I hN hi hx r (λs' I'=>⟨_,H,I',h⟩) hf)
def aWl:TGs:=λvs σ H Q=>vs=[]/\Q σ H
def aSi(t:TG)(u:TGs):TGs:=λvs σ H Q=>∃v r,vs=v::r/\t v σ H λσ' H'=>u r σ' H' Q
def zN:PGs X [] aWl:=by
 intro pins s σ H vs us Q I r h;obtain⟨e,h⟩:=h;subst e;cases r;exact assignInOrder_nil ⟨σ,H,I,h⟩
def mH{e:Bw}{es:List Bw}{t:TG}{u:TGs}(h1:PG X e t)(h2:PGs X es u)
  (hs:(Ha (e::es) X.env).map (·.2)=assign e X.env::(Ha es X.env).map (·.2):=by rfl):PGs X (e::es) (aSi t u):=by
 intro pins s σ H vs us Q I r h;obtain⟨v,vr,e1,h⟩:=h;subst e1;cases r with
 |cons r rr=>
  rw[hs];refine assignInOrder_cons (thn (h1 pins s σ H _ _ _ I r h) λ_ s1 ⟨σ1,H1,I1,q1⟩=>?_);exact h2 pins s1 σ1 H1 _ _ Q I1 rr q1
inductive aRu(K:Ab)(n:Nat)(t:TGs)(v:V)(σ:St)(H:Hp)(Q:(St->Hp->Prop)):Prop
 |mk (a xs:_) (q0_:v=.ref a) (q1_:SqT K H a xs) (q2_:xs.length=n) (q3_:t xs σ H Q):aRu K n t v σ H Q
def aWm(K:Ab)(n:Nat)(t:TGs):TG:=λv σ H Q=>aRu K n t v σ H Q
def aD4{es:List Bw}{t:TGs}{n:Nat}(hc:X.calm=true)(h:PGs X es t)
  (hn:(Ha es X.env).length=n:=by rfl) (hst:(Ha es X.env).findIdx? (·.1)=none:=by rfl):PG X (.Tuple es k pos) (aWm X.K n t):=by
 intro pins s σ H v u Q I r hw;obtain⟨a,xs,e1,hq,hl,hw⟩:=hw;subst e1;cases r;obtain⟨its,rv,ht,hz⟩:=I.tuple hq;refine assign_Tuple_tuple (I.ok.hd hc) ht (by simp[hn, <-hl,rv.length]) hst λh' hx=>?_;have I1:Inv X pins σ H {s with heap:=h'}:=I.kept (t':=s.toks) λb o e=>hx b o (Be (Ar e)) e;exact h pins _ σ H xs _ Q I1 (by simpa using rv) hw
def aYy(to ti:TE)(t:aS9):TG:=λv σ H Q=>to σ H λo H1=>ti σ H1 λi H2=>t o i v H2 λH3=>Q σ H3
def aA1{o i:Bw}{to ti:TE}{t:aS9}(ho:PE X o to)(hi:PE X i ti)(hs:aS7 X t)
  (ha:∀v,assign (.Subscript o i pos) X.env v=(do
   let ov<-holding [v] (eval o X.env)
   let iv<-holding [v,ov] (eval i X.env)
   Lr pos
   holding [v,ov,iv] (Tf ov iv v)
   release [v,ov,iv] []):=by intro _;rfl):PG X (.Subscript o i pos) (aYy to ti t):=by
 intro pins s σ H v u Q I r h
 rw[ha]
 refine Aa (Cg (thn (ho pins s σ H _ I h) λov s1 ⟨x,H1,I1,r1,q1⟩=>?_))
 refine Aa (Cg (thn (hi pins s1 σ H1 _ I1 q1) λiv s2 ⟨y,H2,I2,r2,q2⟩=>?_))
 refine Aa (Iy (Aa (Cg (thn (hs pins s2 σ H2 x y v ov iv u _ I2 r1 r2 r q2) λ_ s3 ⟨H3,I3,q3⟩=>?_))))
 exact wpAny_release ⟨σ,H3,I3,q3⟩
def aKw(te:TE)(g:TG):TS:=λD σ H=>te σ H λx H1=>g x σ H1 D.nx
def aD7{tg e:Bw}{te:TE}{g:TG}(he:PE X e te)(hg:PG X tg g)(hs:Tc [tg] e pos.line X.env=pure false:=by rfl)(hw:Td [tg] e X.env=pure none:=by rfl)
  (h1:(Ha [tg] X.env).map (·.2)=[assign tg X.env]:=by rfl):PS X (.Assign [tg] e pos) (aKw te g):=by
 intro pins s σ H D I h;refine wpAny_Assign_stores (thn (he pins s σ H _ I h) λv s1 ⟨x,H1,I1,r1,q1⟩=>?_) hs hw;rw[h1];exact thn (hg pins s1 σ H1 x v _ I1 r1 q1) λ_ s2 q=>q
def uA{x:Str}{e:Bw}{te:TE}{pos':Pos}(hN:X.N.Nodup)(hi:X.N[i]? =some x)(hx:Loc X.env.scope x)(he:PE X e te)(hs:Dt e (some (.Name x pos')) pos.line X.env=pure false:=by rfl)(hf:FL X x:=by trivial):
  PS X (.Assign [.Name x pos'] e pos) (aKw te (rA i)):=by
 intro pins s σ H D I h;refine wpAny_Assign_Name (thn (he pins s σ H _ I h) λv s1 ⟨y,H1,I1,r1,q1⟩=>?_) hs;exact aA9 I1 hN hi hx r1 (λs2 I2=>⟨_,H1,I2,q1⟩) hf
structure It where
 go:Nat->Hp->Prop
 yld:Nat->Hp->V->Hp->Prop
 stop:Nat->Hp->Prop
def aC5(X:Cx)(pins:#v[4])(H:Hp)(b:Addr):Prop:=
 H b=none/\b≠X.env.locals/\b∉X.fs/\(b∈X.ex∨X.s₀.heap.objs.size<=b)/\(∀x c,X.env.cells.lookup x=some c->c≠b)/\∀p∈X.pn++pins,p.1≠b
def Inv.fpOk{X:Cx}{pins:#v[4]}{σ:St}{H H':Hp}{s:Ae}(I:#v[1])(hb:#v[0]<=b)(hn:H' b=none):aC5 X pins H' b:=by
 refine⟨hn,Ma (Bf I.lt hb),I.nofs hb,.inr (Bd I.sz hb),λx c e z=>?_,λp hp z=>?_⟩
 ·obtain⟨v,q⟩:=I.cell x c e;exact absurd (Bf q.lt (by rw[z];exact hb)) (Dr _)
 ·exact absurd (Bf (Ar (I.pin p hp).1) (by rw[z];exact hb)) (Dr _)
structure Turn(P:Ap)(w:Bh)(K:Ab)(tg:Bw)(J:It)(fp:List Addr)(it:Addr)(tn:Nat->Heap->Prop):Prop where
 mem:it∈fp
 obj:∀i h,tn i h->∀b∈fp,∃o,h.get? b=some o/\∀v,o.data≠.cell v
 keep:∀i h h',tn i h->(∀b∈fp,∀o,h.get? b=some o->h'.get? b=some o)->tn i h'
 item:∀(X:Cx),X.prog=P->X.w=w->X.K=K->X.calm=true->∀(i:Nat)(pins:#v[4])(s:Ae)(σ:St)(H:Hp)(E:#v[a]),#v[1]->(∀b∈fp,aC5 X pins H b)->tn i s.heap->J.go i H->
  Au (model P w) X.A (Ox (.ref it)) (λr s1=>∃u,r=some u/\
   Au (model P w) X.A (Nb tg (.ref it) u) (λ_ s2=>∃x H',Inv X pins σ H' s2/\RelV x u/\J.yld i H x H'/\tn (i+1) s2.heap/\∀b∈fp,H' b=none) E s1) E s
 done:∀(X:Cx),X.prog=P->X.w=w->X.K=K->X.calm=true->∀(i:Nat)(pins:#v[4])(s:Ae)(σ:St)(H:Hp)(E:#v[a]),#v[1]->(∀b∈fp,aC5 X pins H b)->tn i s.heap->J.stop i H->
  Au (model P w) X.A (Ox (.ref it)) (λr s1=>r=none/\Inv X pins σ H s1) E s
 self:∀(A:Bl)(i:Nat)(s:Ae)(Q:#v[a])(E:#v[a]),tn i s.heap->Q (.ref it) s->Au (model P w) A (Zb (.ref it)) Q E s
abbrev TI:=St->Hp->(It->Hp->Prop)->Prop
def PIE(X:Cx)(pins:#v[4])(σ:St)(tg:Bw)(R:It->Hp->Prop)(itv:Value)(s2:Ae):Prop:=
 ∃(it:Addr)(fp:List Addr)(tn:Nat->Heap->Prop)(J:It)(H':Hp),itv=.ref it/\Inv X pins σ H' s2/\Turn X.prog X.w X.K tg J fp it tn/\tn 0 s2.heap/\(∀b∈fp,aC5 X pins H' b)/\R J H'
def PI(X:Cx)(tg iter:Bw)(wi:TI):Prop:=
 ∀(pins:#v[4])(s:Ae)(σ:St)(H:Hp)(R:It->Hp->Prop),#v[1]->wi σ H R->
  Au #v[b] X.A (eval iter X.env) (λv s1=>Au #v[b] X.A (Zb v) (PIE X pins σ tg R) X.xe s1) X.xe s
def aMi {M : Tt} {A : Bl} {E : Value → Ae → Prop} {s : Ae} {tg : Bw} {it : Addr} {o : Obj} {n : String} {vs : Array Value} {Q : Unit → Ae → Prop} (ho : s.heap.get? it = some o) (hc : o.cls = .type n) (hd : o.data = .fields vs)
    (hn : ["enumerate", "zip", "dict_itemiterator", "dict_reverseitemiterator", "odict_iterator", "itertools.zip_longest", "itertools.pairwise"].contains n = false) (hQ : Q () s) : Au M A (Nb tg (.ref it) u) Q E s := by
  unfold Nb
  cases tg <;> first
    | exact Ad hQ
    | (cases u <;> first
        | exact Ad hQ
        | (refine Aa (wpAny_load ho ?_)
           rw [hc, hd]
           show Au M A (if (["enumerate", "zip", "dict_itemiterator", "dict_reverseitemiterator", "odict_iterator", "itertools.zip_longest", "itertools.pairwise"].contains n && vs[0]? == some (My _)) = true then _ else _) Q E s
           rw [if_neg (by intro h; rw [hn, Dh] at h; cases h)]
           exact Ad hQ))
def Itl(K:Ab)(a:Addr):It:=
 ⟨λi H=>∃xs x,SqL K H a xs/\xs[i]? =some x,λi H x H'=>H'=H/\∀xs,SqL K H a xs->xs[i]? =some x,λi H=>∃xs,SqL K H a xs/\xs.length<=i⟩
def Itt(K:Ab)(a:Addr):It:=
 ⟨λi H=>∃xs x,SqT K H a xs/\xs[i]? =some x,λi H x H'=>H'=H/\∀xs,SqT K H a xs->xs[i]? =some x,λi H=>∃xs,SqT K H a xs/\xs.length<=i⟩
def Itr(lo:Int)(n:Nat):It:=⟨λi _=>i<n,λi H x H'=>H'=H/\x=.int (lo+i),λi _=>n<=i⟩
def aK1{P:Ap}{w:Bh}{K:Ab}{tg:Bw}(a it:Addr):Turn P w K tg (Itl K a) [it] it (λi h=>h.IsListIter it a i) where
 mem:=by simp
 obj:=λi h st b hb=>by
  have e:b=it:=by simpa using hb
  subst e;obtain⟨o,e,c,d⟩:=st;exact⟨o,e,λv z=>by rw[d]at z;cases z⟩
 keep:=λi h h' st k=>st.at λo e=>k it (by simp) o e
 item:=by
  intro X hP hw hK hc i pins s σ H E I hf st hg;subst hP hw hK;obtain⟨xs,x,hq,hx⟩:=hg;obtain⟨its,rv,p,hz⟩:=I.list hq;obtain⟨u,hu,ru⟩:=rv.get hx;obtain⟨f0,f1,f2,f3,f4,f5⟩:=hf it (by simp);refine wpAny_pyNext_list_item st p.isList (x:=u) (by simpa using hu) λh' st' sb=>?_;have I1:Inv X pins σ H {s with heap:=h'}:=I.turned (t':=s.toks) (λb o hb e=>(sb.2 b hb).trans e) f0 f1 f3 f4 f5;obtain⟨o,e,c,d⟩:=id st';exact⟨u,rfl,aMi (s:={s with heap:=h'}) e c d ⋯ ⟨x,H,I1,ru,⟨rfl,λys hy=>by rw[I.list_inj hy hq];exact hx⟩,st',λb hb=>(hf b hb).1⟩⟩
 done:=by
  intro X hP hw hK hc i pins s σ H E I hf st hg;subst hP hw hK;obtain⟨xs,hq,hx⟩:=hg;obtain⟨its,rv,p,hz⟩:=I.list hq;obtain⟨f0,f1,f2,f3,f4,f5⟩:=hf it (by simp);have hl:=rv.length;exact wpAny_pyNext_list_end (I.ok.hd hc) st p.isList (by simp;lia) λh' eb=>⟨rfl,I.turned (t':=s.toks) (λb o hb e=>eb b o hb e) f0 f1 f3 f4 f5⟩
 self:=λ_ _ _ _ _ st h=>wpAny_pyIter_listiter st h
def aHs{P:Ap}{w:Bh}{K:Ab}{tg:Bw}(a it:Addr):Turn P w K tg (Itt K a) [it] it (λi h=>h.IsTupleIter it a i) where
 mem:=by simp
 obj:=λi h st b hb=>by
  have e:b=it:=by simpa using hb
  subst e;obtain⟨o,e,c,d⟩:=st;exact⟨o,e,λv z=>by rw[d]at z;cases z⟩
 keep:=λi h h' st k=>st.at λo e=>k it (by simp) o e
 item:=by
  intro X hP hw hK hc i pins s σ H E I hf st hg;subst hP hw hK;obtain⟨xs,x,hq,hx⟩:=hg;obtain⟨its,rv,p,hz⟩:=I.tuple hq;obtain⟨u,hu,ru⟩:=rv.get hx;obtain⟨f0,f1,f2,f3,f4,f5⟩:=hf it (by simp);refine wpAny_pyNext_tuple_item st (show s.heap.IsTuple a its.toArray from p) (x:=u) (by simpa using hu) λh' st' sb=>?_;have I1:Inv X pins σ H {s with heap:=h'}:=I.turned (t':=s.toks) (λb o hb e=>(sb.2 b hb).trans e) f0 f1 f3 f4 f5;obtain⟨o,e,c,d⟩:=id st';exact⟨u,rfl,aMi (s:={s with heap:=h'}) e c d ⋯ ⟨x,H,I1,ru,⟨rfl,λys hy=>by rw[I.tuple_inj hy hq];exact hx⟩,st',λb hb=>(hf b hb).1⟩⟩
 done:=by
  intro X hP hw hK hc i pins s σ H E I hf st hg;subst hP hw hK;obtain⟨xs,hq,hx⟩:=hg;obtain⟨its,rv,p,hz⟩:=I.tuple hq;obtain⟨f0,f1,f2,f3,f4,f5⟩:=hf it (by simp);have hl:=rv.length;exact wpAny_pyNext_tuple_end (I.ok.hd hc) st (show s.heap.IsTuple a its.toArray from p) (by simp;lia) λh' eb=>⟨rfl,I.turned (t':=s.toks) (λb o hb e=>eb b o hb e) f0 f1 f3 f4 f5⟩
 self:=λ_ _ _ _ _ st h=>wpAny_pyIter_tupleiter st h
def aHr{P:Ap}{w:Bh}{K:Ab}{tg:Bw}(it:Addr)(lo:Int)(n:Nat):Turn P w K tg (Itr lo n) [it] it (λi h=>IsRangeIter h it (lo+(i:Nat)*1) ((n:Int)-(i:Nat)) 1) where
 mem:=by simp
 obj:=λi h st b hb=>by
  have e:b=it:=by simpa using hb
  subst e;exact⟨_,st,λv z=>by
   have z':Yu _=Data.cell v:=z;cases z'⟩
 keep:=λi h h' st k=>k it (by simp) _ st
 item:=by
  intro X hP hw hK hc i pins s σ H E I hf st hg;subst hP hw hK;obtain⟨f0,f1,f2,f3,f4,f5⟩:=hf it (by simp);have W:=Walks.range (prog:=X.prog) (w:=X.w) (I.ok.hd hc) it lo 1 n;refine W.item i s _ _ hg st λv h' tk hv st' kk=>?_;obtain⟨t,rfl⟩:=hv;have I1:Inv X pins σ H {s with heap:=h',toks:=tk}:=I.turned (λb o hb e=>kk b o (by simpa using hb) e) f0 f1 f3 f4 f5;refine⟨_,rfl,aMi (s:={s with heap:=h',toks:=tk}) (n:="range_iterator") st' rfl rfl ⋯ ⟨.int (lo+i),H,I1,⟨t,?_⟩,⟨rfl,rfl⟩,st',λb hb=>(hf b hb).1⟩⟩;rw[Tz]
 done:=by
  intro X hP hw hK hc i pins s σ H E I hf st hg;subst hP hw hK;obtain⟨f0,f1,f2,f3,f4,f5⟩:=hf it (by simp);exact wpAny_pyNext_range_end (I.ok.hd hc) st (by have:n<=i:=hg;lia) λh' eb=>⟨rfl,I.turned (t':=s.toks) (λb o hb e=>eb b o hb e) f0 f1 f3 f4 f5⟩
 self:=λ_ _ _ _ _ st h=>wpAny_pyIter_rangeiter st h
variable {tg:Bw}
inductive aRy(K:Ab)(x:V)(H1:Hp)(R:It->Hp->Prop):Prop
 |mk (a:_) (q0_:x=.ref a) (q1_:(∃xs,SqL K H1 a xs)) (q2_:R (Itl K a) H1):aRy K x H1 R
def aY6(K:Ab)(x:V)(H1:Hp)(R:It->Hp->Prop):Prop:=aRy K x H1 R
def aWo(K:Ab)(tl:TE):TI:=λσ H R=>tl σ H λx H1=>aY6 K x H1 R
def aY0(K:Ab)(tl:TE):TI:=λσ H R=>tl σ H λx H1=>∃a,x=.ref a/\(∃xs,SqT K H1 a xs)/\R (Itt K a) H1
def aD5{l:Bw}{tl:TE}(hl:PE X l tl):PI X tg l (aWo X.K tl):=by
 intro pins s σ H R I h;refine thn (hl pins s σ H _ I h) λv s1 ⟨x,H1,I1,r1,q1⟩=>?_;obtain⟨a,e,⟨xs,hq⟩,q⟩:=q1;subst e;cases r1;obtain⟨its,rv,p,hz⟩:=I1.list hq;refine Pq p.isList ?_;refine⟨s1.heap.objs.size,[s1.heap.objs.size],_,_,H1,rfl,I1.kept (t':=s1.toks) λb o e=>Af _ e,aK1 a _,⟨_,Ba _ rfl,rfl,rfl⟩,λb hb=>?_,q⟩;have e:b=s1.heap.objs.size:=by simpa using hb
 subst e;exact I1.fpOk (Am _) (I1.hok.fresh (Am _))
def aUg{l:Bw}{tl:TE}(hl:PE X l tl):PI X tg l (aY0 X.K tl):=by
 intro pins s σ H R I h;refine thn (hl pins s σ H _ I h) λv s1 ⟨x,H1,I1,r1,q1⟩=>?_;obtain⟨a,e,⟨xs,hq⟩,q⟩:=q1;subst e;cases r1;obtain⟨its,rv,p,hz⟩:=I1.tuple hq;refine wpAny_pyIter_tuple (show s1.heap.IsTuple a its.toArray from p) ?_;refine⟨s1.heap.objs.size,[s1.heap.objs.size],_,_,H1,rfl,I1.kept (t':=s1.toks) λb o e=>Af _ e,aHs a _,⟨_,Ba _ rfl,rfl,rfl⟩,λb hb=>?_,q⟩;have e:b=s1.heap.objs.size:=by simpa using hb
 subst e;exact I1.fpOk (Am _) (I1.hok.fresh (Am _))
def aN3{pins:#v[4]}{σ:St}{H:Hp}{s:Ae}{R:It->Hp->Prop}{E:#v[a]}{lo hi:Int}{t u v:Tok}{tk:Nat}(I:#v[1])(h1: -(2 ^ 62)<=lo)(h2:lo<2 ^ 62)(h3: -(2 ^ 62)<=hi)(h4:hi<2 ^ 62)
  (q:R (Itr lo (hi-lo).toNat) H):Au #v[b] X.A (Zb (.ref #v[0])) (PIE X pins σ tg R) E {s with heap:=s.heap.push {cls:=.type "range",data:=.fields #[.int lo t,.int hi u,.int 1 v]},toks:=tk}:=by
 refine wpAny_pyIter_range (IsRange.new ..) (small_one h1 h2 h3 h4) ?_;have I1:Inv X pins σ H {s with heap:=s.heap.push {cls:=.type "range",data:=.fields #[.int lo t,.int hi u,.int 1 v]},toks:=tk}:=I.kept λb o e=>Af _ e;refine⟨(s.heap.push {cls:=.type "range",data:=.fields #[.int lo t,.int hi u,.int 1 v]}).objs.size,[(s.heap.push {cls:=.type "range",data:=.fields #[.int lo t,.int hi u,.int 1 v]}).objs.size],_,_,H,rfl,
  I1.kept (t':=tk) λb o e=>Af _ e,aHr _ lo (hi-lo).toNat,?_,λb hb=>?_,q⟩
 ·have e1:lo+((0:Nat):Int)*1=lo:=by simp
  have e2:(((hi-lo).toNat:Nat):Int)-((0:Nat):Int)=Yd lo hi 1:=by rw[rangeSize_one];split<;>lia
  show IsRangeIter _ _ (lo+((0:Nat):Int)*1) ((((hi-lo).toNat:Nat):Int)-((0:Nat):Int)) 1;rw[e1,e2];exact Ba _ rfl
 ·have e:b=(s.heap.push {cls:=.type "range",data:=.fields #[.int lo t,.int hi u,.int 1 v]}).objs.size:=by simpa using hb
  subst e;exact I1.fpOk (Am _) (I1.hok.fresh (Am _))
inductive aR2(vs:List V)(H1:Hp)(R:It->Hp->Prop):Prop
 |mk (j:Int) (q0_:vs=[.int j]) (q1_: -(2 ^ 62)<=j) (q2_:j<2 ^ 62) (q3_:R (Itr 0 j.toNat) H1):aR2 vs H1 R
def aY7(vs:List V)(H1:Hp)(R:It->Hp->Prop):Prop:=aR2 vs H1 R
def aWp(ta:TA):TI:=λσ H R=>ta σ H λvs H1=>aY7 vs H1 R
def aKo{a:Bw}{ta:TA}{p pos:Pos}(hg:Gl X "range")(hm:X.mg "range"=none)(ha:PA X [a] ta)(hs:Bc [a] X.env=[(false,eval a X.env)]:=by rfl):PI X tg (.Call (.Name "range" p) [a] [] pos) (aWp ta):=by
 intro pins s σ H R I h;refine Call_ (wV I hg hm boot_range (Iq (thn (ha pos pins s σ H _ I h) λus s1 ⟨vs,H1,I1,r1,q1⟩=>?_) hs rfl));obtain⟨j,e,q1,q2,q⟩:=q1;subst e;cases r1 with
 |cons r rr=>
  cases rr;obtain⟨t,rfl⟩:=r;exact call_range_1 (aN3 I1 ∅ ∅ q1 q2 (by simpa using q))
def aZe(wi:TI)(g:TG)(tb:TS):TS:=λD σ H=>wi σ H λJ H1=>∃W:Nat->Nat->St->Hp->Prop,(∃m,W 0 m σ H1)/\∀i m σ H,W i m σ H->
 (J.stop i H/\D.nx σ H)∨(J.go i H/\∃N:St->Hp->Prop,(∀σ' H',N σ' H'->∃m',m'<m/\W (i+1) m' σ' H')/\∀x H',J.yld i H x H'->g x σ H' λσ2 H2=>tb {D with nx:=N,ct:=N,bk:=D.nx} σ2 H2)
def aD6(fp:List Addr)(h:Heap):#v[4]:=fp.filterMap λb=>(h.get? b).map λo=>(b,o)
def jC{h:Heap}{o:Obj}(hb:b∈fp)(e:h.get? b=some o):(b,o)∈aD6 fp h:=Nq.mpr ⟨b,hb,by rw[e];rfl⟩
def aJ2{h:Heap}{p:Addr×Obj}(hp:p∈aD6 fp h):p.1∈fp/\h.get? p.1=some p.2:=by
 obtain⟨b,hb,e⟩:=Nq.mp hp;cases q:h.get? b with
 |none=>rw[q]at e;cases e
 |some o=>
  rw[q]at e;have e':(b,o)=p:=Bq e;subst e';exact⟨hb,q⟩
def Inv.pinned{pins:#v[4]}{σ:St}{H:Hp}{s:Ae}(I:#v[1])(hf:∀b∈fp,aC5 X pins H b)(ho:∀b∈fp,∃o,s.heap.get? b=some o/\∀v,o.data≠.cell v):Inv X (pins++aD6 fp s.heap) σ H s:=
 I.pins_of λp hp=>(Cd.mp hp).elim (λz=>I.pin p (Bg _ z)) λz=>by
  obtain⟨hb,e⟩:=aJ2 z;obtain⟨f0,f1,f2,_⟩:=hf p.1 hb;obtain⟨o,e',d⟩:=ho p.1 hb;rw[e]at e';cases e';exact⟨e,f0,f1,f2,d⟩
def Inv.unpinned{pins pl:#v[4]}{σ:St}{H:Hp}{s:Ae}(I:Inv X (pins++pl) σ H s):#v[1]:=I.pins_of λp hp=>I.pin p (Bg _ (Ea _ hp))
def aNx{iter:Bw}{wi:TI}{g:TG}{tb:TS}{pos:Pos}(hp:Vh #v[b] X.A X.env X.xe)(hc:X.calm=true)(hi:PI X tg iter wi)(hg:PG X tg g)(hb:PSs X body tb)
  (hs:FS X iter:=by intro _;rfl):PS X (.For tg iter body [] pos) (aZe wi g tb):=by
 intro pins s σ H D I h;refine wpAny_For (thn (hi pins s σ H _ I h) λv s1 h1=>thn h1 λitv s2 h2=>?_) hs;obtain⟨it,fp,tn,J,H2,e,I2,T,st2,f2,W,⟨m0,w0⟩,turn⟩:=h2;subst e;have stat:∀{H':Hp},(∀b∈fp,H' b=none)->∀b∈fp,aC5 X pins H' b:=λhn b hb=>⟨hn b hb,(f2 b hb).2⟩;refine codeAny_forLoop_any (λn s'=>∃i σ' H',Inv X pins σ' H' s'/\tn i s'.heap/\(∀b∈fp,H' b=none)/\W i n σ' H') ?_ m0 ⟨0,σ,H2,I2,st2,λb hb=>(f2 b hb).1,w0⟩;rintro n s3 ⟨i,σ3,H3,I3,st3,fr3,w3⟩;rcases turn i n σ3 H3 w3 with ⟨stop,qn⟩|⟨go,N,hN,step⟩
 ·refine Km hp (thn (T.done X rfl rfl rfl hc i pins s3 σ3 H3 X.xe I3 (stat fr3) st3 stop) λr s4 ⟨hr,I4⟩=>?_);subst hr;exact Mw ⟨σ3,H3,I4,qn⟩
 ·refine Km hp (thn (T.item X rfl rfl rfl hc i pins s3 σ3 H3 X.xe I3 (stat fr3) st3 go) λr s4 ⟨u,hr,h4⟩=>?_);subst hr;refine Km hp (thn h4 λ_ s5 ⟨x,H5,I5,r5,y5,st5,fr5⟩=>?_);have I5':=I5.pinned (stat fr5) (T.obj _ _ st5);refine Km hp (thn (hg _ s5 σ3 H5 x u _ I5' r5 (step x H5 y5)) λ_ s6 ⟨σ6,H6,I6,q6⟩=>?_);refine Km hp (thn (hb _ s6 σ6 H6 _ I6 q6) λf s7 q7=>?_);have again:∀{σ7:St}{H7:Hp},Inv X (pins++aD6 fp s5.heap) σ7 H7 s7->N σ7 H7->∃m,m<n/\∃i σ' H',Inv X pins σ' H' s7/\tn i s7.heap/\(∀b∈fp,H' b=none)/\W i m σ' H':=λ{σ7 H7} I7 n7=>by
   obtain⟨m',hm,w7⟩:=hN σ7 H7 n7;refine⟨m',hm,i+1,σ7,H7,I7.unpinned,T.keep _ _ _ st5 λb hb o e=>(I7.pin (b,o) (Bg _ (Bg _ (jC hb e)))).1,λb hb=>?_,w7⟩;obtain⟨o,e,d⟩:=T.obj _ _ st5 b hb;exact(I7.pin (b,o) (Bg _ (Bg _ (jC hb e)))).2.1
  cases f with
  |next=>obtain⟨σ7,H7,I7,n7⟩:=q7;exact again I7 n7
  |cont=>obtain⟨σ7,H7,I7,n7⟩:=q7;exact again I7 n7
  |brk=>obtain⟨σ7,H7,I7,q7⟩:=q7;exact⟨σ7,H7,I7.unpinned,q7⟩
  |ret v=>obtain⟨x7,σ7,H7,I7,r7,q7⟩:=q7;exact⟨x7,σ7,H7,I7.unpinned,r7,q7⟩
def aMc{K:Ab}{a:Addr}{xs:List V}{g:TG}{tb:TS}{D:Ends}{σ:St}{H:Hp}(Pv:Nat->St->Hp->Prop)(h0:Pv 0 σ H)(hl:∀i σ H,i<=xs.length->Pv i σ H->SqL K H a xs)
  (hs:∀i x σ H,xs[i]? =some x->Pv i σ H->g x σ H λσ2 H2=>tb {D with nx:=Pv (i+1),ct:=Pv (i+1),bk:=D.nx} σ2 H2) (hd:∀σ H,Pv xs.length σ H->D.nx σ H):
  ∃W:Nat->Nat->St->Hp->Prop,(∃m,W 0 m σ H)/\∀i m σ H,W i m σ H->
   ((Itl K a).stop i H/\D.nx σ H)∨((Itl K a).go i H/\∃N:St->Hp->Prop,(∀σ' H',N σ' H'->∃m',m'<m/\W (i+1) m' σ' H')/\∀x H',(Itl K a).yld i H x H'->g x σ H' λσ2 H2=>tb {D with nx:=N,ct:=N,bk:=D.nx} σ2 H2):=by
 refine⟨λi m σ H=>m=xs.length-i/\i<=xs.length/\Pv i σ H,⟨xs.length,by simp,Bt _,h0⟩,?_⟩;rintro i m σ H ⟨rfl,hi,p⟩;have q:=hl i σ H hi p;by_cases hlt:i<xs.length
 ·refine .inr ⟨⟨xs,xs[i],q,by simp[hlt]⟩,Pv (i+1),λσ' H' p'=>⟨xs.length-(i+1),∅,rfl,hlt,p'⟩,λx H' y=>?_⟩;obtain⟨e,y⟩:=y;subst e;exact hs i x σ _ (y xs q) p
 ·have e:i=xs.length:=by lia
  subst e;exact .inl ⟨⟨xs,q,Am _⟩,hd σ H p⟩
abbrev R2:=V->V->Hp->VK->Prop
def OpR(X:Cx)(f:Value->Value->Sem Value)(r:R2):Prop:=
 ∀(pins:#v[4])(s:Ae)(σ:St)(H:Hp)(x y:V)(v u:Value)(Q:VK),#v[1]->RelV x v->RelV y u->r x y H Q->
  Au #v[b] X.A (f v u) (EP X pins σ Q) X.xe s
def UnR(X:Cx)(f:Value->Sem Value)(r:V->Hp->VK->Prop):Prop:=
 ∀(pins:#v[4])(s:Ae)(σ:St)(H:Hp)(x:V)(v:Value)(Q:VK),#v[1]->RelV x v->r x H Q->
  Au #v[b] X.A (f v) (EP X pins σ Q) X.xe s
def gF(X:Cx)(f:Value)(r:List V->Hp->VK->Prop):Prop:=
 ∀(pins:#v[4])(s:Ae)(σ:St)(H:Hp)(xs:List V)(us:List Value)(Q:VK),#v[1]->Vals xs us->r xs H Q->
  Au #v[b] X.A (call f us) (EP X pins σ Q) X.xe s
def tOp(r:R2)(ta tb:TE):TE:=λσ H Q=>ta σ H λx H1=>tb σ H1 λy H2=>r x y H2 Q
def tUn(r:V->Hp->VK->Prop)(ta:TE):TE:=λσ H Q=>ta σ H λx H1=>r x H1 Q
inductive IrI(C:Int->Int->Prop)(g:Int->Int->V)(x:V)(y:V)(H:Hp)(Q:VK):Prop
 |mk (i j:_) (q0_:x=.int i) (q1_:y=.int j) (q2_:C i j) (q3_:Q (g i j) H):IrI C g x y H Q
def rI(C:Int->Int->Prop)(g:Int->Int->V):R2:=λx y H Q=>IrI C g x y H Q
def rI0(g:Int->Int->V):R2:=λx y H Q=>∃i j,x=.int i/\y=.int j/\Q (g i j) H
inductive IrU(g:Int->V)(x:V)(H:Hp)(Q:VK):Prop
 |mk (i:_) (q0_:x=.int i) (q1_:Q (g i) H):IrU g x H Q
def rU(g:Int->V):V->Hp->VK->Prop:=λx H Q=>IrU g x H Q
section
variable {X:Cx}{a b c:Bw}{ta tb tc:TE}{pos:Pos}
def aTd(ha:PE X a ta)(hb:PE X b tb){pins:#v[4]}{s:Ae}{σ:St}{H:Hp}{R:V->V->Hp->Prop}(I:#v[1])
  (h:ta σ H λx H1=>tb σ H1 λy H2=>R x y H2) {Q:#v[a]} {f:Value->Value->Sem Value}
  (hf:∀v u s2 x y H2,Inv X pins σ H2 s2->RelV x v->RelV y u->R x y H2->Au #v[b] X.A (f v u) Q X.xe s2):
  Au #v[b] X.A (eval a X.env) (λv s₁=>Au #v[b] X.A (eval b X.env) (λu s₂=>Au #v[b] X.A (f v u) Q X.xe s₂) X.xe s₁) X.xe s:=by
 refine thn (ha pins s σ H _ I h) λv s1 ⟨x,H1,I1,r1,q1⟩=>?_;refine thn (hb pins s1 σ H1 _ I1 q1) λu s2 ⟨y,H2,I2,r2,q2⟩=>?_;exact hf v u s2 x y H2 I2 r1 r2 q2
def gP{op:Operator}{r:R2}(ho:OpR X (Gs op) r)(ha:PE X a ta)(hb:PE X b tb):PE X (.BinOp a op b pos) (tOp r ta tb):=by
 intro pins s σ H Q I h;exact wpAny_BinOp (aTd ha hb I h λv u s2 x y H2 I2 rx ry q=>ho pins s2 σ H2 x y v u Q I2 rx ry q)
def aW3{op:UnaryOp}{r:V->Hp->VK->Prop}(ho:UnR X (unaryOp op) r)(ha:PE X a ta):PE X (.UnaryOp op a pos) (tUn r ta):=by
 intro pins s σ H Q I h;exact UnaryOp_ (thn (ha pins s σ H _ I h) λv s1 ⟨x,H1,I1,r1,q1⟩=>ho pins s1 σ H1 x v Q I1 r1 q1)
def opI{f:Value->Value->Sem Value}{C:Int->Int->Prop}
  (rule:∀(i j:Int)(t u:Tok)(s:Ae)(Q:#v[a])(E:#v[a]),C i j->Q (.int (g i j) s.toks) {s with toks:=s.toks+1}->Au #v[b] X.A (f (.int i t) (.int j u)) Q E s):
  OpR X f (rI C λi j=> .int (g i j)):=by
 intro pins s σ H x y v u Q I rx ry h;obtain⟨i,j,rfl,rfl,hc,q⟩:=h;obtain⟨t,rfl⟩:=rx;obtain⟨t',rfl⟩:=ry;exact rule i j t t' s _ _ hc ⟨.int (g i j),H,I.tok _,⟨_,rfl⟩,q⟩
def aWw{f:Value->Value->Sem Value}
  (rule:∀(i j:Int)(t u:Tok)(s:Ae)(Q:#v[a])(E:#v[a]),Q (.int (g i j) s.toks) {s with toks:=s.toks+1}->Au #v[b] X.A (f (.int i t) (.int j u)) Q E s):
  OpR X f (rI0 λi j=> .int (g i j)):=by
 intro pins s σ H x y v u Q I rx ry h;obtain⟨i,j,rfl,rfl,q⟩:=h;obtain⟨t,rfl⟩:=rx;obtain⟨t',rfl⟩:=ry;exact rule i j t t' s _ _ ⟨.int (g i j),H,I.tok _,⟨_,rfl⟩,q⟩
def aP9{f:Value->Value->Sem Value}{g:Int->Int->Bool}
  (rule:∀(i j:Int)(t u:Tok)(s:Ae)(Q:#v[a])(E:#v[a]),Q (.bool (g i j)) s->Au #v[b] X.A (f (.int i t) (.int j u)) Q E s):
  OpR X f (rI0 λi j=> .bl (g i j)):=by
 intro pins s σ H x y v u Q I rx ry h;obtain⟨i,j,rfl,rfl,q⟩:=h;obtain⟨t,rfl⟩:=rx;obtain⟨t',rfl⟩:=ry;exact rule i j t t' s _ _ ⟨.bl (g i j),H,I,rfl,q⟩
def aYt(i j:Int):Prop:=0<j/\j<1073741824
def aVz(i j:Int):Prop:=0<=j/\j<=1000000/\i.natAbs<2 ^ 64
def aS3(i j:Int):Prop:=(-(2 ^ 64)<i/\i<2 ^ 64)∨(-(2 ^ 64)<j/\j<2 ^ 64)
def aS3.ok{i j:Int}(h:aS3 i j):IntMulOk i j:=by
 rcases h with ⟨h1,h2⟩|⟨h1,h2⟩
 ·exact .of_left (intBits_le_64 h1 h2)
 ·exact .of_right (intBits_le_64 h1 h2)
def tZ:OpR X (Gs .Add) (rI0 λi j=> .int (i+j)):=aWw λ_ _ _ _ _ _ _ q=>add_int q
def mD:OpR X (Gs .Sub) (rI0 λi j=> .int (i-j)):=aWw λ_ _ _ _ _ _ _ q=>sub_int q
def jY:OpR X (Gs .Mult) (rI aS3 λi j=> .int (i*j)):=opI λ_ _ _ _ _ _ _ hc q=>mul_int q hc.ok
def zM:OpR X (Gs .FloorDiv) (rI aYt λi j=> .int (i / j)):=opI λi j _ _ _ _ _ hc q=>by
 have h1:(0:Int)<j:=hc.1;have h2:j<1073741824:=hc.2;exact floordiv_int ∅ (by rw[Qs i ∅];exact q) (.inl (PyProof.noPylong_small ∅))
def pN:OpR X (Gs .Mod) (rI (λ_ j=>0<j) λi j=> .int (i % j)):=opI λi j _ _ _ _ _ hc q=>by
 have h1:(0:Int)<j:=hc;exact mod_int' ∅ (by rw[Int.fmod_eq_emod_of_nonneg i ∅];exact q)
def mC:OpR X (Gs .Pow) (rI aVz λi j=> .int (i ^ j.toNat)):=opI λ_ _ _ _ _ _ _ hc q=>pow_int_small hc.1 hc.2.1 hc.2.2 q
def unI{f:Value->Sem Value}{g:Int->Int}
  (rule:∀(i:Int)(t:Tok)(s:Ae)(Q:#v[a])(E:#v[a]),Q (.int (g i) s.toks) {s with toks:=s.toks+1}->Au #v[b] X.A (f (.int i t)) Q E s):
  UnR X f (rU λi=> .int (g i)):=by
 intro pins s σ H x v Q I rx h;obtain⟨i,rfl,q⟩:=h;obtain⟨t,rfl⟩:=rx;exact rule i t s _ _ ⟨.int (g i),H,I.tok _,⟨_,rfl⟩,q⟩
def aU5:UnR X (unaryOp .USub) (rU λi=> .int (-i)):=unI λ_ _ _ _ _ q=>neg_int q
end
section
variable {X:Cx}{a b c:Bw}{ta tb tc:TE}{pos:Pos}
def aNh:OpR X (Ed .Lt) (rI0 λi j=> .bl (decide (i<j))):=aP9 λ_ _ _ _ _ _ _ q=>lt_int q
def yK:OpR X (Ed .LtE) (rI0 λi j=> .bl (decide (i<=j))):=aP9 λ_ _ _ _ _ _ _ q=>le_int q
def vJ:OpR X (Ed .Gt) (rI0 λi j=> .bl (decide (j<i))):=aP9 λ_ _ _ _ _ _ _ q=>gt_int q
def aWx:OpR X (Ed .GtE) (rI0 λi j=> .bl (decide (j<=i))):=aP9 λ_ _ _ _ _ _ _ q=>ge_int q
def OpR.or{f:Value->Value->Sem Value}{r r':R2}(h:OpR X f r)(h':OpR X f r'):OpR X f (λx y H Q=>r x y H Q∨r' x y H Q):=by
 intro pins s σ H x y v u Q I rx ry q;rcases q with q|q
 ·exact h pins s σ H x y v u Q I rx ry q
 ·exact h' pins s σ H x y v u Q I rx ry q
def aDz(b:Bw){op:Ss}(h:op≠.In:=by decide)(h2:op≠.NotIn:=by decide):Gu op b=false:=by
 have e1:(op==CmpOp.In)=false:=by cases op<;>first|rfl|exact absurd rfl h
 have e2:(op==Ya)=false:=by cases op<;>first|rfl|exact absurd rfl h2
 cases b<;>simp[Gu,e1,e2]
def aQe{op:Ss}{r:R2}(ho:OpR X (Ed op) r)(ha:PE X a ta)(hb:PE X b tb)(hm:Gu op b=false):PE X (.Compare a [op] [b] pos) (tOp r ta tb):=by
 intro pins s σ H Q I h;exact wpAny_Compare1 (aTd ha hb I h λv u s2 x y H2 I2 rx ry q=>ho pins s2 σ H2 x y v u Q I2 rx ry q) hm
def aOn(t:TE):TT:=λσ H Q=>t σ H λx H1=>rBl x H1 Q
def aD8{op:Ss}{r:R2}(ho:OpR X (Ed op) r)(ha:PE X a ta)(hb:PE X b tb)(hm:Gu op b=false):PT X (.Compare a [op] [b] pos) (aOn (tOp r ta tb)):=by
 intro pins s σ H Q I h;refine Ur (thn (ha pins s σ H _ I h) λv s1 ⟨x,H1,I1,r1,q1⟩=>thn (hb pins s1 σ H1 _ I1 q1) λu s2 ⟨y,H2,I2,r2,q2⟩=>
  thn (ho pins s2 σ H2 x y v u _ I2 r1 r2 q2) λc s3 ⟨z,H3,I3,r3,k,e,q3⟩=>?_) hm
 subst e;cases r3;exact De ⟨H3,I3,q3⟩
def aHm(r r':R2)(ta tb tc:TE):TE:=λσ H Q=>ta σ H λx H1=>tb σ H1 λy H2=>r x y H2 λz H3=>∃k,z=.bl k/\
 (if k=true then tc σ H3 λw' H4=>r' y w' H4 Q else Q (.bl false) H3)
def aNn{op op':Ss}{r r':R2}(ho:OpR X (Ed op) r)(ho':OpR X (Ed op') r')(ha:PE X a ta)(hb:PE X b tb)(hc:PE X c tc)
  (hm:Ux [op,op'] [b,c]=false:=by with_unfolding_all rfl):PE X (.Compare a [op,op'] [b,c] pos) (aHm r r' ta tb tc):=by
 intro pins s σ H Q I h;refine Compare_chain (thn (ha pins s σ H _ I h) λv s1 ⟨x,H1,I1,r1,q1⟩=>chain_link (thn (hb pins s1 σ H1 _ I1 q1) λu s2 ⟨y,H2,I2,r2,q2⟩=>
  thn (ho pins s2 σ H2 x y v u _ I2 r1 r2 q2) λd s3 ⟨z,H3,I3,r3,k,e,q3⟩=>?_)) hm
 subst e;cases r3;refine De ?_;cases k with
 |false=>exact ite_ff ⟨.bl false,H3,I3,rfl,q3⟩
 |true=>exact ite_tt (chain_last (thn (hc pins s3 σ H3 _ I3 q3) λw' s4 ⟨z',H4,I4,r4,q4⟩=>ho' pins s4 σ H4 y z' u w' Q I4 r2 r4 q4))
def aNy{op op':Ss}{r r':R2}(ho:OpR X (Ed op) r)(ho':OpR X (Ed op') r')(ha:PE X a ta)(hb:PE X b tb)(hc:PE X c tc)
  (hm:Ux [op,op'] [b,c]=false:=by with_unfolding_all rfl):PT X (.Compare a [op,op'] [b,c] pos) (aOn (aHm r r' ta tb tc)):=by
 intro pins s σ H Q I h;refine isTrue_chain (thn (ha pins s σ H _ I h) λv s1 ⟨x,H1,I1,r1,q1⟩=>test_link (thn (hb pins s1 σ H1 _ I1 q1) λu s2 ⟨y,H2,I2,r2,q2⟩=>
  thn (ho pins s2 σ H2 x y v u _ I2 r1 r2 q2) λd s3 ⟨z,H3,I3,r3,k,e,q3⟩=>?_)) hm
 subst e;cases r3;refine De ?_;cases k with
 |false=>
  obtain⟨k',e',q'⟩:=q3;cases e';exact ite_ff ⟨H3,I3,q'⟩
 |true=>
  refine ite_tt (test_last (thn (hc pins s3 σ H3 _ I3 q3) λw' s4 ⟨z',H4,I4,r4,q4⟩=>thn (ho' pins s4 σ H4 y z' u w' _ I4 r2 r4 q4) λd' s5 ⟨z2,H5,I5,r5,k2,e2,q5⟩=>?_));subst e2;cases r5;exact De ⟨H5,I5,q5⟩
def aAu:(sizeLine:Nat)<2 ^ 63:=by rw[Dv];decide
def aHd:OpR X (Gs .Add) (λx y H Q=>∃i j,x=.str i/\y=.str j/\i.length+j.length<=sizeLine/\Q (.str (i++j)) H):=by
 intro pins s σ H x y v u Q I rx ry h;obtain⟨i,j,rfl,rfl,hz,q⟩:=h;obtain⟨t,rfl⟩:=rx;obtain⟨t',rfl⟩:=ry;exact add_str (λt' tk=>⟨.str (i++j),H,I.tok _,⟨_,rfl⟩,q⟩) hz
def vals1{x:V}(r:Vals [x] us):∃u,us=[u]/\RelV x u:=by
 cases r with
 |cons r1 r2=>cases r2;exact⟨_,rfl,r1⟩
def vals2{x y:V}(r:Vals [x,y] us):∃u w',us=[u,w']/\RelV x u/\RelV y w':=by
 cases r with
 |cons r1 r2=>
  cases r2 with
  |cons r3 r4=>cases r4;exact⟨_,_,rfl,r1,r3⟩
def aCc(hc:X.calm=true):gF X (.builtin "min") (λxs H Q=>∃i j,xs=[.int i,.int j]/\Q (.int (if j<i then j else i)) H):=by
 intro pins s σ H xs us Q I r h;obtain⟨i,j,rfl,q⟩:=h;obtain⟨u,w',rfl,⟨t,rfl⟩,⟨t',rfl⟩⟩:=vals2 r;refine min_two_ints (I.ok.hd hc) λh' tk k=>⟨_,H,I.kept k,?_,q⟩;by_cases hj:j<i
 ·rw[if_pos hj,if_pos hj];exact⟨_,rfl⟩
 ·rw[if_neg hj,if_neg hj];exact⟨_,rfl⟩
def rZ:gF X (.type "int") (λxs H Q=>(∃i,xs=[.int i]/\Q (.int i) H)∨∃k,xs=[.bl k]/\Q (.int (if k then 1 else 0)) H):=by
 intro pins s σ H xs us Q I r h;rcases h with ⟨i,rfl,q⟩|⟨k,rfl,q⟩
 ·obtain⟨u,rfl,t,rfl⟩:=vals1 r;exact call_int_int ⟨.int i,H,I,⟨_,rfl⟩,q⟩
 ·obtain⟨u,rfl,r1⟩:=vals1 r;cases r1;exact call_int_bool ⟨.int (if k then 1 else 0),H,I.tok _,⟨_,rfl⟩,q⟩
end
structure aGk(h:Heap)(x dx C:Addr)(mA:Str->#v[8]):Prop where
 obj:h.get? x=some (Fz C dx)
 ns:h.Ns1 dx mA
 ne:dx≠x
def aJx{h:Heap}{dx:Addr}(n:h.Ns1 dx mA):∃od,h.get? dx=some od/\∀name,Lk name od=some (mA name):=by
 obtain⟨o,es,ep,ho,hd,hk,_,hm⟩:=n;refine⟨o,ho,λname=>?_⟩;have e:=hm name;unfold nsFind findBy at e;rw[<-Array.find?_toList]at e;unfold Lk;rw[hd];dsimp only;split
 ·rename_i y q;rw[q]at e;exact congrArg some e
 ·rename_i q;rw[q]at e;have a:es.toList.any (·.refKey)=false:=by
   rw[List.any_eq_false];intro y hy;obtain⟨z,t,hkey⟩:=hk y (Me.mp hy);simp[DictEntry.refKey,hkey]
  have a':¬es.toList.any (·.refKey)=true:=by rw[a];exact As
  rw[if_neg a'];exact congrArg some e
def aGk.look{h:Heap}{x dx C:Addr}(I:aGk h x dx C mA):∃od,Pa h x (Fz C dx) C (some od)/\∀name,Lk name od=some (mA name):=
 let⟨od,ho,hl⟩:=aJx I.ns
 ⟨od,⟨I.obj,rfl,rfl,ho⟩,hl⟩
variable {prog:Ap}{A:Bl}{E:#v[a]}{K:Ab}{x dx C f:Addr}{mA:Str->#v[8]}{name:Str}{v:Value}
def aPr{expr:Bool}{Q:#v[a]}(X:K.In s.heap)(I:aGk s.heap x dx C mA)(hg:Ks K C name=true)(hh:Dq K C=true)
  (ha:Bo K (.ref C) name=some none) (hv:mA name=some v) (hv':Nv v=true) (h:Q v {s with toks:=s.toks+1}):
  Au #v[c] A (Wg (.ref x) name expr) Q E s:=by
 obtain⟨od,J,hl⟩:=I.look;exact PySem.W.get_value X J (Ly hg).1 (PySem.W.findObj_own hh ha rfl (by rw[hl,hv])) hv' h
def aMg{pl:Sem Bool}{Q:Value×List Value->Ae->Prop}(X:K.In s.heap)(I:aGk s.heap x dx C mA)(hg:Ks K C name=true)
  (hf:Bo K (.ref C) name=some (some (.ref f))) (ht:Re K (.ref f)=true) (hv:mA name=none) (h:Q (.ref f,[.ref x]) s):
  Au #v[c] A (Nd (.ref x) name pl) Q E s:=by
 obtain⟨od,J,hl⟩:=I.look;exact PySem.W.method_fn X J (Ly hg).1 (Ly hg).2 hf (beq_iff_eq.mp ht) (by show(Lk name od).map (·.isSome)=some false;rw[hl,hv];rfl) h
def aQz{ns:List Str}{Q:Unit->Ae->Prop}(X:K.In s.heap)(I:aGk s.heap x dx C mA)
  (hs:Bo K (.ref C) "__setattr__"=some (some (.builtin "object.__setattr__"))) (hp:Si K C=true) (ht:Fd K C name=some none) (hh:Dq K C=true)
  (hw:Rr mA ns) (hsz:ns.length<=sizeLine)
  (h:∀h',aGk h' x dx C (λy=>if y=name then some v else mA y)->Dm dx s.heap h'->Q () {s with heap:=h',toks:=s.toks+2}):
  Au #v[c] A (setAttr (.ref x) name v) Q E s:=by
 obtain⟨od,J,hl⟩:=I.look;refine Sh X J hs (PySem.W.osa_open (s:={s with toks:=s.toks+1}) (r:=none) X J hp ht λb=>?_);obtain⟨cd,hc,hd'⟩:=Nx hh;have hx:s.heap.get? x=some ⟨.ref C,some dx,.plain, #[]⟩:=I.obj;refine Aa (Ad (Aa (Aa (Sb hx (Aa (Pf (s:={s with toks:=s.toks+1}) (Lz X hc) ?_))))));rw[hd'];refine Ad (a:=some dx) (Aa (Ad (Aa ?_)));refine wpAny_nsSet1 (s:={s with toks:=s.toks+1}) I.ns λh' hn2 hs2=>?_;obtain⟨oD,esD,epD,hoD,hdD,hcD⟩:=hn2.count (Ql name v hw);refine Aa (Yf hoD (by rw[hdD];exact Yh (Bd hcD (by rw[Aq];lia))) ?_);exact Ad (h _ ⟨(hs2.2 _ (Ci I.ne)).trans I.obj,hn2,I.ne⟩ hs2)
def aMv{R:Mg->Ae->Prop}{vs:List Value}(X:K.In s.heap)(hm:Of K C=true)
  (hi:Bo K (.ref C) "__init__"=some (some (.ref f))) (hf:Lj K (.ref f)=some (.type "function"))
  (h:Gr #v[c] (A.under (.builtin "type.__call__" ⟨.ref C::vs,kw⟩)) (.call (.ref f) ⟨.ref (#v[0]+1)::vs,kw⟩) (PySem.W.InitBack (#v[0]+1) R)
   {s with heap:=(s.heap.push Ei).push (Fz C #v[0])}):
  Gr #v[c] A (.call (.ref C) ⟨vs,kw⟩) R s:=by
 obtain⟨hh,g,d,t,os⟩:=s;exact PySem.W.make_core (PySem.W.makes_of X hm) (Jd X hi) (λself=>Tq X self hf) (.inl rfl) h
def jU(f:Str)(v:V):List (Str×V)->List (Str×V)
 | []=>[(f,v)]
 |(g,x)::r=>if g=f then(g,v)::r else(g,x)::jU f v r
theorem yI(f g:Str)(v:V):∀fs:List (Str×V),(jU f v fs).lookup g=if g=f then some v else fs.lookup g
 | []=>by
  show Eu g [(f,v)]=_;by_cases h:g=f
  ·have hb:(g==f)=true:=beq_iff_eq.mpr h;simp only[Eu,hb,if_pos h]
  ·have hb:(g==f)=false:=beq_eq_false_iff_ne.mpr h;simp only[Eu,hb,if_neg h]
 |(k,x)::r=>by
  have ih:=yI f g v r;rw[show jU f v ((k,x)::r)=(if k=f then(k,v)::r else(k,x)::jU f v r)from rfl];by_cases hk:k=f
  ·rw[if_pos hk];by_cases h:g=k
   ·have hb:(g==k)=true:=beq_iff_eq.mpr h;simp only[Eu,hb,if_pos (h.trans hk)]
   ·have hb:(g==k)=false:=beq_eq_false_iff_ne.mpr h;simp only[Eu,hb,if_neg (λe:g=f=>h (e.trans hk.symm))]
  ·rw[if_neg hk];by_cases h:g=k
   ·have hb:(g==k)=true:=beq_iff_eq.mpr h;simp only[Eu,hb,if_neg (λe:g=f=>hk (h.symm.trans e))]
   ·have hb:(g==k)=false:=beq_eq_false_iff_ne.mpr h;simp only[Eu,hb];exact ih
theorem wR(f:Str)(v:V):∀fs:List (Str×V),f∈(jU f v fs).map (·.1)/\∀g,g∈fs.map (·.1)->g∈(jU f v fs).map (·.1)
 | []=>⟨by simp[jU],λg h=>by simp at h⟩
 |(k,x)::r=>by
  obtain⟨i1,i2⟩:=wR f v r;rw[show jU f v ((k,x)::r)=(if k=f then(k,v)::r else(k,x)::jU f v r)from rfl];by_cases hk:k=f
  ·rw[if_pos hk];subst hk;exact⟨by simp,λg h=>by simpa using h⟩
  ·rw[if_neg hk];refine⟨?_,λg h=>?_⟩
   ·rw[Da];exact Ag _ i1
   ·rw[Da]at h⊢;rcases Ao.mp h with e|e
    ·exact Ao.mpr (.inl e)
    ·exact Ag _ (i2 g e)
theorem yH(f:Str)(v:V):∀fs:List (Str×V),(jU f v fs).length<=fs.length+1
 | []=>by simp[jU]
 |(k,x)::r=>by
  have ih:=yH f v r;rw[show jU f v ((k,x)::r)=(if k=f then(k,v)::r else(k,x)::jU f v r)from rfl];by_cases hk:k=f
  ·rw[if_pos hk,Aq,Aq];lia
  ·rw[if_neg hk,Aq,Aq];lia
def pB.some_of{v:V}{o:#v[8]}(r:pB (some v) o):∃u,o=some u/\RelV v u:=by
 cases o with
 |none=>exact(show False from r).elim
 |some u=>exact⟨u,rfl,r⟩
def pB.none_of{o:#v[8]}(r:pB none o):o=none:=by
 cases o with
 |none=>rfl
 |some u=>exact(show False from r).elim
def aCk{v:V}(r:RelV v u):Nv u=true:=by
 cases v with
 |non=>cases (show u=Cb from r);rfl
 |bl b=>cases (show u=Hn b from r);rfl
 |int i=>obtain⟨t,e⟩:=(show∃t,u=Df i t from r);cases e;rfl
 |str x=>obtain⟨t,e⟩:=(show∃t,u=Ko x t from r);cases e;rfl
 |byt b=>obtain⟨t,e⟩:=(show∃t,u=Oy b t from r);cases e;rfl
 |flt b=>obtain⟨t,e⟩:=(show∃t,u=Ml b t from r);cases e;rfl
 |ref a=>cases (show u=Aj a from r);rfl
 |ty n=>cases (show u=Fc n from r);rfl
variable {fs fs':List (Str×V)}
def zJ(hok:HOk P w H h)(e:H a=some (.ins C dx fs)):∃mA,aGk h a dx C mA/\(∀f,pB (fs.lookup f) (mA f))/\Rr mA (fs.map (·.1))/\fs.length<=1000/\H dx=some (.own a):=by
 obtain⟨d,z,ne,ob,mA,n,r,q⟩:=(show cC P w H h a (.ins C dx fs)from hok a _ e);exact⟨mA,⟨ob,n,ne⟩,r,q,z,d⟩
structure Cls(K:Ab)(C:Addr):Prop where
 pg:Ks K C Str.empty=true
 hd:Dq K C=true
 po:Si K C=true
 sa:Bo K (.ref C) "__setattr__"=some (some (.builtin "object.__setattr__"))
def Cls.get{K:Ab}{C:Addr}(c:Cls K C)(f:Str):Ks K C f=true:=c.pg
def lU(K:Ab)(C:Addr)(f:Str):Prop:=Bo K (.ref C) f=some none
def lU.taker{K:Ab}{C:Addr}{f:Str}(n:lU K C f):Fd K C f=some none:=by
 unfold Fd;rw[show Bo K (.ref C) f=some none from n];rfl
structure Meth(K:Ab)(C:Addr)(m:Str)(f:Addr):Prop where
 at_:Bo K (.ref C) m=some (some (.ref f))
 fn:Re K (.ref f)=true
 kp:Gi K (.ref f)=true
section
variable {X:Cx}{pins:#v[4]}{σ:St}{H:Hp}{s:Ae}{a C dx:Addr}{fs:List (Str×V)}{f:Str}{v:V}{A:Bl}{E:#v[a]}
def aG4{b:Bool}{Q:#v[a]}(I:#v[1])(e:H a=some (.ins C dx fs))(c:Cls X.K C)(n:lU X.K C f)(l:fs.lookup f=some v)
  (h:∀u s',Inv X pins σ H s'->RelV v u->Q u s'):Au #v[b] A (Wg (.ref a) f b) Q E s:=by
 obtain⟨mA,O,r,_,_,_⟩:=zJ I.hok e;obtain⟨u,hu,ru⟩:=pB.some_of (v:=v) (o:=mA f) (by rw[<-l];exact r f);exact aPr I.kIn O (c.get f) c.hd n hu (aCk ru) (h u _ (I.tok _) ru)
def aG5{m:Str}{g:Addr}{pl:Sem Bool}{Q:Value×List Value->Ae->Prop}(I:#v[1])(e:H a=some (.ins C dx fs))(c:Cls X.K C)(k:Meth X.K C m g)(l:fs.lookup m=none)
  (h:Q (.ref g,[.ref a]) s):Au #v[b] A (Nd (.ref a) m pl) Q E s:=by
 obtain⟨mA,O,r,_,_,_⟩:=zJ I.hok e;have hn:mA m=none:=pB.none_of (by rw[<-l];exact r m);exact aMg I.kIn O (c.get m) k.at_ k.fn hn h
def aHi{y:V}{Q:Unit->Ae->Prop}(I:#v[1])(e:H a=some (.ins C dx fs))(c:Cls X.K C)(n:lU X.K C f)(hl:fs.length<1000)(ry:RelV y u)
  (h:∀s',Inv X pins σ (upd H a (.ins C dx (jU f y fs))) s'->Q () s'):Au #v[b] A (setAttr (.ref a) f u) Q E s:=by
 obtain⟨mA,O,r,wi,_,ho⟩:=zJ I.hok e;have hz:(fs.map (·.1)).length<=sizeLine:=by rw[Ac,Dv];lia
 refine aQz I.kIn O c.sa c.po n.taker c.hd wi hz λh' O' sb=>h _ ?_;have hd:∃o,h'.get? dx=some o:=let⟨o,_,_,e',_⟩:=O'.ns;⟨o,e'⟩;refine I.write (x:=a) (e:=dx) (by rw[e];exact Ep) (.inr ho) (λb q hb z=>(sb.2 b hb).trans z) hd ?_;refine⟨by rw[aL O.ne];exact ho,?_,O.ne,O'.obj,_,O'.ns,λg=>?_,λg hg=>?_⟩
 ·have:=yH f y fs;lia
 ·show pB ((jU f y fs).lookup g) (if g=f then some u else mA g);rw[yI];by_cases q:g=f
  ·rw[if_pos q,if_pos q];exact ry
  ·rw[if_neg q,if_neg q];exact r g
 ·by_cases q:g=f
  ·rw[q];exact(wR f y fs).1
  ·refine(wR f y fs).2 g (wi g λz=>hg ?_);show(if g=f then some u else mA g)=none;rw[if_neg q];exact z
def Inv.made(I:#v[1]):Inv X pins σ (upd (upd H #v[0] (.own (#v[0]+1))) (#v[0]+1) (.ins C #v[0] []))
  {s with heap:=(s.heap.push Ei).push (Fz C #v[0])}:=by
 have e1:(s.heap.push Ei).get? #v[0]=some Ei:=Ba s.heap rfl;have e2:((s.heap.push Ei).push (Fz C #v[0])).get? (#v[0]+1)=some (Fz C #v[0]):=by
  have:=Ba (s.heap.push Ei) (o:=Fz C #v[0]) rfl
  rwa [Dd]at this
 have e3:(s.heap.push Ei).Ns #v[0] (λ_=>none):=⟨Ei, #[],_,e1,rfl,(λe he=>absurd he (by simp)),λ_=>rfl⟩;have I1:=I.laid (a:=#v[0]) (o:=.own (#v[0]+1)) (h':=s.heap.push Ei) (t':=s.toks) (λb u q=>Af _ q) (Am _) ⟨_,e1⟩;refine I1.laid (a:=#v[0]+1) (o:=.ins C #v[0] []) (t':=s.toks) (λb u q=>Af _ q) (So (Dd _ _)) ?_;have ne:#v[0]≠#v[0]+1:=Be (Fs _);refine⟨by rw[aL ne,aM],Bt _,ne,e2,λ_=>none,(Rx e3).at λo q=>Af _ q,λ_=>Ep,λy hy=>absurd rfl hy⟩
def aH4{prog:Ap}{w:Bh}{env:Env}{e:Bw}{f:Str}{pos:Pos}{s:Ae}{Q:#v[a]}(hb:Eh e f env (eval e env)=eval e env)
  (h:Au #v[c] A (eval e env) (λo s₁=>Au #v[c] A (Wg o f true) Q E s₁) E s):Au #v[c] A (eval (.Attribute e f pos) env) Q E s:=
 Attribute_any_ h (by rw[arm_eval_Attribute,hb])
end
def aZd(K:Ab)(ta:TE)(f:Str):TE:=λσ H Q=>ta σ H λx H1=>∃a C dx fs v,x=.ref a/\H1 a=some (.ins C dx fs)/\Cls K C/\lU K C f/\fs.lookup f=some v/\Q v H1
def aZa(K:Ab)(ta tv:TE)(f:Str):TS:=λD σ H=>tv σ H λy H1=>ta σ H1 λx H2=>∃a C dx fs,x=.ref a/\H2 a=some (.ins C dx fs)/\Cls K C/\lU K C f/\fs.length<1000/\
 D.nx σ (upd H2 a (.ins C dx (jU f y fs)))
section
variable {X:Cx}{o e value:Bw}{f:Str}{pos pos' tpos:Pos}{ta tv:TE}
def aNr(he:PE X e ta)(hb:Eh e f X.env (eval e X.env)=eval e X.env):PE X (.Attribute e f pos) (aZd X.K ta f):=by
 intro pins s σ H Q I h;refine aH4 hb (thn (he pins s σ H _ I h) λu s1 ⟨x,H1,I1,rx,a,C,dx,fs,v,ex,ea,c,n,l,q⟩=>?_);subst ex;obtain rfl:u=Aj a:=rx;exact aG4 I1 ea c n l λu' s2 I2 ru=>⟨v,H1,I2,ru,q⟩
def eV(ha:PE X o ta)(hv:PE X value tv)(hs:Dt value (some (.Attribute o f pos')) pos.line X.env=pure false):PS X (.Assign [.Attribute o f pos'] value pos) (aZa X.K ta tv f):=by
 intro pins s σ H D I h;refine Pt (thn (hv pins s σ H _ I h) λu s1 ⟨y,H1,I1,ry,q⟩=>thn (ha pins s1 σ H1 _ I1 q) λov s2 ⟨x,H2,I2,rx,a,C,dx,fs,ex,ea,c,n,l,q2⟩=>?_) hs;subst ex;obtain rfl:ov=Aj a:=rx;exact aHi I2 ea c n l ry λs3 I3=>⟨σ,_,I3,q2⟩
end
section
variable {X:Cx}{pins:#v[4]}{σ:St}{H:Hp}{s:Ae}{A:Bl}{E:#v[a]}{Q:#v[a]}{c:Value}{b:Bool}
inductive uP(K:Ab)(H:Hp):V->Value->Prop where
 |non:uP K H .non (.type "NoneType")
 |bl (x:Bool):uP K H (.bl x) (.type "bool")
 |int (i:Int):uP K H (.int i) (.type "int")
 |str (x:Str):uP K H (.str x) (.type "str")
 |flt (x:UInt64):uP K H (.flt x) (.type "float")
 |lst {a:Addr} {xs:List V} (e:H a=some (.lst xs)):uP K H (.ref a) (.type "list")
 |frz {a:Addr} {o:Obj} {xs:List V} (e:H a=some (.frz o (.lst xs))):uP K H (.ref a) (.type "list")
 |tup {a:Addr} {xs:List V} (e:H a=some (.tup xs)):uP K H (.ref a) (.type "tuple")
 |dK {a:Addr} {kvs:List (Key×V)} (e:H a=some (.dK kvs)):uP K H (.ref a) (.type "dict")
 |dT {a:Addr} {kvs:List (List Key×V)} (e:H a=some (.dT kvs)):uP K H (.ref a) (.type "dict")
 |ins {a C dx:Addr} {fs:List (Str×V)} (e:H a=some (.ins C dx fs)) (cl:Cls K C) (ha:Bo K (.ref C) "__class__"=some (some (.builtin "object.__class__")))
   (hn:PySem.W.specialIn K (.builtin "object.__class__") "__get__"=some (some (.builtin "getset_descriptor.__get__"))) (htk:PySem.W.takesIn K (.builtin "object.__class__")=some true)
   (hm:Vf K C (.type "object")=some true):uP K H (.ref a) (.ref C)
def aJt{x:V}{u t:Value}(I:#v[1])(rx:RelV x u)(ty:uP X.K H x t)(e:Dk X.K t c=some b)(h:∀tk,Q (.bool b) {s with toks:=tk}):
  Au #v[b] A (call (.builtin "isinstance") [u,c]) Q E s:=by
 cases ty with
 |non=>cases (show u=Cb from rx);exact Dl PySem.W.kitx_none I.kIn Ep e (λz=>nomatch z) h
 |bl y=>cases (show u=Hn y from rx);exact Dl PySem.W.kitx_bool I.kIn Ep e (λz=>nomatch z) h
 |int i=>obtain⟨t,q⟩:=(show∃t,u=Df i t from rx);cases q;exact Dl PySem.W.kitx_int I.kIn Ep e (λz=>nomatch z) h
 |str y=>obtain⟨t,q⟩:=(show∃t,u=Ko y t from rx);cases q;exact Dl PySem.W.kitx_str I.kIn Ep e (λz=>nomatch z) h
 |flt y=>obtain⟨t,q⟩:=(show∃t,u=Ml y t from rx);cases q;exact Dl PySem.W.kitx_float I.kIn Ep e (λz=>nomatch z) h
 |@lst a xs ea=>
  cases (show u=Aj a from rx);obtain⟨_,_,n,_,h1⟩:=(show cC X.prog X.w H s.heap a (.lst xs)from I.hok a _ ea);exact Dl Sj I.kIn ⟨_,h1,rfl⟩ e (λz=>nomatch z) h
 |@frz a ob xs ea=>
  cases (show u=Aj a from rx);obtain⟨_,_,_,n,_,h1⟩:=(show cC X.prog X.w H s.heap a (.frz ob (.lst xs))from I.hok a _ ea);exact Dl Sj I.kIn ⟨_,h1,rfl⟩ e (λz=>nomatch z) h
 |@tup a xs ea=>
  cases (show u=Aj a from rx);obtain⟨_,_,_,p⟩:=(show cC X.prog X.w H s.heap a (.tup xs)from I.hok a _ ea);obtain⟨o,h1,h2,_⟩:=p;exact Dl PySem.W.kitx_tuple I.kIn ⟨o,h1,h2⟩ e (λz=>nomatch z) h
 |@dK a kvs ea=>
  cases (show u=Aj a from rx);obtain⟨_,_,vs,_,p⟩:=(show cC X.prog X.w H s.heap a (.dK kvs)from I.hok a _ ea);obtain⟨o,es,ep,h1,h2,_⟩:=p;exact Dl Sk I.kIn ⟨o,h1,h2.1⟩ e (λz=>nomatch z) h
 |@dT a kvs ea=>
  cases (show u=Aj a from rx);obtain⟨_,_,xs,_,o,es,ep,h1,h2,_⟩:=(show cC X.prog X.w H s.heap a (.dT kvs)from I.hok a _ ea);exact Dl Sk I.kIn ⟨o,h1,h2.1⟩ e (λz=>nomatch z) h
 |@ins a C dx fs ea cl ha hn htk hm=>
  cases (show u=Aj a from rx);obtain⟨mA,O,_⟩:=zJ I.hok ea;obtain⟨od,J,_⟩:=O.look;exact Dl (PySem.W.kitx_own (cl.get _) cl.hd ha hn htk hm) I.kIn J e (λz=>nomatch z) h
end
structure cO(k:Nat)(A:Bl):Prop where
 hd:A.handled=none
 dp:A.depth+3*k+5<recursionLimit
 un:A.units+16*k+200<cLine
 gu:A.guards=some []
def cO.mono{j k:Nat}{A:Bl}(r:cO k A)(h:j<=k):cO j A:=⟨r.hd,by have:=r.dp;lia,by have:=r.un;lia,r.gu⟩
def cO.deeper{A:Bl}(r:cO (k+1) A)(env:Env):cO k (A.deeper env):=
 ⟨r.hd,by have:=r.dp;show A.depth+1+3*k+5<_;lia,by have:=r.un;show A.units+3+16*k+200<_;lia,r.gu⟩
def aG8{A:Bl}{C:Addr}:(A.under (.builtin "type.__call__" ⟨.ref C::us,kw⟩)).depth=A.depth+1:=by
 first|rfl|simp[Ob,Code.weight,Code.isCreation,Xz,Code.isCaller,Yv,Ry,guardIds]
def aG9{A:Bl}{C:Addr}:(A.under (.builtin "type.__call__" ⟨.ref C::us,kw⟩)).units=A.units+1:=by
 first|rfl|simp[Ob,Code.cUnits,Yv,Ry]
def cO.make{A:Bl}(r:cO (k+1) A)(C:Addr)(us:List Value)(kw:List (Str×Value)):cO k (A.under (.builtin "type.__call__" ⟨.ref C::us,kw⟩)):=
 ⟨r.hd,by have:=r.dp;rw[aG8];lia,by have:=r.un;rw[aG9];lia,by first|exact r.gu|(simp[Ob,Xz,guardIds];exact r.gu)⟩
def cO.depth{A:Bl}(r:cO k A):A.depth<recursionLimit:=by have:=r.dp;lia
def cO.units{A:Bl}(r:cO k A):A.units+64<cLine:=by have:=r.un;lia
def aQ2:TA:=λ_ H Q=>Q [] H
def aOm(ta:TE)(tr:TA):TA:=λσ H Q=>ta σ H λx H1=>tr σ H1 λxs H2=>Q (x::xs) H2
section
variable {X:Cx}{e:Bw}{es:List Bw}{te:TE}{t:TA}{pos:Pos}
def dN:PA X [] aQ2:=λ_ _ _ _ H Q I h=>Nz ⟨[],H,I,.nil,h⟩
def bK(ha:PE X e te)(hr:PA X es t)(hs:SE X e es:=by rfl):PA X (e::es) (aOm te t):=by
 intro pos pins s σ H Q I h;rw[hs];show Au _ _ (spliced ((false,eval e X.env)::Ju pos (Bc es X.env))) _ _ s;refine Nj (thn (ha pins s σ H _ I h) λu s1 ⟨x,H1,I1,r1,q1⟩=>?_);exact thn (hr pos pins s1 σ H1 _ I1 q1) λus s2 ⟨xs,H2,I2,r2,q2⟩=>⟨x::xs,H2,I2,.cons r1 r2,q2⟩
def aZk(t:TA):TE:=λσ H Q=>t σ H λxs H1=>xs.length<=sizeLine/\∀p,H1 p=none->Q (.ref p) (upd H1 p (.tup xs))
def aZg(t:TA):TE:=λσ H Q=>t σ H λxs H1=>xs.length<=sizeLine/\∀p,H1 p=none->Q (.ref p) (upd H1 p (.lst xs))
def aNt{x1}(h:PA X es t):PE X (.Tuple es x1 pos) (aZk t):=by
 intro pins s σ H Q I hq;refine wpAny_Tuple_spliced (thn (h pos pins s σ H _ I hq) λus s1 ⟨xs,H1,I1,r,z,q⟩=>⟨by rw[<-r.length];exact z,?_⟩);have hf:H1 s1.heap.objs.size=none:=I1.hok.fresh (Am _);refine⟨.ref s1.heap.objs.size,upd H1 s1.heap.objs.size (.tup xs),I1.laid (t':=s1.toks) (λb u e=>Af _ e) (Am _) ?_,rfl,q _ hf⟩;exact⟨z,us,r,⟨_,Ba _ rfl,rfl,_,rfl⟩⟩
def aUc(h:PA X es t):PE X (.List es pos) (aZg t):=by
 intro pins s σ H Q I hq;refine wpAny_List_spliced (thn (h pos pins s σ H _ I hq) λus s1 ⟨xs,H1,I1,r,z,q⟩=>⟨by rw[<-r.length];exact z,?_⟩);have hf:H1 s1.heap.objs.size=none:=I1.hok.fresh (Am _);refine⟨.ref s1.heap.objs.size,upd H1 s1.heap.objs.size (.lst xs),I1.laid (t':=s1.toks) (λb u e=>Af _ e) (Am _) ?_,rfl,q _ hf⟩;exact⟨z,us,0,r,Ba _ rfl⟩
end
abbrev Sp:=List V->Hp->VK->XK->Prop
abbrev CXT:=List Env->Hp->Ae->XK->Value->Ae->Prop
structure aGe(P:Ap)(w:Bh)(K:Ab)(mg:Str->#v[8])(base:Heap)(A:Bl)(outer:List Env)(s:Ae)(H:Hp):Prop where
 frames:A.frames=some outer
 mod:Mod K mg base
 bs:∀b o,base.get? b=some o->s.heap.get? b=some o/\H b=none
 bsz:base.objs.size<=#v[0]
 funs:s.heap.FunFrames base outer
 frf:∀b∈frs outer,H b=none
 hok:HOk P w H s.heap
 bare:Mf s.gens
def CE(outer:List Env)(P:Ap)(w:Bh)(H:Hp)(s:Ae)(Q:VK)(u:Value)(s':Ae):Prop:=
 ∃v H',s'.os=s.os/\Mf s'.gens/\Un (frs outer) [] H H' s.heap s'.heap/\HOk P w H' s'.heap/\RelV v u/\Q v H'
def CR(CX:CXT)(outer:List Env)(P:Ap)(w:Bh)(H:Hp)(s:Ae)(Q:VK)(E:XK)(r:Mg)(s':Ae):Prop:=
 match r with
 |.ok (.ret u)=>CE outer P w H s Q u s'
 |.ok _=>False
 |.error e=>CX outer H s E e s'
structure bG(P:Ap)(w:Bh)(K:Ab)(mg:Str->#v[8])(base:Heap)(CX:CXT)(k:Nat)(f:Addr)(fd:Bb)(ps:List Str)(sp:Sp):Prop where
 len:∀vs H Q E,sp vs H Q E->vs.length=ps.length
 run:∀(A:Bl)(outer:List Env)(s:Ae)(H:Hp)(args:Args)(us:List Value)(vs:List V)(Q:VK)(E:XK),cO k A->aGe P w K mg base A outer s H->Ub s fd args (ps.zip us)->Vals vs us->sp vs H Q E->
  Gr (model P w) A (.call (.ref f) args) (CR CX outer P w H s Q E) s
def bG.mono{P:Ap}{w:Bh}{K:Ab}{CX:CXT}{j k:Nat}{f:Addr}{fd:Bb}{ps:List Str}{sp:Sp}(F:bG P w K mg base CX j f fd ps sp)(h:j<=k):
  bG P w K mg base CX k f fd ps sp:=⟨F.len,λA outer s H args us vs Q E hr=>F.run A outer s H args us vs Q E (hr.mono h)⟩
def aGe.make{P:Ap}{w:Bh}{K:Ab}{A:Bl}{outer:List Env}{s:Ae}{H:Hp}(e:aGe P w K mg base A outer s H)(C:Addr)(us:List Value)(kw:List (Str×Value)):
  aGe P w K mg base (A.under (.builtin "type.__call__" ⟨.ref C::us,kw⟩)) outer s H:=⟨by first|exact e.frames|(simpa[Ob,Code.envs,Ry,pushEnvs]using e.frames),e.mod,e.bs,e.bsz,e.funs,e.frf,e.hok,e.bare⟩
section
variable {X:Cx}{pins:#v[4]}{σ:St}{H:Hp}{s s':Ae}
def Inv.env0(I:#v[1]):aGe X.prog X.w X.K X.mg X.base X.A X.stack s H:=
 ⟨I.ok.frames,I.ok.mod,I.bs,Bd I.ok.bsz I.sz,I.stack,I.stkFree,I.hok,I.bare⟩
def Inv.after{Q:VK}(I:#v[1])(h:CE X.stack X.prog X.w H s Q u s'):EP X pins σ Q u s':=by
 obtain⟨v,H',os,bare,un,hok,r,q⟩:=h;obtain⟨hh,g,d,t,os'⟩:=s';obtain rfl:os'=s.os:=os;exact⟨v,H',I.call (h':=hh) (g':=g) (d':=d) (t':=t) (ch:=[]) un hok bare (λb z=>absurd z (by simp)),r,q⟩
end
def aSv(sp:Sp)(dvs:List V)(E:XK)(t:TA):TE:=λσ H Q=>t σ H λvs H1=>sp (vs++dvs) H1 Q E
def aXt(C:Addr)(sp:Sp)(dvs:List V)(E:XK)(t:TA):TE:=λσ H Q=>t σ H λvs H1=>∀x dx,H1 x=none->H1 dx=none->dx≠x->
 sp (.ref x::(vs++dvs)) (upd (upd H1 dx (.own x)) x (.ins C dx [])) (λv H2=>v=.non/\Q (.ref x) H2) E
def Binds(K:Ab)(fd:Bb)(ps:List Str)(ds:List Value):Prop:=
 ∀(s:Ae)(us:List Value),K.In s.heap->(us++ds).length=ps.length->Ub s fd ⟨us,[]⟩ (ps.zip (us++ds))
def Binds.all{K:Ab}{fd:Bb}{ps:List Str}(h:∀us:List Value,us.length=ps.length->Ez fd ⟨us,[]⟩=pure (ps.zip us)):Binds K fd ps []:=λs us _ hl=>by
 rw[Bs]at hl⊢;exact .of_eq (h us hl)
def jX(CX:CXT)(X:Cx)(E:XK):Prop:=∀(pins:#v[4])(σ:St)(H:Hp)(s:Ae)(e:Value)(s':Ae),#v[1]->CX X.stack H s E e s'->X.xe e s'
section
variable {X:Cx}{CX:CXT}{k:Nat}{f C:Addr}{fd:Bb}{ps:List Str}{sp:Sp}{dvs:List V}{ds:List Value}{E:XK}{x m:Str}{p pos apos:Pos}{e o:Bw}{es:List Bw}{ta:TE}{t:TA}
def aN8{pins:#v[4]}{σ:St}{H:Hp}{s:Ae}{Q:VK}{vs:List V}(F:bG X.prog X.w X.K X.mg X.base CX k f fd ps sp)(hr:cO k X.A)(hb:Binds X.K fd ps ds)(hd:Vals dvs ds)(hx:jX CX X E)
  (I:#v[1]) (r:Vals vs us) (h:sp (vs++dvs) H Q E):Au #v[b] X.A (call (.ref f) us) (EP X pins σ Q) X.xe s:=by
 have r2:Vals (vs++dvs) (us++ds):=r.append hd;have hl:(us++ds).length=ps.length:=by rw[<-r2.length];exact F.len _ _ _ _ h
 refine Le (Js (F.run X.A X.stack s H ⟨us,[]⟩ (us++ds) (vs++dvs) Q E hr I.env0 (hb s us I.kIn hl) r2 h) λr s' hq=>?_);cases r with
 |error e=>exact hx pins σ H s e s' I hq
 |ok fl=>
  cases fl with
  |ret u=>exact I.after hq
  |next=>exact Dw hq
  |brk=>exact Dw hq
  |cont=>exact Dw hq
def aIn(F:bG X.prog X.w X.K X.mg X.base CX k f fd ps sp)(hr:cO k X.A)(hg:Gl X x)(hm:X.mg x=some (.ref f))(hk:Gi X.K (.ref f)=true)(hb:Binds X.K fd ps ds)(hd:Vals dvs ds)(hx:jX CX X E)
  (ha:PA X (e::es) t) (hdb:ND x:=by decide) (he:SE X e es:=by rfl) (hpl:BT X pos es:=by rfl):
  PE X (.Call (.Name x p) (e::es) [] pos) (aSv sp dvs E t):=by
 intro pins s σ H Q I h;refine Hh (vA I hg hm ?_ hdb);refine Mm (h₀:=X.base) I.ok.mod.kin hk (thn (ha pos pins s σ H _ I h) λus s1 ⟨vs,H1,I1,r,q⟩=>⟨I1.kIn,?_⟩) he hpl;exact aN8 F hr hb hd hx I1 r q
structure Mk(K:Ab)(C f:Addr):Prop where
 makes:Of K C=true
 init:Bo K (.ref C) "__init__"=some (some (.ref f))
 fn:Re K (.ref f)=true
 kp:Gi K (.ref C)=true
def aOa{pins:#v[4]}{σ:St}{H:Hp}{s:Ae}{Q:VK}{vs:List V}(M:Mk X.K C f)(F:bG X.prog X.w X.K X.mg X.base CX k f fd ps sp)(hr:cO (k+1) X.A)(hb:Binds X.K fd ps ds)(hd:Vals dvs ds)
  (hx:jX CX X E) (I:#v[1]) (r:Vals vs us)
  (h:∀x dx,H x=none->H dx=none->dx≠x->sp (.ref x::(vs++dvs)) (upd (upd H dx (.own x)) x (.ins C dx [])) (λv H2=>v=.non/\Q (.ref x) H2) E):
  Au #v[b] X.A (call (.ref C) us) (EP X pins σ Q) X.xe s:=by
 have hq:=h (#v[0]+1) #v[0] (I.hok.fresh (Gp _)) (I.hok.fresh (Am _)) (Be (Fs _));have I2:=Inv.made (C:=C) I;have r2:Vals (V.ref (#v[0]+1)::(vs++dvs)) (Aj (#v[0]+1)::(us++ds)):=.cons rfl (r.append hd);have hl:(Aj (#v[0]+1)::us++ds).length=ps.length:=by
  have e:=r2.length;rw[F.len _ _ _ _ hq]at e;exact e.symm
 refine Le (aMv (f:=f) I.kIn M.makes M.init (beq_iff_eq.mp M.fn) (Js (F.run _ X.stack _ _ ⟨Aj (#v[0]+1)::us,[]⟩ (Aj (#v[0]+1)::(us++ds)) _ _ E (hr.make C us [])
  (I2.env0.make C us []) (hb _ (Aj (#v[0]+1)::us) I2.kIn hl) r2 hq) λr s' hq'=>?_))
 cases r with
 |error e=>exact hx pins σ _ _ e s' I2 hq'
 |ok fl=>
  cases fl with
  |ret u=>
   obtain⟨v,H',I3,rv,ev,q3⟩:=I2.after hq';subst ev;exact⟨rv,⟨V.ref (#v[0]+1),H',I3,rfl,q3⟩⟩
  |next=>exact Dw hq'
  |brk=>exact Dw hq'
  |cont=>exact Dw hq'
def aIq(M:Mk X.K C f)(F:bG X.prog X.w X.K X.mg X.base CX k f fd ps sp)(hr:cO (k+1) X.A)(hg:Gl X x)(hm:X.mg x=some (.ref C))(hb:Binds X.K fd ps ds)(hd:Vals dvs ds)(hx:jX CX X E)
  (ha:PA X (e::es) t) (hdb:ND x:=by decide) (he:SE X e es:=by rfl) (hpl:BT X pos es:=by rfl):
  PE X (.Call (.Name x p) (e::es) [] pos) (aXt C sp dvs E t):=by
 intro pins s σ H Q I h;refine Hh (vA I hg hm ?_ hdb);refine Mm (h₀:=X.base) I.ok.mod.kin M.kp (thn (ha pos pins s σ H _ I h) λus s1 ⟨vs,H1,I1,r,q⟩=>⟨I1.kIn,?_⟩) he hpl;exact aOa M F hr hb hd hx I1 r q
end
def PK(X:Cx)(kws:List Jm)(t:TA):Prop:=
 ∀(pos:Pos)(pins:#v[4])(s:Ae)(σ:St)(H:Hp)(Q:List V->Hp->Prop),#v[1]->t σ H Q->Au #v[b] X.A (evalAll ((Gh pos (Do kws X.env)).map (·.2))) (AP X pins σ Q) X.xe s
section
variable {X:Cx}{CX:CXT}{k:Nat}{f C:Addr}{fd:Bb}{ps ks:List Str}{sp:Sp}{E:XK}{x m:Str}{p pos apos kpos:Pos}{e o:Bw}{es:List Bw}{kws:List Jm}{te ta:TE}{t tk:TA}{nm:Option Str}
def aUh:PK X [] aQ2:=λ_ _ _ _ H Q I h=>wpAny_evalAll_nil ⟨[],H,I,.nil,h⟩
def aQi(ha:PE X e te)(hr:PK X kws t):PK X (⟨nm,e,kpos⟩::kws) (aOm te t):=by
 intro pos pins s σ H Q I h;show Au _ _ (evalAll ((do let v<-eval e X.env;Lr pos;pure v)::(Gh pos (Do kws X.env)).map (·.2))) _ _ s;refine wpAny_evalAll_cons (Aa (thn (ha pins s σ H _ I h) λu s1 ⟨x,H1,I1,r1,q1⟩=>Aa (Iy (Ad ?_))));exact thn (hr pos pins s1 σ H1 _ I1 q1) λus s2 ⟨xs,H2,I2,r2,q2⟩=>⟨x::xs,H2,I2,.cons r1 r2,q2⟩
variable {g:List Value->List Value->List Value}{gV:List V->List V->List V}
end
structure aP(N P:List Str)(sc:Scope):Prop where
 kind:sc.kind=.function:=by rfl
 co:sc.isCoroutine=false:=by rfl
 gen:sc.isGenerator=false:=by rfl
 nd:N.Nodup:=by decide+kernel
 pre:N.take P.length=P:=by rfl
 par:∀x∈P,sc.names.lookup x=some .local∨sc.names.lookup x=some .cell:=by decide+kernel
 nofree:∀y∈sc.names,y.2≠.free:=by decide+kernel
theorem aCa{kindOf:Str->Option Ja}{x:Str}:∀{binds:List (Str×Value)}{m:Str->#v[8]},(∀v,(x,v)∉binds)->Xp kindOf binds m x=m x
 | [],_,_=>rfl
 |(n,v)::r,m,h=>by
  unfold Xp;rw[aCa λw hw=>h w (Ag _ hw)];split
  ·have:x≠n:=by rintro rfl;exact h v Ah
   simp[this]
  ·rfl
theorem aB8{kindOf:Str->Option Ja}{x:Str}:∀{binds:List (Str×Value)}{m:Str->#v[8]},(∀v,(x,v)∉binds)->Xq kindOf binds m x=m x
 | [],_,_=>rfl
 |(n,v)::r,m,h=>by
  unfold Xq;rw[aB8 λw hw=>h w (Ag _ hw)];split
  ·rfl
  ·have:x≠n:=by rintro rfl;exact h v Ah
   simp[this]
theorem aB9{kindOf:Str->Option Ja}{x:Str}{v:Value}:∀{P:List Str}{vs:List Value}{i:Nat}{m:Str->#v[8]},P.Nodup->P[i]? =some x->vs[i]? =some v->kindOf x=some .local->
  Xp kindOf (P.zip vs) m x=some v
 | [],_,_,_,_,h,_,_=>by simp at h
 |_::_,[],_,_,_,_,h,_=>by simp at h
 |p::P,w::vs,0,m,nd,h1,h2,hk=>by
  simp at h1 h2;subst h1;subst h2;show Xp kindOf ((p,w)::P.zip vs) m p=_;unfold Xp;rw[aCa λv hv=>(El.mp nd).1 (Ln hv).1,if_pos hk];simp
 |p::P,w::vs,i+1,m,nd,h1,h2,hk=>by
  show Xp kindOf ((p,w)::P.zip vs) m x=_;unfold Xp;exact aB9 (i:=i) (El.mp nd).2 (by simpa using h1) (by simpa using h2) hk
theorem aB7{kindOf:Str->Option Ja}{x:Str}{v:Value}:∀{P:List Str}{vs:List Value}{i:Nat}{m:Str->#v[8]},P.Nodup->P[i]? =some x->vs[i]? =some v->kindOf x≠some .local->
  Xq kindOf (P.zip vs) m x=some v
 | [],_,_,_,_,h,_,_=>by simp at h
 |_::_,[],_,_,_,_,h,_=>by simp at h
 |p::P,w::vs,0,m,nd,h1,h2,hk=>by
  simp at h1 h2;subst h1;subst h2;show Xq kindOf ((p,w)::P.zip vs) m p=_;unfold Xq;rw[aB8 λv hv=>(El.mp nd).1 (Ln hv).1,if_neg hk];simp
 |p::P,w::vs,i+1,m,nd,h1,h2,hk=>by
  show Xq kindOf ((p,w)::P.zip vs) m x=_;unfold Xq;exact aB7 (i:=i) (El.mp nd).2 (by simpa using h1) (by simpa using h2) hk
def start(N:List Str)(vs:List V):St:=vs.map some++Al (N.length-vs.length) none
def uV(CX:CXT)(P:Ap)(w:Bh)(K:Ab)(mg:Str->#v[8])(base:Heap)(N:List Str)(qual:Str)(scope:Scope)(f:Addr)(cd:Value)(A:Bl)(outer:List Env)(s:Ae)(H:Hp)(E:XK):Cx where
 prog:=P
 w:=w
 K:=K
 mg:=mg
 base:=base
 A:=A.deeper (Ke qual scope #v[0] f cd)
 N:=N
 s₀:=s
 H₀:=H
 env:=Ke qual scope #v[0] f cd
 outer:=outer
 stack:=Ke qual scope #v[0] f cd::outer
 ex:=[]
 calm:=true
 fn:=λ_=>true
 pn:=[]
 xe:=λe s'=>Au (model P w) (A.deeper (Ke qual scope #v[0] f cd)) (leaving (Ke qual scope #v[0] f cd) e) (λ_ s''=>CX outer H s E e s'') (λe' s''=>CX outer H s E e' s'') s'
def bY{sc:Scope}{n:Nat}{x:Str}(h:sc.names.lookup x=some .cell):∃c,(Ef n sc.names []).lookup x=some c:=by
 have q:=Kv sc.names n [] (.inl h);exact Qc.mp q
def aJr{CX:CXT}{P:Ap}{w:Bh}{K:Ab}{qual:Str}{scope:Scope}{f:Addr}{cd:Value}{A:Bl}{outer:List Env}{s s1:Ae}{H:Hp}{E:XK}{vs:List V}
  (S:aP N ps scope) (hd:A.handled=none) (e0:aGe P w K mg base A outer s H) (hl:vs.length=ps.length) (r:Vals vs us)
  (x:InCallC s #v[0] (Xp (Ke qual scope #v[0] f cd).kindOf (ps.zip us) λ_=>none) (Ef (#v[0]+1) scope.names []) (Xq (Ke qual scope #v[0] f cd).kindOf (ps.zip us) λ_=>none) s1):
  Inv (uV CX P w K mg base N qual scope f cd A outer s H E) [] (start N vs) H s1:=by
 have hpl:ps.length<=N.length:=by have:=congrArg Pl S.pre;rw[Hk]at this;lia
 obtain⟨h1,tk,rfl,hk⟩:=x.done;have noA:∀b:Addr,b∉(uV CX P w K mg base N qual scope f cd A outer s H E).ex:=λb z=>absurd (show b∈([]:List Addr)from z) (by simp);refine⟨⟨e0.mod,S.kind,rfl,rfl,Am _,λy z c h1 h2=>?_,λy hy=>?_,λy c _ h=>?_,λ_=>hd,Around.frames_deeper e0.frames,.inr ⟨rfl,rfl⟩,λb z=>absurd z (noA b),e0.bs,e0.bsz,λb _ _=>noA b,λb z=>absurd z (noA b),e0.funs,e0.frf⟩,
  rfl,e0.bare,Un.kept hk,⟨_,x.toInCall.ns,λi y v h1 h2 h3=>?_⟩,λy c h=>⟨_,x.cell y c h⟩,e0.hok.fresh (Am _),λy c h=>?_,λp hp=>absurd (show p∈([]:#v[4])from hp) (by simp),e0.hok.kept hk,?_⟩
 ·exact name_of_addr x.apart (Bz h1) (Bz h2)
 ·have hy:scope.names.lookup y=some .cell∨scope.names.lookup y=some .free:=hy;rcases hy with hy|hy
  ·exact bY hy
  ·exact absurd rfl (S.nofree _ (Bz hy))
 ·exact Mc (x.above y c (Bz h))
 ·have hi:i<vs.length:=by
   unfold start at h2;by_cases hi:i<vs.length
   ·exact hi
   ·rw[Fm (by simpa using hi)]at h2;rw[Bk]at h2;split at h2<;>cases h2
  have ha:vs[i]? =some v:=by
   unfold start at h2;rw[Cq (by simpa using hi),Ay]at h2;cases e:vs[i]? with
   |none=>rw[e]at h2;cases h2
   |some a=>rw[e]at h2;cases h2;rfl
  obtain⟨u,hu,rv⟩:=r.get ha;have hp:ps[i]? =some y:=by
   rw[<-S.pre,List.getElem?_take_of_lt ∅];exact h1
  have ndP:ps.Nodup:=by rw[<-S.pre];exact S.nd.sublist (Od _ _)
  refine⟨u,rv,?_⟩;rcases S.par y (Cf hp)with k|k
  ·exact .inl ⟨k,aB9 ndP hp hu k⟩
  ·obtain⟨c,e⟩:=bY (n:=#v[0]+1) k;refine .inr ⟨.inl k,c,e,?_⟩;have q:=x.cell y c e;rw[aB7 ndP hp hu (by show scope.names.lookup y≠_;rw[k];decide)]at q;exact q
 ·exact e0.hok.fresh (Mc (x.above y c (Bz h)))
 ·unfold start;show _=N.length;rw[An,Ac,Cy]
  lia
def aSh{CX:CXT}{P:Ap}{w:Bh}{K:Ab}{f:Addr}{name qual:Str}{params:Arguments}{scope:Scope}{dV kV doc pm cdv ct oc:Value}{an od:Option Addr}
  {osl:Array (#v[8])} {sp:Sp} (lk:K.lookup f=some ⟨oc,od,.func (Fl name qual params body scope dV kV doc pm an cdv ct),osl⟩) (hcd:Oz K cdv qual=true) (S:aP N ps scope)
  (len:∀vs H Q E,sp vs H Q E->vs.length=ps.length)
  (hbody:∀(A:Bl)(outer:List Env)(s:Ae)(H:Hp)(vs:List V)(Q:VK)(E:XK),cO k (A.deeper (Ke qual scope #v[0] f cdv))->sp vs H Q E->
   ∃t,PSs (uV CX P w K mg base N qual scope f cdv A outer s H E) body t/\t {nx:=λ_ H'=>Q .non H',rt:=Q} (start N vs) H):
  bG P w K mg base CX (k+1) f (Fl name qual params body scope dV kV doc pm an cdv ct) ps sp:=by
 refine⟨len,λA outer s H args us vs Q E hr e0 hb r hsp=>?_⟩;have hl:=len _ _ _ _ hsp;have KX:K.In s.heap:=e0.mod.kin.keeps λb o e=>(e0.bs b o e).1;have lim:s.heap.NoLimit:=e0.mod.nolimit.keeps λb o e=>(e0.bs b o e).1;have hkind:∀y∈ps.zip us,scope.names.lookup y.1=some .local∨(scope.names.lookup y.1=some .cell/\((Ef (#v[0]+1) scope.names []).lookup y.1).isSome=true):=λ⟨n,v⟩ hy=>by
  rcases S.par n (Ln hy).1 with q|q
  ·exact .inl q
  ·exact .inr ⟨q,Kv _ _ _ (.inl q)⟩
 refine codeAny_call_function hr.depth (KX _ _ lk) rfl S.co S.gen rfl (PySem.W.codeRec_of KX hcd) (hb _ _ _ _ ?_);refine wpAny_newFunctionEnv_cells S.kind hkind λenv he s1 x=>?_;subst he;refine⟨lim.keeps x.toInCall.keep,codeAny_func ?_⟩;obtain⟨t,ht,hq⟩:=hbody A outer s H vs Q E (hr.deeper _) hsp;have I:Inv (uV CX P w K mg base N qual scope f cdv A outer s H E) [] (start N vs) H s1:=aJr S hr.hd e0 hl r x;refine Dc (ht [] s1 (start N vs) H _ I hq) (λfl s' hs=>?_) λe s' hs=>hs;have fin:∀{σ':St}{H':Hp}{v:V}{u:Value},Inv (uV CX P w K mg base N qual scope f cdv A outer s H E) [] σ' H' s'->RelV v u->Q v H'->CE outer P w H s Q u s':=
  λ{σ' H' v u} J rv q=>⟨v,H',J.os,J.bare,J.base,J.hok,rv,q⟩
 cases fl with
 |ret u=>
  obtain⟨v,σ',H',J,rv,q⟩:=hs;exact fin J rv q
 |next=>
  obtain⟨σ',H',J,q⟩:=hs;exact fin (v:=V.non) (u:=Cb) J rfl q
 |brk=>
  obtain⟨_,_,_,q⟩:=hs;exact Dw q
 |cont=>
  obtain⟨_,_,_,q⟩:=hs;exact Dw q
section
variable {X:Cx}{x:Str}{p pos:Pos}{e:Bw}{es:List Bw}{t:TA}{id T:String}{r:List V->Hp->VK->Prop}
def tCB(r:List V->Hp->VK->Prop)(t:TA):TE:=λσ H Q=>t σ H λvs H1=>r vs H1 Q
def jT(hc:gF X (.builtin id) r)(hg:Gl X x)(hm:X.mg x=none)(hv:Gc x=some (.builtin id))(ha:PA X (e::es) t)(hn:x≠"__name__":=by decide)(hdb:ND x:=by decide)
  (he:SE X e es:=by rfl) (hpl:BT X pos es:=by rfl):PE X (.Call (.Name x p) (e::es) [] pos) (tCB r t):=by
 intro pins s σ H Q I h;refine Hh (wV I hg hm hv ?_ hn hdb);exact Yn (thn (ha pos pins s σ H _ I h) λus s1 ⟨vs,H1,I1,r1,q1⟩=>hc pins s1 σ H1 vs us Q I1 r1 q1) he hpl
def xG(hc:gF X (.type T) r)(hg:Gl X x)(hm:X.mg x=none)(hv:Gc x=some (.type T))(ha:PA X (e::es) t)(hn:x≠"__name__":=by decide)(hdb:ND x:=by decide)
  (he:SE X e es:=by rfl) (hpl:BT X pos es:=by rfl):PE X (.Call (.Name x p) (e::es) [] pos) (tCB r t):=by
 intro pins s σ H Q I h;refine Hh (wV I hg hm hv ?_ hn hdb);exact Iq (thn (ha pos pins s σ H _ I h) λus s1 ⟨vs,H1,I1,r1,q1⟩=>hc pins s1 σ H1 vs us Q I1 r1 q1) he hpl
end
end L2
namespace HT
open PySem PyProof.Rows
section
open PySem.SeqAt
open PySem.AutoSeq1 (wpAny_loadPart')
open PySem.MeetsSeq PySem.MeetsSeq2 PySem.MeetsSeq3
end
variable {prog:Ap}{w:Bh}{A:Bl}{E:#v[a]}{s:Ae}
def aPm{t b:Addr}{vs ws:List Value}{Q:#v[a]}(ht:IsTup s.heap t vs.toArray)(hb:IsTup s.heap b ws.toArray)(hv:vs≠[])
  (h1:ws=[]->Q (.ref t) s) (h2:ws≠[]->Q (.ref #v[0]) {s with heap:=s.heap.push {cls:=.type "tuple",data:=.seq (vs++ws).toArray}})
  (hsz:vs.length+ws.length<=sizeLine):Au #v[c] A (Gs .Add (.ref t) (.ref b)) Q E s:=by
 obtain⟨⟨cls,dd,data,sl⟩,ho,hc,n,hd⟩:=id ht;obtain⟨⟨cls2,dd2,data2,sl2⟩,ho2,hc2,n2,hd2⟩:=id hb;simp only at hc hd hc2 hd2;subst hc hd hc2 hd2;have e:vs.toArray++ws.toArray=(vs++ws).toArray:=by simp
 by_cases hw:ws=[]
 ·exact Vb ⟨_,ho,rfl⟩ ⟨_,ho2,rfl⟩ Qw Th Kw Kq (Kf _ _)
   (tuple_addW1 t b vs.toArray ws.toArray n n2 dd dd2 sl sl2 (by simpa using hv) (by simp[hw])) ⟨ho,ho2,h1 hw⟩
 ·refine Vb ⟨_,ho,rfl⟩ ⟨_,ho2,rfl⟩ Qw Th Kw Kq (Kf _ _)
   (tuple_addW2 t b vs.toArray ws.toArray n n2 dd dd2 sl sl2 (by simpa using hv) (by simpa using hw) (by rw[Ai,Ai];exact hsz)) ⟨ho,ho2,?_⟩
  rw[e];exact h2 hw
def sIx(n d:Nat):Option Int->Nat
 |none=>d
 |some v=>if v<0 then(v+(n:Int)).toNat else min v.toNat n
def aUu(n d:Nat)(hd:d<=n)(o:Option Int):sIx n d o<=n:=by
 cases o with
 |none=>exact hd
 |some v=>
  show(if v<0 then(v+(n:Int)).toNat else min v.toNat n)<=n;by_cases hv:v<0
  ·rw[if_pos hv];lia
  ·rw[if_neg hv];exact Nat.min_le_right _ _
def aH6(v:Int)(n d:Nat):(if v<0 then max (v+(n:Int)) 0 else min v (n:Int))=((sIx n d (some v):Nat):Int):=by
 show(if v<0 then max (v+(n:Int)) 0 else min v (n:Int))=(((if v<0 then(v+(n:Int)).toNat else min v.toNat n):Nat):Int);by_cases hv:v<0
 ·simp only[if_pos hv];lia
 ·simp only[if_neg hv];lia
def aGm(lo hi:Option Int)(n:Nat):Jg lo hi 1 (n:Int)=(((sIx n 0 lo:Nat):Int),((sIx n n hi:Nat):Int)):=by
 have h1:¬((1:Int)<0):=by lia
 unfold Jg;simp only[h1,if_false];refine Pb ?_ ?_
 ·cases lo with
  |none=>rfl
  |some v=>exact aH6 v n 0
 ·cases hi with
  |none=>rfl
  |some v=>exact aH6 v n n
def aHf(i j:Nat):Gv (i:Int) (j:Int) 1=j-i:=by
 unfold Gv;have h1:(1:Int)>0:=by lia
 simp only[h1,if_true,Int.ediv_one];split<;>lia
def aA8{v:Value}{o:Option Int}{Q:Option Int->Ae->Prop}(p:Sw v o)(h:Q o s):Au #v[c] A (Yb v) Q E s:=by
 cases p with
 |none=>exact slicePart_none h
 |int i t=>exact slicePart_int h
def xQ{sl:Addr}{vl vu:Value}{lo hi:Option Int}{n:Nat}{Q:Int×Int×Nat->Ae->Prop}(hs:s.heap.IsSliceOf sl vl vu .none)(pl:Sw vl lo)(pu:Sw vu hi)
  (h:Q (((sIx n 0 lo:Nat):Int),1,sIx n n hi-sIx n 0 lo) s):Au #v[c] A (Ms (.ref sl) (pure (n:Int))) Q E s:=by
 obtain⟨os,hos,hcs,hds⟩:=id hs;unfold Ms Yc;refine Aa (Aa (Hj hos hds (x:=vl) rfl (Aa (Hj hos hds (x:=vu) rfl (Aa (Hj hos hds (x:=.none) rfl (Ad ?_)))))));refine Aa (slicePart_none ?_);show Au _ _ (if((1:Int)==0)=true then _ else _) _ _ s;rw[if_neg ⋯];refine Aa (aA8 pl (Aa (aA8 pu (Aa (Ad ?_)))));show Au _ _ (match Jg lo hi 1 (n:Int)with|(lo,hi)=>pure (lo,(1:Int),Gv lo hi 1)) _ _ s;rw[aGm lo hi n];show Au _ _ (pure (((sIx n 0 lo:Nat):Int),(1:Int),Gv ((sIx n 0 lo:Nat):Int) ((sIx n n hi:Nat):Int) 1)) _ _ s;rw[aHf];exact Ad h
def aNu(xs:Array Value)(i k:Nat):((Cj k).filterMap λ(m:Nat)=>xs[((i:Int)+(m:Int)*1).toNat]?).toArray=((xs.toList.drop i).take k).toArray:=by
 have e:(λ(m:Nat)=>xs[((i:Int)+(m:Int)*1).toNat]?)=λm=>xs[i+m]? :=by
  funext m;have:((i:Int)+(m:Int)*1).toNat=i+m:=by lia
  rw[this]
 rw[e];have:=pick_run xs i k;rw[List.filterMap_map]at this;have e2:((λx=>xs[x]?)∘λx=>i+x)=λm=>xs[i+m]? :=rfl;rw[e2]at this;rw[this]
def uY{t sl:Addr}{items:Array Value}{vl vu:Value}{lo hi:Option Int}{Q:#v[a]}(ht:IsTup s.heap t items)(hs:s.heap.IsSliceOf sl vl vu .none)(pl:Sw vl lo)(pu:Sw vu hi)
  (hw:¬(sIx items.size 0 lo=0/\sIx items.size items.size hi=items.size))
  (h:Q (.ref #v[0]) {s with heap:=s.heap.push {cls:=.type "tuple",data:=.seq ((items.toList.drop (sIx items.size 0 lo)).take (sIx items.size items.size hi-sIx items.size 0 lo)).toArray}})
  (hsz:items.size<=sizeLine):Au #v[c] A (Px (.ref t) (.ref sl)) Q E s:=by
 have htake:sizeOk (.seq ((items.toList.drop (sIx items.size 0 lo)).take (sIx items.size items.size hi-sIx items.size 0 lo)).toArray):=by
  show((items.toList.drop (sIx items.size 0 lo)).take (sIx items.size items.size hi-sIx items.size 0 lo)).toArray.size<=sizeLine;rw[Ai,Hk,Ji,Aw]
  lia
 have hj:sIx items.size items.size hi<=items.size:=aUu _ _ (Am _) hi;obtain⟨os,hos,hcs,hds⟩:=id hs;have hTs:s.TypeIs (.ref sl) "slice":=⟨os,hos,hcs⟩;unfold Px
 try with_reducible refine Cg ?_
 first|refine Aa (Ad ?_)|skip
 refine Aa (wpAny_sequenceKey ht.typeIs ⋯ ?_);refine Aa (Sz (name:=Ht "__getitem__") ht.typeIs Ho
  (Ga Ho ht.typeIs entry_tuple_getitem ?_ (args_tuple_getitem _ _)))
 show Au _ _ (Mr (.ref t)>>=_) _ _ s;refine Aa (tupleItemsOf_ ht ?_);refine Aa (Mv hTs ?_);rw[if_pos ⋯];refine Aa (xQ hs pl pu ?_);have hno:¬((((sIx items.size 0 lo:Nat):Int)==0 && (1:Int)==1 && (sIx items.size items.size hi-sIx items.size 0 lo)==items.size)=true):=by
  intro q;rw[Dp,Dp]at q;have q1:((sIx items.size 0 lo:Nat):Int)=0:=eq_of_beq q.1.1;have q2:sIx items.size items.size hi-sIx items.size 0 lo=items.size:=eq_of_beq q.2;exact hw ⟨∅,∅⟩
 show Au _ _ (if(((sIx items.size 0 lo:Nat):Int)==0 && (1:Int)==1 && (sIx items.size items.size hi-sIx items.size 0 lo)==items.size)=true then _ else _) _ _ s;rw[if_neg hno,aNu];first
  |exact Aa (m:=He _) (Dj (Ad ⟨_,rfl,Ad h⟩) htake)
  |exact Aa (m:=He _) (Dj (Aa (Ad (Ad ⟨_,rfl,Ad h⟩))) htake)
  |exact Aa (Aa (m:=He _) (Dj (Ad (Ad ⟨_,rfl,Ad h⟩)) htake))
  |exact Aa (Aa (m:=He _) (Dj (Ad ⟨_,rfl,Ad h⟩) htake))
end HT
namespace L2
variable {pins:#v[4]}{its its':List Value}{us:List Value}{α:Type}{n:Nat}
open PySem PySem.Spec PyProof.Rows
abbrev TO:=St->Hp->(Option Int->Hp->Prop)->Prop
def PO(X:Cx)(e:Option Bw)(t:TO):Prop:=
 ∀(pins:#v[4])(s:Ae)(σ:St)(H:Hp)(Q:Option Int->Hp->Prop),#v[1]->t σ H Q->
  Au #v[b] X.A (evalPart e X.env) (λu s'=>∃o H',Inv X pins σ H' s'/\Sw u o/\Q o H') X.xe s
def aQ3:TO:=λ_ H Q=>Q none H
def aXw(t:TE):TO:=λσ H Q=>t σ H λx H1=>∃i,x=.int i/\Q (some i) H1
def intsAre_of{ns:List Int}:∀{us:List Value},Vals (ns.map V.int) us->Ni us ns:=by
 induction ns with
 |nil=>intro us r;rw[Hs]at r;cases r;exact .nil
 |cons n ns ih=>
  intro us r;rw[Da]at r;cases r with
  |cons r1 r2=>
   obtain⟨t,e⟩:=r1;subst e;exact .cons n t (ih r2)
variable {X:Cx}{e:Bw}{te:TE}{lo hi:Option Bw}{tl th:TO}{pos p2:Pos}
def aQj:PO X none aQ3:=by
 intro pins s σ H Q I h;rw[evalPart_none];exact Ad ⟨none,H,I,.none,h⟩
def aQk(h:PE X e te):PO X (some e) (aXw te):=by
 intro pins s σ H Q I hw;rw[evalPart_some];refine thn (h pins s σ H _ I hw) λu s1 ⟨x,H1,I1,r1,q1⟩=>?_;obtain⟨i,rfl,q⟩:=q1;obtain⟨t,rfl⟩:=r1;exact⟨some i,H1,I1,.int i t,q⟩
def SlR(X:Cx)(r:V->Option Int->Option Int->Hp->VK->Prop):Prop:=
 ∀(pins:#v[4])(s:Ae)(σ:St)(H:Hp)(x:V)(v vl vu:Value)(lo hi:Option Int)(sl:Addr)(Q:VK),#v[1]->RelV x v->s.heap.IsSliceOf sl vl vu .none->Sw vl lo->Sw vu hi->r x lo hi H Q->
  ∃T id,Lf (.type T) "__getitem__"=pure (some (.builtin id))/\s.TypeIs v T/\Au #v[b] X.A (Px v (.ref sl)) (EP X pins σ Q) X.xe s
def SlR.or{r r':V->Option Int->Option Int->Hp->VK->Prop}(h:SlR X r)(h':SlR X r'):SlR X (λx lo hi H Q=>r x lo hi H Q∨r' x lo hi H Q):=by
 intro pins s σ H x v vl vu lo hi sl Q I rx hs pl pu q;rcases q with q|q
 ·exact h pins s σ H x v vl vu lo hi sl Q I rx hs pl pu q
 ·exact h' pins s σ H x v vl vu lo hi sl Q I rx hs pl pu q
def tSl(r:V->Option Int->Option Int->Hp->VK->Prop)(te:TE)(tl th:TO):TE:=λσ H Q=>te σ H λx H1=>tl σ H1 λl H2=>th σ H2 λu H3=>r x l u H3 Q
def aNs{r:V->Option Int->Option Int->Hp->VK->Prop}(hr:SlR X r)(he:PE X e te)(hl:PO X lo tl)(hu:PO X hi th):PE X (.Subscript e (.Slice lo hi none p2) pos) (tSl r te tl th):=by
 intro pins s σ H Q I h;refine Xs (thn (he pins s σ H _ I h) λv s1 ⟨x,H1,I1,r1,q1⟩=>?_);refine wpAny_Slice (thn (hl pins s1 σ H1 _ I1 q1) λvl s2 ⟨l,H2,I2,pl,q2⟩=>thn (hu pins s2 σ H2 _ I2 q2) λvu s3 ⟨u,H3,I3,pu,q3⟩=>?_);rw[evalPart_none];refine Ad ?_;have I4:Inv X pins σ H3 {s3 with heap:=s3.heap.push {cls:=.type "slice",data:=.fields #[vl,vu,.none]}}:=I3.kept (t':=s3.toks) λb ob q=>Af _ q;obtain⟨T,id,hT,ht,hg⟩:=hr pins {s3 with heap:=s3.heap.push {cls:=.type "slice",data:=.fields #[vl,vu,.none]}} σ H3 x v vl vu l u s3.heap.objs.size Q I4 r1 (Xa ..) pl pu q3;show Au #v[b] X.A (Te e (.Slice lo hi none p2) v (.ref s3.heap.objs.size)) (EP X pins σ Q) X.xe {s3 with heap:=s3.heap.push {cls:=.type "slice",data:=.fields #[vl,vu,.none]}};exact tail_any (ops:=[.ref s3.heap.objs.size,v]) ht hT hg (by with_unfolding_all rfl)
def aBo(xs:List V)(lo hi:Option Int):List V:=(xs.drop (HT.sIx xs.length 0 lo)).take (HT.sIx xs.length xs.length hi-HT.sIx xs.length 0 lo)
def yF(xs:List V)(lo hi:Option Int):(aBo xs lo hi).length<=xs.length:=by
 unfold aBo;rw[Hk,Ji]
 lia
inductive aR4(K:Ab)(x:V)(lo:Option Int)(hi:Option Int)(H:Hp)(Q:VK):Prop
 |mk (a xs:_) (q0_:x=.ref a) (q1_:SqT K H a xs) (q2_:¬(HT.sIx xs.length 0 lo=0/\HT.sIx xs.length xs.length hi=xs.length)) (q3_:∀p,H p=none->Q (.ref p) (upd H p (.tup (aBo xs lo hi)))):aR4 K x lo hi H Q
def aY9(K:Ab):V->Option Int->Option Int->Hp->VK->Prop:=λx lo hi H Q=>aR4 K x lo hi H Q
def aUw:SlR X (aY9 X.K):=by
 intro pins s σ H x v vl vu lo hi sl Q I rx hs pl pu h;obtain⟨a,xs,rfl,hx,hw,q⟩:=h;cases rx;obtain⟨its,r,ht,hz⟩:=I.tuple hx;have hlen:its.toArray.size=xs.length:=by rw[Ai];exact r.length.symm
 refine⟨"tuple",_,Ho.lookup,ht.typeIs,?_⟩;refine HT.uY ht hs pl pu (by rw[hlen];exact hw) ?_ (by rw[hlen];exact hz);rw[hlen];refine⟨.ref #v[0],_,I.laid (t':=s.toks) (o:=.tup (aBo xs lo hi)) (λb ob q=>Af _ q) (Am _) ?_,rfl,q _ (I.hok.fresh (Am _))⟩;exact⟨Bd (yF xs lo hi) hz,_,(r.drop (HT.sIx xs.length 0 lo)).take (HT.sIx xs.length xs.length hi-HT.sIx xs.length 0 lo),Pc _ _⟩
inductive aK9(K:Ab)(x:V)(y:V)(H:Hp)(Q:VK):Prop
 |mk (a b xs ys:_) (q0_:x=.ref a) (q1_:y=.ref b) (q2_:SqT K H a xs) (q3_:SqT K H b ys) (q4_:xs≠[]) (q5_:xs.length+ys.length<=sizeLine) (q6_:(ys=[]->Q (.ref a) H)) (q7_:(ys≠[]->∀p,H p=none->Q (.ref p) (upd H p (.tup (xs++ys))))):aK9 K x y H Q
def aSs(K:Ab):R2:=λx y H Q=>aK9 K x y H Q
def Vals.nil_iff{xs:List V}(r:Vals xs us):us=[]↔xs=[]:=by
 cases r with
 |nil=>simp
 |cons _ _=>simp
def aQa:OpR X (Gs .Add) (aSs X.K):=by
 intro pins s σ H x y v u Q I rx ry h;obtain⟨a,b,xs,ys,rfl,rfl,ha,hb,hx,hz,q1,q2⟩:=h;cases rx;cases ry;obtain⟨its,r1,p1,_⟩:=I.tuple ha;obtain⟨its2,r2,p2,_⟩:=I.tuple hb;refine HT.aPm p1 p2 (λz=>hx (r1.nil_iff.mp z)) (λz=>⟨.ref a,H,I,rfl,q1 (r2.nil_iff.mp z)⟩) (λz=>?_) (by rw[<-r1.length, <-r2.length];exact hz);refine⟨.ref #v[0],_,I.laid (t':=s.toks) (o:=.tup (xs++ys)) (λb ob q=>Af _ q) (Am _) ?_,rfl,q2 (λw=>z (r2.nil_iff.mpr w)) _ (I.hok.fresh (Am _))⟩;exact⟨by rw[An];exact hz,_,r1.append r2,Pc _ _⟩
def ixN(n:Nat)(i:Int):Option Nat:=if 0<=i then(if i<n then some i.toNat else none)else if-(n:Int)<=i then some (i+n).toNat else none
def atI{α:Type}(xs:List α)(i:Int):Option α:=(ixN xs.length i).bind λj=>xs[j]?
def aIg{i:Int}{j:Nat}(h:ixN n i=some j):seqIndex? i n=some j/\j<n/\ -(n:Int)<=i/\i<n:=by
 unfold ixN at h;by_cases h0:0<=i
 ·rw[if_pos h0]at h;by_cases h1:i<n
  ·rw[if_pos h1]at h;have e:i.toNat=j:=Bq h;exact⟨by rw[Wc h0 h1,e],∅,∅,h1⟩
  ·rw[if_neg h1]at h;cases h
 ·rw[if_neg h0]at h;by_cases h1: -(n:Int)<=i
  ·rw[if_pos h1]at h;have e:(i+n).toNat=j:=Bq h;exact⟨by rw[Uu ∅ h1,e],∅,h1,∅⟩
  ·rw[if_neg h1]at h;cases h
def aDc{xs:List α}{i:Int}{v:α}(h:atI xs i=some v):∃j,seqIndex? i xs.length=some j/\xs[j]? =some v/\j<xs.length/\ -(xs.length:Int)<=i/\i<xs.length:=by
 unfold atI at h;cases e:ixN xs.length i with
 |none=>rw[e]at h;cases h
 |some j=>
  rw[e]at h;obtain⟨h1,h2,h3,h4⟩:=aIg e;exact⟨j,h1,h,h2,h3,h4⟩
def pF{xs:List α}{j:Nat}{v:α}(h:xs[j]? =some v):atI xs (j:Int)=some v:=by
 have hj:j<xs.length:=(Ax.mp h).1;have e:ixN xs.length (j:Int)=some j:=by
  unfold ixN;rw[if_pos ∅,if_pos ∅];simp
 unfold atI;rw[e];exact h
def aH2(b:Bw):Prop:=∀o i,subscripted b false o i=operate [o,i] (Px o i)
def IxR(X:Cx)(r:R2):Prop:=
 ∀(value slice:Bw)(pins:#v[4])(s:Ae)(σ:St)(H:Hp)(x y:V)(v u:Value)(Q:VK),#v[1]->RelV x v->RelV y u->r x y H Q->
  subscripted slice false v u=operate [v,u] (Px v u)->Au #v[b] X.A (Te value slice v u) (EP X pins σ Q) X.xe s
def MtR(X:Cx)(id:String)(r:V->List V->Hp->VK->Prop):Prop:=
 ∀(pins:#v[4])(s:Ae)(σ:St)(H:Hp)(x:V)(xs:List V)(v:Value)(us:List Value)(Q:VK),#v[1]->RelV x v->Vals xs us->r x xs H Q->
  Au #v[b] X.A (call (.builtin id) (v::us)) (EP X pins σ Q) X.xe s
def aW8(K:Ab):List V->Hp->VK->Prop:=λxs H Q=>∃p ys,xs=[.ref p]/\(SqL K H p ys∨SqT K H p ys)/\Q (.int ys.length) H
def aW9(K:Ab):List V->Hp->VK->Prop:=λxs H Q=>∃p ys,xs=[.ref p]/\(SqL K H p ys∨SqT K H p ys)/\∀l,H l=none->Q (.ref l) (upd H l (.lst ys))
section
variable {X:Cx}{a b:Bw}{ta tb:TE}{pos:Pos}
def IxR.or{r r':R2}(h:IxR X r)(h':IxR X r'):IxR X (λx y H Q=>r x y H Q∨r' x y H Q):=by
 intro value slice pins s σ H x y v u Q I rx ry q hs;rcases q with q|q
 ·exact h value slice pins s σ H x y v u Q I rx ry q hs
 ·exact h' value slice pins s σ H x y v u Q I rx ry q hs
def yN{r:R2}(hr:IxR X r)(ha:PE X a ta)(hb:PE X b tb)(hs:aH2 b):PE X (.Subscript a b pos) (tOp r ta tb):=by
 intro pins s σ H Q I h;exact Xs (aTd ha hb I h λv u s2 x y H2 I2 rx ry q=>hr a b pins s2 σ H2 x y v u Q I2 rx ry q (hs _ _))
inductive aRz(K:Ab)(x:V)(y:V)(H:Hp)(Q:VK):Prop
 |mk (p xs i v:_) (q0_:x=.ref p) (q1_:y=.int i) (q2_:SqL K H p xs) (q3_:atI xs i=some v) (q4_:Q v H):aRz K x y H Q
def aUp(K:Ab):R2:=λx y H Q=>aRz K x y H Q
inductive aR1(K:Ab)(x:V)(y:V)(H:Hp)(Q:VK):Prop
 |mk (p xs i v:_) (q0_:x=.ref p) (q1_:y=.int i) (q2_:SqT K H p xs) (q3_:atI xs i=some v) (q4_:Q v H):aR1 K x y H Q
def aUq(K:Ab):R2:=λx y H Q=>aR1 K x y H Q
inductive aR0(x:V)(y:V)(H:Hp)(Q:VK):Prop
 |mk (z i c:_) (q0_:x=.str z) (q1_:y=.int i) (q2_:z.length<=sizeLine) (q3_:atI z.cps.toList i=some c) (q4_:Q (.str ⟨#[c]⟩) H):aR0 x y H Q
def aW7:R2:=λx y H Q=>aR0 x y H Q
def nD:IxR X (aUp X.K):=by
 intro value slice pins s σ H x y v u Q I rx ry h hs;obtain⟨p,xs,i,z,rfl,rfl,hq,he,q⟩:=h;cases rx;obtain⟨t,rfl⟩:=ry;obtain⟨its,r,pl,hz⟩:=I.list hq;obtain⟨j,h1,h2,h3,h4,h5⟩:=aDc he;obtain⟨w,ew,rw'⟩:=r.get h2;have hl:=r.length;have hn:=aAu;have fin:EP X pins σ Q w s:=⟨z,H,I,rw',q⟩;by_cases h0:0<=i
 ·have hj:i.toNat=j:=by
   rw[Wc h0 h5]at h1;exact Bq h1
  exact item_listR pl.isList h0 ∅ (by rw[hj];simpa using ew) fin hs
 ·have hj:(i+(its.toArray.size:Int)).toNat=j:=by
   rw[Uu ∅ h4]at h1;rw[Ai, <-hl];exact Bq h1
  exact Uc (x:=w) pl.isList.typeIs slot_list_getitem.lookup
   (wpAny_getItem_list_neg (Q:=λr s'=>r=w/\EP X pins σ Q r s') pl.isList ∅ (by rw[Ai]<;>lia) ∅ (by rw[hj];simpa using ew) ⟨rfl,fin⟩) hs
def aTq:IxR X (aUq X.K):=by
 intro value slice pins s σ H x y v u Q I rx ry h hs;obtain⟨p,xs,i,z,rfl,rfl,hq,he,q⟩:=h;cases rx;obtain⟨t,rfl⟩:=ry;obtain⟨its,r,pl,hz⟩:=I.tuple hq;obtain⟨j,h1,h2,h3,h4,h5⟩:=aDc he;obtain⟨w,ew,rw'⟩:=r.get h2;have hl:=r.length;have hn:=aAu;have fin:EP X pins σ Q w s:=⟨z,H,I,rw',q⟩;exact Uc (x:=w) pl.typeIs slot_tuple_getitem.lookup
  (getItem_tuple (j:=j) (Q:=λr s'=>r=w/\EP X pins σ Q r s') pl ∅ ∅ (by rw[Ai, <-hl];exact h1) (by simpa using ew) ⟨rfl,fin⟩) hs
def aTp:IxR X aW7:=by
 intro value slice pins s σ H x y v u Q I rx ry h hs;obtain⟨z,i,c,rfl,rfl,hz,he,q⟩:=h;obtain⟨t,rfl⟩:=rx;obtain⟨t',rfl⟩:=ry;obtain⟨j,h1,h2,h3,h4,h5⟩:=aDc he;have hl:z.cps.toList.length=z.length:=by simp[Str.length]
 rw[hl]at h1 h4 h5;have hn:=aAu;exact tail_any (typeIs_str s z t) slot_str_getitem.lookup (getItem_str (c:=c) (by
  have e1:decide (i< -(2 ^ 63:Int))=false:=decide_eq_false ∅;have e2:decide (i≥2 ^ 63)=false:=decide_eq_false ∅;rw[e1,e2,Bool.or_false]) (by rw[h1];simpa using h2) ⟨.str ⟨#[c]⟩,H,I.tok _,⟨_,rfl⟩,q⟩) hs
def rIx(K:Ab):R2:=λx y H Q=>aUp K x y H Q∨aUq K x y H Q∨aW7 x y H Q
def bF:IxR X (rIx X.K):=nD.or (aTq.or aTp)
def aHa(its:List Value)(n j:Nat)(u:Value):Et (·.setIfInBounds j u) {cls:=.type "list",data:=.seq its.toArray n}={cls:=.type "list",data:=.seq (its.set j u).toArray n}:=by
 simp[Et]
def Inv.lst{pins:#v[4]}{σ:St}{H:Hp}{s:Ae}{p:Addr}{xs:List V}(I:#v[1])(h:H p=some (.lst xs)):
  ∃(its:List Value)(n:Nat),Vals xs its/\s.heap.get? p=some {cls:=.type "list",data:=.seq its.toArray n}/\xs.length<=sizeLine:=by
 obtain⟨z,its,n,r,e⟩:=I.hok p _ h;exact⟨its,n,r,e,z⟩
def Inv.lstUpd{σ:St}{H:Hp}{s:Ae}{p:Addr}{xs ys:List V}{n n':Nat}{f:Obj->Obj}(I:#v[1])(h:H p=some (.lst xs))
  (ho:s.heap.get? p=some {cls:=.type "list",data:=.seq its.toArray n}) (hf:f {cls:=.type "list",data:=.seq its.toArray n}={cls:=.type "list",data:=.seq its'.toArray n'}) (r:Vals ys its') (hz:ys.length<=sizeLine) (t:Nat):
  Inv X pins σ (upd H p (.lst ys)) {s with heap:=s.heap.update p f,toks:=t}:=by
 have e:(s.heap.update p f).get? p=some {cls:=.type "list",data:=.seq its'.toArray n'}:=by
  rw[Bn f ho (by rw[hf]<;>rfl),hf]
 refine I.write (x:=p) (e:=p) (by rw[h];trivial) (.inl rfl) (λb u hb q=>(Bj _ _ (Ci hb)).trans q) ⟨_,e⟩ ?_;exact⟨hz,its',n',r,e⟩
inductive aLd(o:V)(i:V)(v:V)(H:Hp)(Q:(Hp->Prop)):Prop
 |mk (p xs k j:_) (q0_:o=.ref p) (q1_:i=.int k) (q2_:H p=some (.lst xs)) (q3_:ixN xs.length k=some j) (q4_:Q (upd H p (.lst (xs.set j v)))):aLd o i v H Q
def aXd:V->V->V->Hp->(Hp->Prop)->Prop:=λo i v H Q=>aLd o i v H Q
def set_list:aS7 X aXd:=by
 intro pins s σ H o i v ov iv u Q I ro ri rv h;obtain⟨p,xs,k,j,rfl,rfl,hp,hj,q⟩:=h;cases ro;obtain⟨t,rfl⟩:=ri;obtain⟨its,n,r,ho,hz⟩:=I.lst hp;obtain⟨h1,h2,h3,h4⟩:=aIg hj;have hl:=r.length;have hn:=aAu;have I':Inv X pins σ (upd H p (.lst (xs.set j v))) {s with heap:=s.heap.update p (Et (·.setIfInBounds j u))}:=
  I.lstUpd hp ho (aHa its n j u) (r.set rv j) (by rw[Bm];exact hz) s.toks
 by_cases h0:0<=k
 ·have hk:k.toNat=j:=by
   rw[Wc h0 h4]at h1;exact Bq h1
  exact PySem.W.ki_setAt ho h0 ∅ (by rw[Ai, <-hl];exact h4) (by rw[hk];exact⟨_,I',q⟩)
 ·have hk:(k+(its.toArray.size:Int)).toNat=j:=by
   rw[Uu ∅ h3]at h1;rw[Ai, <-hl];exact Bq h1
  exact PySem.W.ki_setBack ho ∅ (by rw[Ai, <-hl];exact h3) ∅ (by rw[hk];exact⟨_,I',q⟩)
def aEf(lo hi:Option Int)(n:Nat):(Kn lo hi none n).1=((HT.sIx n 0 lo:Nat):Int)/\(Kn lo hi none n).2.1=((HT.sIx n n hi:Nat):Int)/\(Kn lo hi none n).2.2=1:=by
 refine⟨?_,?_,rfl⟩
 ·cases lo with
  |none=>simp[Kn,HT.sIx]
  |some i=>
   simp only[Kn,HT.sIx,Ts,show(1:Int)>0 by decide,if_true];by_cases h:i<0
   ·simp only[h,if_true]<;>lia
   ·simp only[h,if_false]<;>lia
 ·cases hi with
  |none=>simp[Kn,HT.sIx]
  |some i=>
   simp only[Kn,HT.sIx,Ts,show(1:Int)>0 by decide,if_true];by_cases h:i<0
   ·simp only[h,if_true]<;>lia
   ·simp only[h,if_false]<;>lia
def aBy(its:List Value)(lo hi:Option Int):slicePick its.toArray lo hi none=((its.drop (HT.sIx its.length 0 lo)).take (HT.sIx its.length its.length hi-HT.sIx its.length 0 lo)).toArray:=by
 obtain⟨h1,h2,h3⟩:=aEf lo hi its.toArray.size;unfold slicePick;rw[h1,h2,h3];simp only[sliceRange_one,pick_run,Ai]<;>rfl
inductive aR3(K:Ab)(x:V)(lo:Option Int)(hi:Option Int)(H:Hp)(Q:VK):Prop
 |mk (a xs:_) (q0_:x=.ref a) (q1_:SqL K H a xs) (q2_:∀p,H p=none->Q (.ref p) (upd H p (.lst (aBo xs lo hi)))):aR3 K x lo hi H Q
def aY8(K:Ab):V->Option Int->Option Int->Hp->VK->Prop:=λx lo hi H Q=>aR3 K x lo hi H Q
def aQ0:SlR X (aY8 X.K):=by
 intro pins s σ H x v vl vu lo hi sl Q I rx hs pl pu h;obtain⟨a,xs,rfl,hx,q⟩:=h;cases rx;obtain⟨its,r,ht,hz⟩:=I.list hx;have hlen:=r.length;refine⟨"list",_,slot_list_getitem.lookup,ht.isList.typeIs,?_⟩;refine wpAny_getItem_list_slice ht.isList hs pl pu .none (by simp) ?_ (by rw[Ai]<;>lia);rw[aBy, <-hlen];refine⟨.ref #v[0],_,I.laid (t':=s.toks) (o:=.lst (aBo xs lo hi)) (λb ob q=>Af _ q) (Am _) ?_,rfl,q _ (I.hok.fresh (Am _))⟩;exact⟨Bd (yF xs lo hi) hz,_,0,(r.drop (HT.sIx xs.length 0 lo)).take (HT.sIx xs.length xs.length hi-HT.sIx xs.length 0 lo),Ba _ rfl⟩
def lC:V->Bool
 |.non=>true
 |.bl _=>true
 |.int _=>true
 |.str _=>true
 |_=>false
def eqV:V->V->Bool
 |.non,.non=>true
 |.bl a,.bl b=>a==b
 |.bl a,.int b=>(if a then 1 else 0)==b
 |.int a,.bl b=>a==(if b then 1 else 0)
 |.int a,.int b=>a==b
 |.str a,.str b=>a==b
 |_,_=>false
def aTl{A:Bl}{s:Ae}{y x:V}{u v:Value}(ry:RelV y u)(rx:RelV x v)(fy:lC y=true)(fx:lC x=true):Li A s u v (eqV y x):=by
 cases y with
 |non=>
  cases ry;cases x with
  |non=>cases rx;exact Np _
  |bl b=>cases rx;exact SeqAt.EqAt.none_bool b
  |int b=>obtain⟨t,rfl⟩:=rx;exact SeqAt.EqAt.none_int b t
  |str b=>obtain⟨t,rfl⟩:=rx;exact SeqAt.EqAt.none_str b t
  |_=>exact(As fx).elim
 |bl a=>
  cases ry;cases x with
  |non=>cases rx;exact SeqAt.EqAt.bool_none a
  |bl b=>cases rx;exact SeqAt.EqAt.bool_bool a b
  |int b=>obtain⟨t,rfl⟩:=rx;exact SeqAt.EqAt.bool_int a b t
  |str b=>obtain⟨t,rfl⟩:=rx;exact SeqAt.EqAt.bool_str a b t
  |_=>exact(As fx).elim
 |int a=>
  obtain⟨t',rfl⟩:=ry;cases x with
  |non=>cases rx;exact SeqAt.EqAt.int_none a t'
  |bl b=>cases rx;exact SeqAt.EqAt.int_bool a t' b
  |int b=>obtain⟨t,rfl⟩:=rx;exact SeqAt.EqAt.int_int a t' b t
  |str b=>obtain⟨t,rfl⟩:=rx;exact Qz a t' b t
  |_=>exact(As fx).elim
 |str a=>
  obtain⟨t',rfl⟩:=ry;cases x with
  |non=>cases rx;exact SeqAt.EqAt.str_none a t'
  |bl b=>cases rx;exact SeqAt.EqAt.str_bool a t' b
  |int b=>obtain⟨t,rfl⟩:=rx;exact Qx a t' b t
  |str b=>obtain⟨t,rfl⟩:=rx;exact SeqAt.EqAt.str_str a t' b t
  |_=>exact(As fx).elim
 |_=>exact(As fy).elim
def aV:gF X (.builtin "len") (aW8 X.K):=by
 intro pins s σ H xs us Q I r h;obtain⟨p,ys,rfl,hq,q⟩:=h;obtain⟨u,rfl,rx⟩:=vals1 r;cases rx;have hn:=aAu;rcases hq with hq|hq
 ·obtain⟨its,r',pl,hz⟩:=I.list hq;have hlen:=r'.length;exact Calls.call_len_list pl.isList (by simp only[Ai]<;>lia) ⟨.int ys.length,H,I.tok _,⟨s.toks+1,by rw[Ai,hlen]⟩,q⟩
 ·obtain⟨its,r',pl,hz⟩:=I.tuple hq;have hlen:=r'.length;exact len_tuple pl (by simp only[Ai]<;>lia) ⟨.int ys.length,H,I.tok _,⟨s.toks+1,by rw[Ai,hlen]⟩,q⟩
def aDi:gF X (.type "list") (aW9 X.K):=by
 intro pins s σ H xs us Q I r h;obtain⟨p,ys,rfl,hq,q⟩:=h;obtain⟨u,rfl,rx⟩:=vals1 r;cases rx;have fin:∀(its:List Value),Vals ys its->ys.length<=sizeLine->∀(h':Heap)(c':Nat),(∀b o',s.heap.get? b=some o'->h'.get? b=some o')->
   h'.get? #v[0]=some {cls:=.type "list",dict:=none,data:=.seq its.toArray c',slots:= #[]}->EP X pins σ Q (.ref #v[0]) {s with heap:=h'}:=λits r' hz h' c' kp e=>
  ⟨.ref #v[0],_,I.laid (t':=s.toks) kp (Am _) (show cC X.prog X.w _ h' _ (.lst ys)from⟨hz,its,c',r',e⟩),rfl,q _ (I.hok.fresh (Am _))⟩
 rcases hq with hq|hq
 ·obtain⟨its,r',pl,hz⟩:=I.list hq;have hlen:=r'.length;obtain⟨o,ho,hc,n,hd⟩:=pl.isList;exact call_list_seq p (.inl rfl) ho hc hd (λh' c' kp e=>fin its r' hz h' c' kp e) (by simp only[Ai]<;>lia)
 ·obtain⟨its,r',pl,hz⟩:=I.tuple hq;have hlen:=r'.length;obtain⟨o,ho,hc,n,hd⟩:=pl;exact call_list_seq p (.inr rfl) ho hc hd (λh' c' kp e=>fin its r' hz h' c' kp e) (by simp only[Ai]<;>lia)
def aBj:gF X (.type "tuple") (λxs H Q=>∃p ys,xs=[.ref p]/\((SqL X.K H p ys/\∀l,H l=none->Q (.ref l) (upd H l (.tup ys)))∨(SqT X.K H p ys/\Q (.ref p) H))):=by
 intro pins s σ H xs us Q I r h;obtain⟨p,ys,rfl,h⟩:=h;obtain⟨u,rfl,rx⟩:=vals1 r;cases rx;rcases h with ⟨hq,q⟩|⟨hq,q⟩
 ·obtain⟨its,r',pl,hz⟩:=I.list hq;have hlen:=r'.length;refine call_tuple_list pl.isList (λh' kp=>?_) (by simp only[Ai]<;>lia);have I1:Inv X pins σ H {s with heap:=h'}:=I.kept (t':=s.toks) kp;have I2:Inv X pins σ (upd H h'.objs.size (.tup ys)) {s with heap:=h'.push {cls:=.type "tuple",data:=.seq its.toArray}}:=
   I1.laid (t':=s.toks) (λb o e=>Af _ e) (Am _) (show cC X.prog X.w _ _ _ (.tup ys)from⟨hz,its,r',Pc _ _⟩)
  exact⟨.ref h'.objs.size,_,I2,rfl,q _ (I1.hok.fresh (Am _))⟩
 ·obtain⟨its,r',pl,hz⟩:=I.tuple hq;exact call_tuple_same pl ⟨.ref p,H,I,rfl,q⟩
def tyV(K:Ab)(T:String)(x:V)(H:Hp):Prop:=match x with
 |.str _=>T="str"
 |.int _=>T="int"
 |.ref p=>(T="list"/\∃xs,SqL K H p xs)∨(T="tuple"/\∃o,K.lookup p=some o/\o.cls=.type "tuple"/\o.dict=none)∨
   (T="dict"/\((∃kvs,H p=some (.dK kvs))∨∃kvs,H p=some (.dT kvs)))∨(T="set"/\∃S n,H p=some (.set S n))
 |_=>False
def aU4{σ:St}{H:Hp}{s:Ae}{T:String}{x:V}{v:Value}(I:#v[1])(r:RelV x v)(ty:tyV X.K T x H):
  s.TypeIs v T/\∀a,v=.ref a->∃ob,s.heap.get? a=some ob/\ob.dict=none:=by
 cases x with
 |str z=>
  obtain⟨t,rfl⟩:=r;cases (show T="str" from ty);exact⟨typeIs_str s z t,λ_ e=>nomatch e⟩
 |int i=>
  obtain⟨t,rfl⟩:=r;cases (show T="int" from ty);exact⟨Xk s i t,λ_ e=>nomatch e⟩
 |ref p=>
  cases r;rcases ty with ⟨rfl,xs,hq⟩|⟨rfl,o,hk,hc,hd⟩|⟨rfl,hk⟩|⟨rfl,S,n,hk⟩
  ·obtain⟨its,_,pl,_⟩:=I.list hq;refine⟨pl.isList.typeIs,λa e=>?_⟩;cases e;obtain⟨o,n,e,c,hd,_⟩:=pl;exact⟨o,e,hd⟩
  ·refine⟨⟨o,I.kIn p o hk,hc⟩,λa e=>?_⟩;cases e;exact⟨o,I.kIn _ o hk,hd⟩
  ·have z:∃o,s.heap.get? p=some o/\o.ExactDict:=by
    rcases hk with ⟨kvs,hk⟩|⟨kvs,hk⟩
    ·obtain⟨_,_,_,_,o,_,_,e,ex,_⟩:=I.hok p _ hk;exact⟨o,e,ex⟩
    ·obtain⟨_,_,_,_,o,_,_,e,ex,_⟩:=I.hok p _ hk;exact⟨o,e,ex⟩
   obtain⟨o,e,ex⟩:=z;refine⟨⟨o,e,ex.1⟩,λa e2=>?_⟩;cases e2;exact⟨o,e,ex.2.1⟩
  ·obtain⟨o,_,_,_,e,ex,_⟩:=I.hok p _ hk;refine⟨⟨o,e,ex.1⟩,λa e2=>?_⟩;cases e2;exact⟨o,e,ex.2.1⟩
 |_=>exact Dw ty
def tBM(K:Ab)(T:String)(r:V->List V->Hp->VK->Prop)(to:TE)(t:TA):TE:=λσ H Q=>to σ H λx H1=>tyV K T x H1/\t σ H1 λxs H2=>r x xs H2 Q
variable {o e:Bw}{es:List Bw}{to:TE}{t:TA}{name:Str}{apos cpos:Pos}{T id:String}{r:V->List V->Hp->VK->Prop}
def aNl(pa:PlainAttrs T)(slot:Slot T name id)(hty:Yy (.builtin id)=pure (.type "method_descriptor"))(hm:MtR X id r)(ho:PE X o to)(ha:PA X (e::es) t)
  (hbase:Eh o name X.env (eval o X.env)=eval o X.env:=by rfl)
  (hfew:((Ju cpos (Bc (e::es) X.env)).all (λx=> !x.1) && (Gh cpos (Do [] X.env)).all (λx=>x.1.isSome)
   && decide ((e::es).length+([]:List Jm).length+(if([]:List Jm).isEmpty then 0 else 1)<30))=true:=by rfl)
  (hline:EL apos cpos:=by rfl) (hs:SE X e es:=by rfl) (hplain:BT X cpos es:=by rfl):
  PE X (.Call (.Attribute o name apos) (e::es) [] cpos) (tBM X.K T r to t):=by
 intro pins s σ H Q I h;refine wpAny_Call_method_late hbase hfew hline rfl (thn (ho pins s σ H _ I h) λv s1 ⟨x,H1,I1,r1,ty,q1⟩=>?_);obtain⟨h1,h2⟩:=aU4 I1 r1 ty;refine⟨T,id,pa,slot,hty,h1,h2,?_⟩;have hA:=ha cpos pins s1 σ H1 _ I1 q1;rw[hs]at hA⊢;refine Io (by show(false || (Ju cpos (Bc es X.env)).any (·.1))=false;rw[hplain]<;>rfl) (Jj ?_);exact thn hA λus s2 ⟨vs,H2,I2,r2,q2⟩=>hm pins s2 σ H2 x vs v us Q I2 r1 r2 q2
end
def MtM(X:Cx)(id:String)(r:V->List V->Hp->VK->Prop):Prop:=
 ∀(pins:#v[4])(s:Ae)(σ:St)(H:Hp)(x:V)(xs:List V)(v:Value)(us:List Value)(Q:VK),#v[1]->RelV x v->Vals xs us->r x xs H Q->
  Au #v[b] X.A (call (.builtin id) (v::us)) (EP X pins σ Q) X.xe s
def Vals.one:∀{x:V}{us:List Value},Vals [x] us->∃u,us=[u]/\RelV x u
 |_,_,.cons r .nil=>⟨_,rfl,r⟩
def Vals.two:∀{x y:V}{us:List Value},Vals [x,y] us->∃u v,us=[u,v]/\RelV x u/\RelV y v
 |_,_,_,.cons r (.cons q .nil)=>⟨_,_,rfl,r,q⟩
def Vals.rep{xs:List V}(h:Vals xs us):∀k:Nat,Vals (Al k xs).flatten (Al k us).flatten
 |0=> .nil
 |k+1=>by
  rw[Ds,Ds,Ge,Ge];exact Vals.append h (Vals.rep h k)
theorem foldl_rep(its:List Value):∀(k:Nat)(acc:List Value),
  Rf (λx1 x2=>x1++x2) acc.toArray (Al k its.toArray)=(acc++(Al k its).flatten).toArray
 |0,acc=>by simp
 |k+1,acc=>by
  have e:acc.toArray++its.toArray=(acc++its).toArray:=by simp
  have e2:(acc++its)++(Al k its).flatten=acc++(Al (k+1) its).flatten:=by
   rw[Ds,Ge,Cv]
  rw[<-e2, <-foldl_rep its k (acc++its), <-e,Ds,Lo]
variable {pins:#v[4]}{σ:St}{H:Hp}{s:Ae}{l b:Addr}{xs ys zs:List V}
def Inv.lset{f:Array Value->Array Value}{t':Nat}(I:#v[1])(hH:H l=some (.lst xs))
  (e:s.heap.get? l=some {cls:=.type "list",data:=.seq its.toArray n}) (hf:f its.toArray=its'.toArray) (hv:Vals ys its') (hz:ys.length<=sizeLine):
  Inv X pins σ (upd H l (.lst ys)) {s with heap:=s.heap.update l (Et f),toks:=t'}:=by
 have q:=PySem.IsL.update e f;rw[hf]at q;refine I.write (x:=l) (e:=l) (by rw[hH];exact trivial) (.inl rfl) (λb' u hb hu=>(Bj s.heap (Et f) (Ci hb)).trans hu) ⟨_,q⟩ ?_;exact⟨hz,its',_,hv,q⟩
def Inv.lnew{its:List Value}{t':Nat}(I:#v[1])(hv:Vals ys its)(hz:ys.length<=sizeLine):
  Inv X pins σ (upd H #v[0] (.lst ys)) {s with heap:=s.heap.push {cls:=.type "list",data:=.seq its.toArray},toks:=t'}:=
 I.laid (λ_ _ q=>Af _ q) (Am _) ⟨hz,its,0,hv,Ba _ rfl⟩
def Inv.fresh(I:#v[1]):H #v[0]=none:=I.hok.fresh (Am _)
def Inv.lstM(I:#v[1])(hH:H l=some (.lst xs)):xs.length<=sizeLine/\∃(its:List Value)(n:Nat),Vals xs its/\xs.length=its.length/\s.heap.get? l=some {cls:=.type "list",data:=.seq its.toArray n}:=by
 obtain⟨z,its,n,r,e⟩:=I.hok l _ hH;exact⟨z,its,n,r,r.length,e⟩
def aM1(h:n<=sizeLine):Jp n=false:=by
 unfold Jp;exact decide_eq_false ∅
inductive aEs(x:V)(vs:List V)(H:Hp)(Q:VK):Prop
 |mk (l xs y:_) (q0_:x=.ref l) (q1_:vs=[y]) (q2_:H l=some (.lst xs)) (q3_:xs.length<sizeLine) (q4_:Q .non (upd H l (.lst (xs++[y])))):aEs x vs H Q
def aQo:V->List V->Hp->VK->Prop:=λx vs H Q=>aEs x vs H Q
def wY:MtM X "list.append" aQo:=by
 intro pins s σ H x vs v us Q I rx rv h;obtain⟨l,xs,y,rfl,rfl,hH,hz,q⟩:=h;cases rx;obtain⟨u,rfl,ru⟩:=rv.one;obtain⟨z,its,n,r,hl,e⟩:=I.lstM hH;refine Nm F.slot_list_append ⟨_,e,rfl⟩ F.entry_list_append (F.args_list_append_2 _ _) (PySem.list_append l its.toArray n u (by rw[Ai];lia)) ⟨e,?_⟩;refine⟨.non,_,I.lset (its':=its++[u]) hH e (by simp) (r.append (.cons ru .nil)) ?_,rfl,q⟩;rw[An,Hb]
 lia
inductive aEt(x:V)(vs:List V)(H:Hp)(Q:VK):Prop
 |mk (l b xs zs:_) (q0_:x=.ref l) (q1_:vs=[.ref b]) (q2_:H l=some (.lst xs)) (q3_:H b=some (.lst zs)) (q4_:xs.length+zs.length<=sizeLine) (q5_:Q .non (upd H l (.lst (xs++zs)))):aEt x vs H Q
def aQp:V->List V->Hp->VK->Prop:=λx vs H Q=>aEt x vs H Q
def aJz:MtM X "list.extend" aQp:=by
 intro pins s σ H x vs v us Q I rx rv h;obtain⟨l,b,xs,zs,rfl,rfl,hH,hB,hz,q⟩:=h;cases rx;obtain⟨u,rfl,ru⟩:=rv.one;cases ru;obtain⟨z,its,n,r,hl,e⟩:=I.lstM hH;obtain⟨z2,its2,n2,r2,hl2,e2⟩:=I.lstM hB;have hsz:its.toArray.size+its2.toArray.size<=sizeLine:=by rw[Ai,Ai];lia
 have hlong:¬(!its.toArray.isEmpty && Jp (its.toArray.size+its2.toArray.size))=true:=by
  rw[aM1 hsz,Jc];exact As
 refine Nm F.slot_list_extend ⟨_,e,rfl⟩ F.entry_list_extend (F.args_list_extend_2 _ _)
  (AutoSeq1.list_extend_list_list_0 l its.toArray n b its2.toArray n2 hlong (by rw[Ai];lia) ∅) ⟨e,e2,?_⟩
 refine⟨.non,_,I.lset (its':=its++its2) hH e (by simp) (r.append r2) ?_,rfl,q⟩;rw[An]
 lia
inductive aRv(x:V)(y:V)(H:Hp)(Q:VK):Prop
 |mk (l b xs zs:_) (q0_:x=.ref l) (q1_:y=.ref b) (q2_:H l=some (.lst xs)) (q3_:H b=some (.lst zs)) (q4_:xs.length+zs.length<=sizeLine) (q5_:∀p,H p=none->Q (.ref p) (upd H p (.lst (xs++zs)))):aRv x y H Q
def aW6:R2:=λx y H Q=>aRv x y H Q
def aT7:OpR X (Gs .Add) aW6:=by
 intro pins s σ H x y v u Q I rx ry h;obtain⟨l,b,xs,zs,rfl,rfl,hH,hB,hz,q⟩:=h;cases rx;cases ry;obtain⟨z,its,n,r,hl,e⟩:=I.lstM hH;obtain⟨z2,its2,n2,r2,hl2,e2⟩:=I.lstM hB;refine PySem.P.add_list e e2 ?_ (by rw[Ai,Ai];lia);have ea:its.toArray++its2.toArray=(its++its2).toArray:=by simp
 rw[ea];exact⟨.ref _,_,I.lnew (t':=s.toks) (r.append r2) (by rw[An];lia),rfl,q _ I.fresh⟩
def len_rep(xs:List α)(k:Nat):(Al k xs).flatten.length=k*xs.length:=by
 induction k with
 |zero=>simp
 |succ k ih=>rw[Ds,Ge,An,ih,Nat.succ_mul,Nat.add_comm]
variable {prog:Ap}{w:Bh}{A:Bl}{E:#v[a]}
end L2
namespace Att
open PySem PySem.W PySem.Calls PyProof.Rows
def yW{P:Params}{h:Heap}:∀(ns:List Int)(vs:List Value),WellAll P h vs (ns.map Zf)->Ni vs ns:=by
 intro ns;induction ns with
 |nil=>
  intro vs w;rw[Hs]at w;cases w;exact .nil
 |cons n ns ih=>
  intro vs w;rw[Da]at w;cases w with
  |cons a b=>
   cases a;exact .cons _ _ (ih _ b)
def aKv{l:OpenLaw}{n:Nat}(hn:l.most=some n){P:Params}{h:Heap}{args:List WData}{vals:List Value}
  (hpre:l.row.toRowW.claim.pre args=true) (hwl:WellAll P h vals args):
  ∃a vs ns,vals=[Aj a]/\args=[WData.list (ns.map Zf)]/\h.get? a=some {cls:=.type "list",data:=.seq vs.toArray}/\Ni vs ns/\ns.length<=n:=by
 have hsh:WShape.hasAll [] args [.list .int]=true:=(pre_splitW hpre).1;have hc:l.pre.holds [] {args:=args}=true:=(pre_splitW hpre).2;obtain⟨d,r,rfl,h1,h2⟩:=hasAllW_cons hsh;obtain rfl:=hasAllW_nil h2;obtain⟨xs,rfl,h3⟩:=hasW_list h1;obtain⟨ns,rfl⟩:=items_int h3;have hlen:ns.length<=n:=by
  unfold OpenLaw.pre at hc;have h4:(WTm.not (.lt (.lit (.int (n:Int))) (.len (.arg 0)))).holds [] {args:=[.list (ns.map .int)]}=true:=by
   have h4:=(holds_andW hc).1;rw[hn]at h4;exact h4
  have h5:=condW_of h4 (w_not (w_lt w_lit (w_len_list (w_arg rfl))));rw[Ac]at h5;refine Nat.le_of_not_lt λq=>?_;have q':(n:Int)<((ns.length:Nat):Int):=by lia
  first
   |(rw[decide_eq_true q']at h5;exact absurd h5 ⋯)
   |(simp at h5;lia)
 cases hwl with
 |cons w1 w2=>
  cases w2;cases w1 with
  |list ho hall=>exact⟨_,_,ns,rfl,rfl,ho,yW ns _ hall,hlen⟩
def aKp(l:OpenLaw)(args:List WData):l.row.toRowW.claim.post args (.bool true) args=true:=
 postW_of (r:=l.row.toRowW) (X:=(true==true))
  (show Xr [] (.bool true) .bool=true by first|rfl|decide|simp[Xr,WShape.arms,WShape.armsAll])
  (show(WTm.eq .res (.lit (.bool true))).value [] {args:=args,res:=some (.bool true),after:=args}=some (.bool (true==true))from w_eq_bool (w_res rfl) w_lit) rfl
def aEv{l:OpenLaw}{n:Nat}{q:Ap}{loose:List Str}{XP:(Str->#v[8])->Heap->Prop}{YP:Bh->Heap->Prop}{d:DefRec}
  (hn:l.most=some n) (hdf:d.params.defaults=[])
  (call:∀(w:Bh)(s₀ s₁:Ae)(mg mb:Str->#v[8])(fa:Addr)(o:Obj)(pm cd doc:Value)(a:Addr)(vs:List Value)(ns:List Int),
   Ground q loose [] XP w s₀ mg mb s₁.heap->YP w s₁.heap->
   s₁.heap.get? fa=some o->o.data=.func (docDef d.name d.params d.body d.scope pm cd doc)->s₁.heap.CodeRec cd d.name->mg d.name=some (.ref fa)->
   s₁.heap.get? a=some {cls:=.type "list",data:=.seq vs.toArray}->Ni vs ns->ns.length<=n->s₁.gens= #[]->
   Gr (model l.prog w) Ro (.call (.ref fa) ⟨[.ref a],[]⟩) (λr s'=>r=.ok (.ret (.bool true))/\OldK s₁.heap s'.heap/\s'.os=s₁.os/\Mf s'.gens) s₁):
  WalkO q loose XP YP l.row.toRowW d [] (λf vs=>To f vs):=by
 intro w s₀ s₁ mg mb G Y fa o pm cd doc dV kV ho hd hcd hD hmg hg args vals as hpre hlay hrd hwl hlo;obtain rfl:dV=.none:=Dflts.none hD hdf;obtain rfl:kV=.none:=Dflts.noKw hD;obtain⟨a,vs,ns,rfl,rfl,hobj,hints,hlen⟩:=aKv hn hpre hwl;refine enter_call (Js (call w s₀ s₁ mg mb fa o pm cd doc a vs ns G Y ho (fd_plain hd) hcd hmg hobj hints hlen hg) λr s' hq=>?_);obtain⟨rfl,h2,h3,h4⟩:=hq;exact⟨.inl ⟨.bool true,.bool true,[],rfl,λ_=>rfl,.bool true,aKp l _,λ_=>⟨Jl,λ_ hm=>(nomatch hm)⟩⟩,h2,h3,h4⟩
variable {prog:Ap}{w:Bh}{A:Bl}{E:#v[a]}{s:Ae}{K:Frag}
end Att
namespace L2
variable {x qual:Str}{f:Addr}{k:Nat}
open PySem PySem.Spec PyProof.Rows
theorem aCw:∀{vs:List Value}{ns:List Int},Ni vs ns->Vals (ns.map V.int) vs
 |_,_,.nil=> .nil
 |_,_,.cons n t h=> .cons ⟨t,rfl⟩ (aCw h)
def Only(H:Hp):Prop:=∀b,H b=none∨∃o xs,H b=some (.frz o (.lst xs))
def aMt{P:Ap}{w:Bh}{K:Ab}{mg mb:Str->#v[8]}{CX:CXT}{fa a:Addr}{fd:Bb}{x:Str}{sp:Sp}{s₁:Ae}{vs:List Value}{ns:List Int}
  (KX:K.In s₁.heap) (hns:s₁.heap.Ns Eo mg) (hb:s₁.heap.Ns Xo mb) (hbb:∀x:Str,x≠"__name__"->mb x=Gc x) (hlim:s₁.heap.NoLimit) (hg:s₁.gens= #[])
  (ha:s₁.heap.get? a=some {cls:=.type "list",data:=.seq vs.toArray}) (hi:Ni vs ns) (hl:ns.length<=sizeLine) (hr:cO k Ro)
  (F:∀base:Heap,K.In base->base.Ns Eo mg->bG P w K mg base CX k fa fd [x] sp) (hbind:∀(s:Ae)(u:Value),Ub s fd ⟨[u],[]⟩ [(x,u)])
  (hsp:∀H:Hp,Only H->SqL K H a (ns.map V.int)->sp [.ref a] H (λv _=>v=.bl true) λ_ _ _=>False)
  (hCX:∀H e s',CX [] H s₁ (λ_ _ _=>False) e s'->False):
  Gr (model P w) Ro (.call (.ref fa) ⟨[.ref a],[]⟩) (λr s'=>r=.ok (.ret (.bool true))/\OldK s₁.heap s'.heap/\s'.os=s₁.os/\Mf s'.gens) s₁:=by
 have rv:=aCw hi;have lenV:=hi.length;have core:∀H:Hp,Only H->SqL K H a (ns.map V.int)->HOk P w H s₁.heap->(∀b,H b≠none->b=a)->(H a≠none->K.lookup a=none)->
   Gr (model P w) Ro (.call (.ref fa) ⟨[.ref a],[]⟩) (λr s'=>r=.ok (.ret (.bool true))/\OldK s₁.heap s'.heap/\s'.os=s₁.os/\Mf s'.gens) s₁:=by
  intro H hO hS hok hA hK;have base_of:∀{b:Addr}{o:Obj},s₁.heap.get? b=some o->H b=none->(aDs s₁.heap H).get? b=some o:=λe n=>aMk e n;have noA:∀{b:Addr}{o:Obj}{es:Array Zk}{ep:Nat},s₁.heap.get? b=some o->o.data=.dict es ep->H b=none:=λ{b o es ep} e d=>by
   cases q:H b with
   |none=>rfl
   |some u=>
    have e':b=a:=hA b (by rw[q];simp);subst e';rw[ha]at e;cases e;have d':Xc vs.toArray _=Vy es ep:=d;cases d'
  have nsK:∀{b:Addr}{m:Str->#v[8]},s₁.heap.Ns b m->(aDs s₁.heap H).Ns b m:=λ{b m} ⟨o,es,ep,e,d,r⟩=>⟨o,es,ep,base_of e (noA e d),d,r⟩;have hKb:K.In (aDs s₁.heap H):=λb o e=>base_of (KX b o e) (by
   cases q:H b with
   |none=>rfl
   |some u=>
    have e':b=a:=hA b (by rw[q];simp);subst e';rw[hK (by rw[q];simp)]at e;cases e)
  have hM:Mod K mg (aDs s₁.heap H):=⟨hKb,nsK hns,⟨mb,nsK hb,hbb⟩,let⟨mc,h1,h2⟩:=hlim;⟨mc,nsK h1,h2⟩⟩;have e0:aGe P w K mg (aDs s₁.heap H) Ro [] s₁ H:=⟨rfl,hM,λb o e=>aPw e,So (aJq _ _),trivial,λb hb=>absurd (show b∈([]:List Addr)from hb) (by simp),hok,.of_eq hg⟩;refine Js ((F _ hKb (nsK hns)).run Ro [] s₁ H ⟨[.ref a],[]⟩ [.ref a] [.ref a] _ _ hr e0 (hbind s₁ (.ref a)) (.cons rfl .nil) (hsp H hO hS)) λr s' h=>?_;cases r with
  |error e=>exact(hCX H e s' h).elim
  |ok fl=>
   cases fl with
   |next=>exact Dw h
   |brk=>exact Dw h
   |cont=>exact Dw h
   |ret u=>
    obtain⟨v,H',os,bare,un,hok',r',q⟩:=h;have q':v=.bl true:=q;subst q';obtain rfl:u=Hn true:=r';refine⟨rfl,OldK.of_keep λb o e=>?_,os,bare⟩;cases q:H b with
    |none=>exact un.keep b o e q (by intro z;exact absurd (show b∈([]:List Addr)from z) (by simp)) (by simp)
    |some u=>
     rcases hO b with z|⟨ob,xs,z⟩
     ·rw[q]at z;cases z
     ·have z2:=un.frzs b ob _ z;obtain⟨e1,_⟩:=hok b _ z;obtain⟨e2,_⟩:=hok' b _ z2;rw[e]at e1;cases e1;exact e2
 cases hk:K.lookup a with
 |some o=>
  have e:=KX a o hk;rw[ha]at e;cases e;refine core (λ_=>none) (λ_=> .inl rfl) (.inr ⟨_,vs.toArray,_,hk,rfl,rfl,rfl,by rw[Ai,lenV];exact hl,by simpa using rv⟩) (λb u z=>by have z':(none:Option HO)=some u:=z;cases z') (λb z=>absurd rfl z) λz=>absurd rfl z
 |none=>
  refine core (λb=>if b=a then some (.frz {cls:=.type "list",data:=.seq vs.toArray} (.lst (ns.map V.int)))else none) (λb=>?_) (.inl (.inr ⟨{cls:=.type "list",data:=.seq vs.toArray},if_pos rfl⟩)) (λb u z=>?_) (λb z=>?_) λ_=>hk
  ·by_cases hb:b=a
   ·exact .inr ⟨_,_,if_pos hb⟩
   ·exact .inl (if_neg hb)
  ·by_cases hb:b=a
   ·have z':=(if_pos hb).symm.trans z;cases z';subst hb;exact⟨ha,by rw[Ac];exact hl,vs,_,rv,ha⟩
   ·have z':=(if_neg hb).symm.trans z;cases z'
  ·by_cases hb:b=a
   ·exact hb
   ·exact absurd (if_neg hb) z
def aRn{l:PySem.W.OpenLaw}{n k:Nat}{q:Ap}{loose:List Str}{XP:(Str->#v[8])->Heap->Prop}{YP:Bh->Heap->Prop}{d:DefRec}{K:Params->Ab}{CX:Bh->CXT}{sp:Bh->Sp}{x:Str}
  (hn:l.most=some n) (hn2:n<=sizeLine) (hdf:d.params.defaults=[]) (hr:cO k Ro)
  (hY:∀(w:Bh)(h:Heap),YP w h->(K w.params).In h)
  (F:∀(w:Bh)(mg:Str->#v[8])(fa:Addr)(h:Heap),(K w.params).In h->h.Ns Eo mg->mg d.name=some (.ref fa)->
   ∃fd:Bb,(∀(s:Ae)(u:Value),Ub s fd ⟨[u],[]⟩ [(x,u)])/\
    ∀base:Heap,(K w.params).In base->base.Ns Eo mg->bG l.prog w (K w.params) mg base (CX w) k fa fd [x] (sp w))
  (hsp:∀(w:Bh)(H:Hp)(a:Addr)(ns:List Int),ns.length<=n->Only H->SqL (K w.params) H a (ns.map V.int)->sp w [.ref a] H (λv _=>v=.bl true) λ_ _ _=>False)
  (hCX:∀(w:Bh)(H:Hp)(s:Ae)(e:Value)(s':Ae),CX w [] H s (λ_ _ _=>False) e s'->False):
  PySem.W.WalkO q loose XP YP l.row.toRowW d [] (λf vs=>To f vs):=by
 refine Att.aEv hn hdf λw s₀ s₁ mg mb fa o pm cd doc a vs ns G Y ho hd hcd hmg hobj hints hlen hg=>?_;have KX:=hY w _ Y;obtain⟨fd,hb,hF⟩:=F w mg fa _ KX G.T.g hmg;exact aMt KX G.T.g G.T.b G.T.builtins G.T.nolimit hg hobj hints (Bd hlen hn2) hr hF hb (λH hO hS=>hsp w H a ns hlen hO hS) λH e s'=>hCX w H s₁ e s'
def inClass(s:Stmt)(j:Nat):Stmt:=match s with
 |.ClassDef _ _ _ body _ _ _ _ _ _ _=>body.getD j (.Pass ⟨0,0,0,0⟩)
 |_=> .Pass ⟨0,0,0,0⟩
def jH(s:Stmt):Arguments:=match s with
 |.FunctionDef _ a _ _ _ _ _ _ _ _=>a
 |_=>{posonlyargs:=[],args:=[],vararg:=none,kwonlyargs:=[],kw_defaults:=[],kwarg:=none,defaults:=[]}
def dO(s:Stmt):List Stmt:=match s with
 |.FunctionDef _ _ b _ _ _ _ _ _ _=>b
 |_=>[]
def aF(s:Stmt):Scope:=match s with
 |.FunctionDef _ _ _ _ _ _ sc _ _ _=>sc
 |_=>{kind:=.function,names:=[],isGenerator:=false,isCoroutine:=false}
abbrev CX0:CXT:=λ_ _ _ _ _ _=>False
abbrev E0:XK:=λ_ _ _=>False
def yM{X:Cx}:jX CX0 X E0:=λ_ _ _ _ _ _ _ h=>h.elim
structure Fun(K:Ab)(x qual:Str)(st:Stmt)(f:Addr)(fd:Bb):Prop where
 ex:∃(oc:Value)(od:Option Addr)(kV doc pm:Value)(an:Option Addr)(cdv ct:Value)(osl:Array (#v[8])),
  fd=Fl x qual (jH st) (dO st) (aF st) .none kV doc pm an cdv ct/\K.lookup f=some ⟨oc,od,.func fd,osl⟩/\Oz K cdv qual=true
 kp:Gi K (.ref f)=true
variable {P:Ap}{w:Bh}{K:Ab}{mg:Str->#v[8]}{base:Heap}
def Fun.ok{st:Stmt}{fd:Bb}{N ps:List Str}{sp:Sp}(F:Fun K x qual st f fd)(S:aP N ps (aF st))(len:∀vs H Q E,sp vs H Q E->vs.length=ps.length)
  (hbody:∀(cdv:Value)(A:Bl)(outer:List Env)(s:Ae)(H:Hp)(vs:List V)(Q:VK)(E:XK),cO k (A.deeper (Ke qual (aF st) #v[0] f cdv))->sp vs H Q E->
   ∃t,PSs (uV CX0 P w K mg base N qual (aF st) f cdv A outer s H E).nox (dO st) t/\t {nx:=λ_ H'=>Q .non H',rt:=Q} (start N vs) H):↥(k+1) f fd ps sp:=by
 obtain⟨oc,od,kV,doc,pm,an,cdv,ct,osl,rfl,lk,hcd⟩:=F.ex;refine aSh lk hcd S len λA outer s H vs Q E hr hsp=>?_;obtain⟨t,h,q⟩:=hbody cdv A outer s H vs Q E hr hsp;exact⟨t,h.nox,q⟩
def Fun.binds{st:Stmt}{fd:Bb}{ps:List Str}(F:Fun K x qual st f fd)
  (h:∀(kV doc pm:Value)(an:Option Addr)(cdv ct:Value)(us:List Value),us.length=ps.length->Ez (Fl x qual (jH st) (dO st) (aF st) .none kV doc pm an cdv ct) ⟨us,[]⟩=pure (ps.zip us)):Binds K fd ps []:=by
 obtain⟨oc,od,kV,doc,pm,an,cdv,ct,osl,rfl,lk,hcd⟩:=F.ex;exact .all (h kV doc pm an cdv ct)
def aG2{st:Stmt}{oc:Value}{od an:Option Addr}{osl:Array (#v[8])}{kV doc pm cdv ct:Value}(l:K.lookup f=some ⟨oc,od,.func (Fl x qual (jH st) (dO st) (aF st) .none kV doc pm an cdv ct),osl⟩)
  (c:Oz K cdv qual=true) (k:Gi K (.ref f)=true):Fun K x qual st f (Fl x qual (jH st) (dO st) (aF st) .none kV doc pm an cdv ct):=⟨⟨oc,od,kV,doc,pm,an,cdv,ct,osl,rfl,l,c⟩,k⟩
def eZ{A:Bl}(hr:cO k A):A.units+1<cLine:=Ik (Nat.add_le_add_left (by decide:1<=64) _) hr.units
variable {X:Cx}
def pv(i:Nat){x:Str}{pos:Pos}(hN:X.N[i]? =some x:=by rfl)(hv:Vis X.env.scope x:=by trivial)(hd:ND x:=by decide)
  (hcd:NC x:=by decide):PE X (.Name x pos) (aXx i):=fK hN hv hd hcd
def yX{A B:Prop}(h:B):if false=true then A else B:=by
 rw[if_neg As];exact h
def aAq{A B:Prop}(h:A):if true=true then A else B:=by
 rw[if_pos rfl];exact h
def aY2{c A B:Prop} [Decidable c](h1:c->A)(h2:¬c->B):if c then A else B:=by
 by_cases h:c
 ·rw[if_pos h];exact h1 h
 ·rw[if_neg h];exact h2 h
def aS8(H H':Hp):Prop:=∀b o,H b=some o->H' b=some o
end L2
set_option maxHeartbeats 4000000
namespace L2
variable {kvs:List (List Key×V)}{xs:List (List Key×Addr×Value)}{u:Value}{trs:List (TE×TE)}{y:V}
open PySem PySem.Spec PyProof.Rows
section
variable {κ:Type} [DecidableEq κ]
def vW(kvs:List (κ×V))(k:κ):Option V:=(kvs.find? λkv=>decide (kv.1=k)).map (·.2)
def putK(kvs:List (κ×V))(k:κ)(v:V):List (κ×V):=
 if(kvs.any λkv=>decide (kv.1=k))=true then kvs.map (λkv=>if kv.1=k then(kv.1,v)else kv)else kvs++[(k,v)]
def vX{p:κ×V}{r:List (κ×V)}{k:κ}(e:p.1=k):vW (p::r) k=some p.2:=by simp[vW,Ie,e]
def rQ{p:κ×V}{r:List (κ×V)}{k:κ}(e:¬p.1=k):vW (p::r) k=vW r k:=by simp[vW,Ie,e]
theorem aF6(k:κ):∀kvs:List (κ×V),(kvs.any λkv=>decide (kv.1=k))=(vW kvs k).isSome
 | []=>rfl
 |p::r=>by
  rw[Ig];by_cases e:p.1=k
  ·simp only[vX e,decide_eq_true e,Bool.true_or,Sm]
  ·rw[rQ e,decide_eq_false e,Bool.false_or];exact aF6 k r
def rB(kvs:List (κ×V))(k:κ)(v:V):(putK kvs k v).length<=kvs.length+1:=by
 unfold putK;split
 ·rw[Ac];lia
 ·rw[An,Aq,Hc];lia
def pB.isSome_eq{o:Option V}{u:#v[8]}(r:pB o u):o.isSome=u.isSome:=by
 cases o with
 |none=>cases u with
  |none=>rfl
  |some _=>exact(show False from r).elim
 |some _=>cases u with
  |none=>exact(show False from r).elim
  |some _=>rfl
def pB.getD{o:Option V}{u:#v[8]}{d:V}{d':Value}(r:pB o u)(rd:RelV d d'):RelV (o.getD d) (u.getD d'):=by
 cases o with
 |none=>cases u with
  |none=>exact rd
  |some _=>exact(show False from r).elim
 |some _=>cases u with
  |none=>exact(show False from r).elim
  |some _=>exact r
def KV.val{kvs:List (κ×V)}{vs:List (κ×Value)}(r:KV kvs vs)(k:κ):pB (vW kvs k) (Rk vs k):=by
 unfold KV at r;induction r with
 |nil=>exact Ep
 |@cons p q ps qs h t ih=>
  obtain⟨h1,h2⟩:=h;by_cases e:p.1=k
  ·have e':q.1=k:=h1.symm.trans e;have b:Rk (q::qs) k=some q.2:=by simp[Rk,Ie,e']
   rw[vX e,b];exact h2
  ·have e':¬q.1=k:=λz=>e (h1.trans z);have b:Rk (q::qs) k=Rk qs k:=by simp[Rk,Ie,e']
   rw[rQ e,b];exact ih
def KV.any{kvs:List (κ×V)}{vs:List (κ×Value)}(r:KV kvs vs)(k:κ):(kvs.any λkv=>decide (kv.1=k))=vs.any λkv=>decide (kv.1=k):=by
 unfold KV at r;induction r with
 |nil=>rfl
 |cons h t ih=>rw[Ig,Ig,ih,h.1]
def KV.repl{kvs:List (κ×V)}{vs:List (κ×Value)}(r:KV kvs vs)(k:κ)(ry:RelV y u):
  KV (kvs.map λkv=>if kv.1=k then(kv.1,y)else kv) (vs.map λkv=>if kv.1=k then(kv.1,u)else kv):=by
 unfold KV at r⊢;induction r with
 |nil=>exact .nil
 |@cons p q ps qs h t ih=>
  rw[Da,Da];refine .cons ?_ ih;obtain⟨h1,h2⟩:=h;by_cases e:p.1=k
  ·rw[if_pos e,if_pos (h1.symm.trans e)];exact⟨h1,ry⟩
  ·rw[if_neg e,if_neg (λz=>e (h1.trans z))];exact⟨h1,h2⟩
def KV.put{kvs:List (κ×V)}{vs:List (κ×Value)}(r:KV kvs vs)(k:κ)(ry:RelV y u):KV (putK kvs k y) (stored vs k u):=by
 unfold putK stored;rw[r.any k];by_cases e:(vs.any λkv=>decide (kv.1=k))=true
 ·rw[if_pos e,if_pos e];exact r.repl k ry
 ·rw[if_neg e,if_neg e];exact Wv r ⟨rfl,ry⟩
def KV.length{kvs:List (κ×V)}{vs:List (κ×Value)}(r:KV kvs vs):kvs.length=vs.length:=Qn r
end
def aFb{P:Ap}{w:Bh}{k:Key}(r:RelV (kV k) u):(dB P w).is k u=true:=by
 cases k with
 |inl i=>obtain⟨t,e⟩:=(show∃t,u=Df i t from r);subst e;exact aFk P w i t
 |inr x=>obtain⟨t,e⟩:=(show∃t,u=Ko x t from r);subst e;exact aFl P w x t
theorem aCm{P:Ap}{w:Bh}:∀{ks:List Key}{us:List Value},Vals (ks.map kV) us->ItemsAre (dB P w) ks us
 | [],_,r=>by rw[Hs]at r;cases r;exact .nil
 |k::ks,_,r=>by
  rw[Da]at r;cases r with
  |cons h t=>exact .cons (aFb h) (aCm t)
abbrev KT(H:Hp):List (List Key×V)->List (List Key×Addr×Value)->Prop:=Vi λp q=>p.1=q.1/\H q.2.1=some (.tup (p.1.map kV))/\RelV p.2 q.2.2
def KT.val{H:Hp}(r:KT H kvs xs)(k:List Key):pB (vW kvs k) ((Wh xs k).map (·.2)):=by
 induction r with
 |nil=>exact Ep
 |@cons p q ps qs h t ih=>
  obtain⟨h1,_,h2⟩:=h;by_cases e:p.1=k
  ·have e':q.1=k:=h1.symm.trans e;have b:Wh (q::qs) k=some q.2:=by simp[Wh,Ie,e']
   rw[vX e,b];exact h2
  ·have e':¬q.1=k:=λz=>e (h1.trans z);have b:Wh (q::qs) k=Wh qs k:=by simp[Wh,Ie,e']
   rw[rQ e,b];exact ih
def KT.repl{H:Hp}(r:KT H kvs xs)(k:List Key)(ry:RelV y u):
  KT H (kvs.map λkv=>if kv.1=k then(kv.1,y)else kv) (xs.map (putAt k u)):=by
 induction r with
 |nil=>exact .nil
 |@cons p q ps qs h t ih=>
  rw[Da,Da];refine .cons ?_ ih;obtain⟨h1,h2,h3⟩:=h;unfold putAt;by_cases e:p.1=k
  ·rw[if_pos e,if_pos (h1.symm.trans e)];exact⟨h1,h2,ry⟩
  ·rw[if_neg e,if_neg (λz=>e (h1.trans z))];exact⟨h1,h2,h3⟩
def KT.put{H:Hp}(r:KT H kvs xs)(k:List Key){b:Addr}(hb:H b=some (.tup (k.map kV)))(ry:RelV y u):
  KT H (putK kvs k y) (storedH xs k b u):=by
 have e:(kvs.any λkv=>decide (kv.1=k))=(Wh xs k).isSome:=by
  rw[aF6,(r.val k).isSome_eq,Option.isSome_map]
 unfold putK storedH;rw[e];by_cases q:(Wh xs k).isSome=true
 ·rw[if_pos q,if_pos q];exact r.repl k ry
 ·rw[if_neg q,if_neg q];exact Wv r ⟨rfl,hb,ry⟩
def KT.keeps{H H':Hp}(r:KT H kvs xs)(ht:∀b ys,H b=some (.tup ys)->H' b=some (.tup ys)):KT H' kvs xs:=
 Paired.mapP r λ_ _ z=>⟨z.1,ht _ _ z.2.1,z.2.2⟩
variable {P:Ap}{w:Bh}{H:Hp}{h:Heap}{a:Addr}
def aSu{u:HO}(ok:HOk P w H h)(e:Rd H a u):cC P w H h a u:=e.ok ok
def aE3{kvs:List (Key×V)}(ok:HOk P w H h)(e:Rd H a (.dK kvs)):kvs.length<=sizeLine/\(a==Il)=false/\∃vs,KV kvs vs/\h.DictOf (dB P w) a vs:=
 show cC P w H h a (.dK kvs)from aSu ok e
def aH8{kvs:List (Key×V)}(ok:HOk P w H h)(e:H a=some (.dK kvs)):kvs.length<=sizeLine/\(a==Il)=false/\∃vs,KV kvs vs/\h.DictOf (dB P w) a vs:=aE3 ok (.inl e)
def aDw{ks:List Key}(ok:HOk P w H h)(e:H a=some (.tup (ks.map kV))):(Mx (dB P w)).is h ks a:=by
 obtain⟨_,its,r,o,h1,h2,n,h3⟩:=(show cC P w H h a (.tup (ks.map kV))from ok a _ e);exact⟨o,its.toArray,n,h1,h2,h3,by simpa using aCm r⟩
def aE4(ok:HOk P w H h)(e:Rd H a (.dT kvs)):kvs.length<=sizeLine/\(a==Il)=false/\
  ∃xs,KT H kvs xs/\h.DictOfH (Mx (dB P w)) a xs:=by
 obtain⟨z,y,xs,r,o,es,ep,h1,h2,h3,h4,h5⟩:=(show cC P w H h a (.dT kvs)from aSu ok e);refine⟨z,y,xs,r,o,es,ep,h1,h2,h3,h4,λx hx=>?_,h5⟩;have all:∀{l:List (List Key×V)}{m:List (List Key×Addr×Value)},KT H l m->∀x∈m,(Mx (dB P w)).is h x.1 x.2.1:=by
  intro l m q;induction q with
  |nil=>intro x hx;exact nomatch hx
  |@cons p q ps qs hq t ih=>
   intro x hx;rcases Ao.mp hx with e|hx
   ·subst e;exact aDw ok (by rw[<-hq.1];exact hq.2.1)
   ·exact ih x hx
 exact all r x hx
def aWc(ok:HOk P w H h)(e:H a=some (.dT kvs)):kvs.length<=sizeLine/\(a==Il)=false/\
  ∃xs,KT H kvs xs/\h.DictOfH (Mx (dB P w)) a xs:=aE4 ok (.inl e)
def zW(H:Hp)(a:Addr)(y:V)(r:Option V):Prop:=
 (∃kvs k,Rd H a (.dK kvs)/\y=kV k/\r=vW kvs k)∨∃kvs k b,Rd H a (.dT kvs)/\y=.ref b/\H b=some (.tup (k.map kV))/\r=vW kvs k
def aC2(H:Hp)(a:Addr)(y v:V)(H':Hp):Prop:=
 (∃kvs k,H a=some (.dK kvs)/\y=kV k/\kvs.length<sizeLine/\H'=upd H a (.dK (putK kvs k v)))∨
 ∃kvs k b,H a=some (.dT kvs)/\y=.ref b/\H b=some (.tup (k.map kV))/\kvs.length<sizeLine/\H'=upd H a (.dT (putK kvs k v))
theorem zW.k{H:Hp}{a:Addr}{kvs:List (Key×V)}{k:Key}(e:H a=some (.dK kvs)):zW H a (kV k) (vW kvs k):=.inl ⟨kvs,k,.inl e,rfl,rfl⟩
theorem aC2.k{H:Hp}{a:Addr}{kvs:List (Key×V)}{k:Key}{v:V}(e:H a=some (.dK kvs))(hl:kvs.length<sizeLine):aC2 H a (kV k) v (upd H a (.dK (putK kvs k v))):=.inl ⟨kvs,k,e,rfl,hl,rfl⟩
variable {X:Cx}{pins:#v[4]}{σ:St}{s:Ae}{y v:V}{u r:Value}{o:Option V}{A:Bl}{E:#v[a]}
def Inv.big(I:#v[1]):Il<#v[0]:=by
 have h:Eo<#v[0]:=(I.mod.glob.keeps I.bk).lt;exact Kk ⋯ h
def aJl{Q:#v[a]}(hu:A.units+1<cLine)(I:#v[1])(g:zW H a y (some v))(ry:RelV y u)(h:∀w' s',Inv X pins σ H s'->RelV v w'->Q w' s'):
  Au #v[b] A (Px (.ref a) u) Q E s:=by
 rcases g with ⟨kvs,k,e,ey,l⟩|⟨kvs,k,b,e,ey,eb,l⟩
 ·subst ey;obtain⟨z,hd,vs,rel,dd⟩:=aE3 I.hok e;obtain⟨w',hw,rw'⟩:=pB.some_of (v:=v) (o:=Rk vs k) (by rw[l];exact rel.val k);exact wpAny_getItem_of (aFb ry) dd.mapOf hw (h w' _ (I.tok _) rw')
 ·subst ey;cases (show u=Aj b from ry);obtain⟨z,hd,xs,rel,dd⟩:=aE4 I.hok e;obtain⟨w',hw,rw'⟩:=pB.some_of (v:=v) (o:=(Wh xs k).map (·.2)) (by rw[l];exact rel.val k);obtain⟨p,hp,hp2⟩:=Ff.mp hw;refine wpAny_getItem_heap (Ow hu) (aDw I.hok eb) dd hp ?_;rw[hp2];exact h w' _ (I.tok _) rw'
def zH{h':Heap}{t':Nat}{ob:HO}(I:#v[1])(mu:Mut (H a))(hs:Dm a s.heap h')(he:∃q,h'.get? a=some q)(new:cC X.prog X.w (upd H a ob) h' a ob):
  Inv X pins σ (upd H a ob) {s with heap:=h',toks:=t'}:=
 I.write (x:=a) (e:=a) mu (.inl rfl) (λb q hb z=>(hs.2 b hb).trans z) he new
def aGv{P:Ap}{w:Bh}{H':Hp}{h':Heap}{kvs:List (Key×V)}{vs:List (Key×Value)}(z:kvs.length<=sizeLine)(hd:(a==Il)=false)(rel:KV kvs vs)(dd:h'.DictOf (dB P w) a vs):
  cC P w H' h' a (.dK kvs):=⟨z,hd,vs,rel,dd⟩
def aCd{H':Hp}{Q:Unit->Ae->Prop}(hu:A.units+1<cLine)(I:#v[1])(g:aC2 H a y v H')(ry:RelV y u)(rv:RelV v r)(h:∀s',Inv X pins σ H' s'->Q () s'):
  Au #v[b] A (Tf (.ref a) u r) Q E s:=by
 rcases g with ⟨kvs,k,e,ey,l,eH⟩|⟨kvs,k,b,e,ey,eb,l,eH⟩
 ·subst ey eH;obtain⟨z,hd,vs,rel,dd⟩:=aH8 I.hok e;have hz:vs.length<=sizeLine:=by rw[<-rel.length];exact z
  have hl:(putK kvs k v).length<=sizeLine:=by have:=rB kvs k v;lia
  refine wpAny_setItem_pairs (hsz:=hz) (aFb ry) dd λh' dd' hs=>h _ ?_;have he:∃q,h'.get? a=some q:=let⟨q,_,_,hq,_⟩:=dd';⟨q,hq⟩;exact zH I (by rw[e];exact Ep) hs he (aGv hl hd (rel.put k rv) dd')
 ·subst ey eH;cases (show u=Aj b from ry);obtain⟨z,hd,xs,rel,dd⟩:=aWc I.hok e;have hz:xs.length<=sizeLine:=by rw[<-Qn rel];exact z
  have hl:(putK kvs k v).length<=sizeLine:=by have:=rB kvs k v;lia
  refine wpAny_setItem_heap (hsz:=hz) (Ow hu) (aDw I.hok eb) dd λh' dd' hs=>h _ ?_;obtain⟨q,es,ep,hq,h2,h3,h4,_,h5⟩:=dd';refine zH I (by rw[e];exact Ep) hs ⟨q,hq⟩ ⟨hl,hd,_,(rel.put k eb rv).keeps λc ys ec=>?_,q,es,ep,hq,h2,h3,h4,h5⟩;rw[aL (aWu ec e (λz=>nomatch z))];exact ec
variable {kvs:List (Key×V)}{k:Key}
def aPg(i:Bw):Prop:=∀ov iv,subscripted i false ov iv=operate [ov,iv] (Px ov iv)
def aQ1{prog:Ap}{w:Bh}{A:Bl}{E:#v[a]}{s:Ae}{env:Env}{value slice:Bw}{pos:Pos}{T id:String}{Q:#v[a]}
  (hl:Lf (.type T) "__getitem__"=pure (some (.builtin id))) (hs:aPg slice)
  (h:Au #v[c] A (eval value env) (λo s₁=>Au #v[c] A (eval slice env) (λi s₂=>s₂.TypeIs o T/\Au #v[c] A (Px o i) Q E s₂) E s₁) E s):
  Au #v[c] A (eval (.Subscript value slice pos) env) Q E s:=by
 refine Xs (Dc h (λo s₁ h₁=>Dc h₁ (λi s₂ h₂=>?_) λ_ _ x=>x) λ_ _ x=>x);obtain⟨hT,h₂⟩:=h₂;unfold Te;refine Aa ?_;rw[getitemInPython_of_ne hT.not_modules];refine Aa (Gm hT hl ?_);have fin:Au #v[c] A (subscripted slice false o i) (λr s₃=>Au #v[c] A (letTemporaryGo value o r>>=λ_=>pure r) Q E s₃) E s₂:=by
  rw[hs o i];exact wpAny_operating (Dc h₂ (λr s₃ h₃=>Aa (wpAny_letTemporaryGo (Ad h₃))) λ_ _ x=>x)
 first
  |exact Ad (Aa fin)
  |exact Aa (Ad (Aa fin))
  |exact Aa fin
def aE2{X:Cx}{pins:#v[4]}{σ:St}{H:Hp}{s:Ae}{a:Addr}{y:V}{o:Option V}(I:#v[1])(g:zW H a y o):s.TypeIs (.ref a) "dict":=by
 rcases g with ⟨kvs,k,e,_,_⟩|⟨kvs,k,b,e,_,_,_⟩
 ·obtain⟨_,_,vs,_,dd⟩:=aE3 I.hok e;exact dd.typeIs
 ·obtain⟨_,_,xs,_,dd⟩:=aE4 I.hok e;exact dd.typeIs
def aXp(td ty:TE):TE:=λσ H Q=>td σ H λx H1=>ty σ H1 λy H2=>∃a v,x=.ref a/\zW H2 a y (some v)/\Q v H2
def aXj(td ty tv:TE):TS:=λD σ H=>tv σ H λv H1=>td σ H1 λx H2=>ty σ H2 λy H3=>∃a H4,x=.ref a/\aC2 H3 a y v H4/\D.nx σ H4
section
variable {X:Cx}{o i e value:Bw}{pos pos' tpos:Pos}{td ty tv:TE}
def aIo(hu:X.A.units+1<cLine)(ho:PE X o td)(hi:PE X i ty)(hs:aPg i):PE X (.Subscript o i pos) (aXp td ty):=by
 intro pins s σ H Q I h;refine aQ1 PySem.F.slot_dict_getitem.lookup hs (thn (ho pins s σ H _ I h) λu s1 ⟨x,H1,I1,rx,q1⟩=>thn (hi pins s1 σ H1 _ I1 q1) λiv s2 ⟨y,H2,I2,ry,a,v,ex,g,q2⟩=>?_);subst ex;obtain rfl:u=Aj a:=rx;exact⟨aE2 I2 g,aJl hu I2 g ry λw' s3 I3 rw'=>⟨v,H2,I3,rw',q2⟩⟩
def aIs(hu:X.A.units+1<cLine)(ho:PE X o td)(hi:PE X i ty)(hv:PE X value tv)(hs:Dt value (some (.Subscript o i pos')) pos.line X.env=pure false):
  PS X (.Assign [.Subscript o i pos'] value pos) (aXj td ty tv):=by
 intro pins s σ H D I h;refine wpAny_Assign_Subscript (thn (hv pins s σ H _ I h) λr s1 ⟨v,H1,I1,rv,q1⟩=>thn (ho pins s1 σ H1 _ I1 q1) λu s2 ⟨x,H2,I2,rx,q2⟩=>thn (hi pins s2 σ H2 _ I2 q2) λiv s3 ⟨y,H3,I3,ry,a,H4,ex,g,q3⟩=>?_) hs;subst ex;obtain rfl:u=Aj a:=rx;exact aCd hu I3 g ry rv λs4 I4=>⟨σ,H4,I4,q3⟩
end
def aLt{P:Ap}{w:Bh}{H:Hp}(h:Heap)(hb:Il<h.objs.size):cC P w H (h.push #v[7]) h.objs.size (.dK []):=
 ⟨Bt _,beq_eq_false_iff_ne.mpr (Ci (Be hb)),[],.nil,Zi h⟩
variable {pos:Pos}
def aEh:List (TE×TE)->St->Hp->(List (V×V)->Hp->Prop)->Prop
 | [],_,H,Q=>Q [] H
 |(tk,tv)::r,σ,H,Q=>tk σ H λx H1=>tv σ H1 λy H2=>aEh r σ H2 λps H3=>Q ((x,y)::ps) H3
abbrev VV:List (V×V)->List (Value×Value)->Prop:=Vi λp q=>RelV p.1 q.1/\RelV p.2 q.2
def PPs(X:Cx)(pos:Pos)(keys:List (Option Bw))(values:List Bw)(trs:List (TE×TE)):Prop:=
 ∀(pins:#v[4])(s:Ae)(σ:St)(H:Hp)(Q:List (V×V)->Hp->Prop),#v[1]->aEh trs σ H Q->
  Au #v[b] X.A (evalPairs (pairTrees keys values X.env pos)) (λvs s'=>∃ps H',Inv X pins σ H' s'/\VV ps vs/\Q ps H') X.xe s
def aQl{X:Cx}{pos:Pos}:PPs X pos [] [] []:=λpins s σ H Q I h=>pairTrees_nil_walk ⟨[],H,I,.nil,h⟩
def aNv{X:Cx}{pos:Pos}{k v:Bw}{ks:List (Option Bw)}{vs:List Bw}{tk tv:TE}(hk:PE X k tk)(hv:PE X v tv)(hr:PPs X pos ks vs trs):
  PPs X pos (some k::ks) (v::vs) ((tk,tv)::trs):=λpins s σ H Q I h=>
 pairTrees_cons_walk (thn (hk pins s σ H _ I h) λu s1 ⟨x,H1,I1,rx,q1⟩=>thn (hv pins s1 σ H1 _ I1 q1) λw2 s2 ⟨y,H2,I2,ry,q2⟩=>
  thn (hr pins s2 σ H2 _ I2 q2) λws s3 ⟨ps,H3,I3,rel,q3⟩=>⟨(x,y)::ps,H3,I3,.cons ⟨rx,ry⟩ rel,q3⟩)
def pM(kvs more:List (Key×V)):List (Key×V):=more.foldl (λacc kv=>putK acc kv.1 kv.2) kvs
def KV.merge:∀{more:List (Key×V)}{rs:List (Key×Value)}{kvs:List (Key×V)}{vs:List (Key×Value)},KV more rs->KV kvs vs->KV (pM kvs more) (merged vs rs):=by
 intro more rs kvs vs r;unfold KV at r;induction r generalizing kvs vs with
 |nil=>intro q;exact q
 |@cons p q ps qs h t ih=>
  intro r0;have e:KV (putK kvs p.1 p.2) (stored vs q.1 q.2):=by
   have:=r0.put p.1 h.2;rw[<-h.1];exact this
  exact ih e
theorem nZ:∀(more kvs:List (Key×V)),(pM kvs more).length<=kvs.length+more.length
 | [],kvs=>by show kvs.length<=kvs.length+0;lia
 |p::r,kvs=>by
  have h1:=nZ r (putK kvs p.1 p.2);have h2:=rB kvs p.1 p.2;show(pM (putK kvs p.1 p.2) r).length<=_;rw[Aq];lia
theorem aAe{P:Ap}{w:Bh}:∀{kvs:List (Key×V)}{ws:List (Value×Value)},VV (kvs.map λkv=>(kV kv.1,kv.2)) ws->∃rs,Carries (dB P w) ws rs/\KV kvs rs
 | [],_,r=>by rw[Hs]at r;cases r;exact⟨[],Ep,.nil⟩
 |p::kvs,_,r=>by
  rw[Da]at r;cases r with
  |@cons a b as bs h t=>
   obtain⟨rs,c,q⟩:=aAe (P:=P) (w:=w) t;obtain⟨b1,b2⟩:=b;exact⟨(p.1,b2)::rs,⟨aFb h.1,rfl,c⟩,.cons ⟨rfl,h.2⟩ q⟩
def aXr(trs:List (TE×TE)):TE:=λσ H Q=>∀p,H p=none->aEh trs σ (upd H p (.dK [])) λps H2=>H2 p=some (.dK [])/\∃kvs:List (Key×V),ps=kvs.map (λkv=>(kV kv.1,kv.2))/\kvs.length<=15/\Q (.ref p) (upd H2 p (.dK (pM [] kvs)))
def aQf{X:Cx}{pos:Pos}{keys:List (Option Bw)}{values:List Bw}(h:PPs X pos keys values trs)(hall:keys.all (·.isSome)=true)(hl:keys.length=values.length)(h0:keys≠[])
  (h15:keys.length<=15):PE X (.Dict keys values pos) (aXr trs):=by
 intro pins s σ H Q I q;have hn:=I.hok.fresh (Am #v[0]);have I1:=I.laid (a:=#v[0]) (o:=.dK []) (h':=s.heap.push #v[7]) (t':=s.toks) (λ_ _ q=>Af _ q) (Am _) (aLt s.heap I.big);refine wpAny_Dict_walk (knd:=dB X.prog X.w) hall hl h0 h15 (thn (h pins _ σ _ _ I1 (q _ hn)) λws s2 ⟨ps,H2,I2,rel,e,kvs,ep,lk,q2⟩=>?_);subst ep;obtain⟨rs,c,rk⟩:=aAe (P:=X.prog) (w:=X.w) rel;obtain⟨z,hd,vs0,r0,dd⟩:=aH8 I2.hok e;cases r0;refine⟨rs,c,dd,λh' dd' hs=>⟨.ref #v[0],_,?_,rfl,q2⟩⟩;have hz:(pM [] kvs).length<=sizeLine:=by
  have h1:=nZ kvs [];rw[Hc]at h1;rw[Dv];lia
 have he:∃q,h'.get? #v[0]=some q:=let⟨q,_,_,hq,_⟩:=dd';⟨q,hq⟩;exact zH I2 (by rw[e];exact Ep) hs he (aGv hz hd (rk.merge .nil) dd')
structure M1(X:Cx)(o:Bw)(m:Str)(apos:Pos)(e:Bw)(cpos:Pos):Prop where
 base:Eh o m X.env (eval o X.env)=eval o X.env
 few:((Ju cpos (Bc [e] X.env)).all (λx=> !x.1) && (Gh cpos (Do [] X.env)).all (λx=>x.1.isSome)
  && decide (([e]:List Bw).length+([]:List Jm).length+(if([]:List Jm).isEmpty then 0 else 1)<30))=true
 line:EL apos cpos
 trees:Ju cpos (Bc [e] X.env)=[(false,eval e X.env)]
def IsD(H:Hp)(a:Addr):Prop:=(∃kvs,Rd H a (.dK kvs))∨∃kvs,Rd H a (.dT kvs)
def aMp{X:Cx}{pins:#v[4]}{σ:St}{H:Hp}{s:Ae}{a:Addr}(I:#v[1])(d:IsD H a):
  s.TypeIs (.ref a) "dict"/\(∀b,Aj a=.ref b->∃ob,s.heap.get? b=some ob/\ob.dict=none)/\(a==Il)=false:=by
 rcases d with ⟨kvs,e⟩|⟨kvs,e⟩
 ·obtain⟨_,hd,vs,_,dd⟩:=aE3 I.hok e;refine⟨dd.typeIs,λb q=>?_,hd⟩;cases q;obtain⟨ob,_,_,h1,h2,_⟩:=dd;exact⟨ob,h1,h2.2.1⟩
 ·obtain⟨_,hd,xs,_,dd⟩:=aE4 I.hok e;refine⟨dd.typeIs,λb q=>?_,hd⟩;cases q;obtain⟨ob,_,_,h1,h2,_⟩:=dd;exact⟨ob,h1,h2.2.1⟩
variable {y d:V}
def aTj{Q:#v[a]}(hu:A.units+1<cLine)(I:#v[1])(g:zW H a y o)(ry:RelV y u)(h:∀w' s',Inv X pins σ H s'->RelV (o.getD .non) w'->Q w' s'):
  Au #v[b] A (call (.builtin "dict.get") [.ref a,u]) Q E s:=by
 rcases g with ⟨kvs,k,e,ey,l⟩|⟨kvs,k,b,e,ey,eb,l⟩
 ·subst ey;obtain⟨z,hd,vs,rel,dd⟩:=aE3 I.hok e;refine Vc Kz dd.typeIs Qm (Qb _ _) (meets_dict_get (dB X.prog X.w) a (aFb ry) hd) ⟨_,dd.mapOf,h _ _ (I.tok _) ?_⟩;rw[l];exact(rel.val k).getD rfl
 ·subst ey;cases (show u=Aj b from ry);obtain⟨z,hd,xs,rel,dd⟩:=aE4 I.hok e;refine Vc Kz dd.typeIs Qm (Qb _ _) (meetsH_dict_get (Mx (dB X.prog X.w)) a b hd) ⟨Ow hu,k,xs,aDw I.hok eb,dd,h _ _ (I.tok _) ?_⟩;rw[l];exact(rel.val k).getD rfl
def aUy(td ty:TE):TE:=λσ H Q=>td σ H λx H1=>∃a,x=.ref a/\IsD H1 a/\ty σ H1 λy H2=>∃o,zW H2 a y o/\Q (o.getD .non) H2
section
variable {X:Cx}{o e f:Bw}{apos cpos:Pos}{td ty tx:TE}
def aNp(hu:X.A.units+1<cLine)(ho:PE X o td)(he:PE X e ty)(m:M1 X o "get" apos e cpos):PE X (.Call (.Attribute o "get" apos) [e] [] cpos) (aUy td ty):=by
 intro pins s σ H Q I h;refine Xj m.base m.few m.line Qa Kz PySem.F.type_dict_get (thn (ho pins s σ H _ I h) λu s1 ⟨x,H1,I1,rx,a,ex,d,q1⟩=>?_);subst ex;obtain rfl:u=Aj a:=rx;obtain⟨t1,t2,_⟩:=aMp I1 d;refine⟨t1,t2,?_⟩;rw[m.trees];refine Io rfl (Jj (Nj (thn (he pins s1 σ H1 _ I1 q1) λiv s2 ⟨y,H2,I2,ry,ov,g,q2⟩=>Nz ?_)));exact aTj hu I2 g ry λw' s3 I3 rw'=>⟨_,H2,I3,rw',q2⟩
end
section
variable {κ:Type} [DecidableEq κ]
end
end L2
namespace PySem
variable {owner:Array (Option Nat)}{xs:Array Nat}{a:Addr}{M:Nat}{j:Nat}{h h':Heap}{α:Type}{hs:List Int}{mask:Nat}{e:Nat}{n:Nat}{N:Nat}
open AutoSeq1 (wpAny_loadPart')
open Sem (wp)
def wZ:fillsNumberSlot (.type "tuple") "mul"=pure false:=
 fillsNumberSlot_seq (id:="tuple.__mul__") (r:=some (.builtin "tuple.__rmul__")) F.slot_tuple_mul.lookup #v[3] F.slot_tuple_rmul.lookup #v[3]
def aEb:seqRepeat? (.type "tuple")=pure (some (.builtin "tuple.__mul__")):=by
 unfold seqRepeat?;rw[seqSlot_of (T:="tuple") (name:="__mul__") (id:="tuple.__mul__") F.slot_tuple_mul.lookup #v[3],seqSlot_of (T:="tuple") (name:="__rmul__") (id:="tuple.__rmul__") F.slot_tuple_rmul.lookup #v[3]];rfl
def aAo(a:Int)(t:Tok)(l:Addr)(items:Array Value)(n:Nat)(dd:Option Addr)(sl:Array (#v[8])):
  Meets (Builtin.«int.__rmul__» ⟨[.int a t,.ref l],[]⟩) (λ_ R s=>s.heap.get? l=some {cls:=.type "tuple",dict:=dd,data:=.seq items n,slots:=sl}/\R (.ok (.ret Lw)) s):=
 .of_wp λprog w A R s h=>by obtain⟨hp,g,d,tk,os⟩:=s;obtain⟨hl,h⟩:=h;wp_walk;exact⟨_,rfl,h⟩
def aHo(l:Addr)(items:Array Value)(n:Nat)(dd:Option Addr)(sl:Array (#v[8]))(x:Int)(u:Tok)(hi:items.isEmpty=false)(h0: -(2 ^ 63)<=x)(h1:x<=0):
  Meets (Builtin.«tuple.__mul__» ⟨[.ref l,.int x u],[]⟩) (λ_ R s=>s.heap.get? l=some {cls:=.type "tuple",dict:=dd,data:=.seq items n,slots:=sl}/\R (.ok (.ret (Aj #v[0]))) {s with heap:=s.heap.push {cls:=Fc "tuple",data:=Xc #[]},toks:=s.toks}):=
 .of_wp λprog w A R s h=>by
  obtain⟨hp,g,d,tk,os⟩:=s;obtain⟨hl,h⟩:=h;have f1:=Nu;have c1:¬(decide (x< -2 ^ 63) || decide (x≥2 ^ 63))=true:=by simp;lia
  have c2:¬(items.isEmpty || x==1)=true:=by rw[hi];simp;lia
  have c3:(decide (x<=0) || items.isEmpty)=true:=by simp[h1]
  wp_walk using Fp hl
  refine Iz (λhh=>absurd hh c1) (λ_=>?_)
  wp_walk using Fp hl
  refine Iz (λhh=>absurd hh c2) (λ_=>?_)
  wp_walk using Fp hl
  exact⟨_,rfl,h⟩
def aHp(l:Addr)(items:Array Value)(n:Nat)(dd:Option Addr)(sl:Array (#v[8]))(x:Int)(u:Tok)(hx:x=1):
  Meets (Builtin.«tuple.__mul__» ⟨[.ref l,.int x u],[]⟩) (λ_ R s=>s.heap.get? l=some {cls:=.type "tuple",dict:=dd,data:=.seq items n,slots:=sl}/\R (.ok (.ret (Aj l))) s):=
 .of_wp λprog w A R s h=>by
  obtain⟨hp,g,d,tk,os⟩:=s;obtain⟨hl,h⟩:=h;have f1:=Nu;have c1:¬(decide (x< -2 ^ 63) || decide (x≥2 ^ 63))=true:=by simp;lia
  have c2:(items.isEmpty || x==1)=true:=by simp[hx]
  wp_walk using Fp hl
  exact⟨_,rfl,h⟩
def aHq(l:Addr)(items:Array Value)(n:Nat)(dd:Option Addr)(sl:Array (#v[8]))(x:Int)(u:Tok)(hi:items.isEmpty=false)(h0:2<=x)(h1:x<1000)(h2:items.size<=1000):
  Meets (Builtin.«tuple.__mul__» ⟨[.ref l,.int x u],[]⟩) (λ_ R s=>s.heap.get? l=some {cls:=.type "tuple",dict:=dd,data:=.seq items n,slots:=sl}/\R (.ok (.ret (Aj #v[0]))) {s with heap:=s.heap.push {cls:=Fc "tuple",data:=Xc (Rf (λx1 x2=>x1++x2) #[] (Al x.toNat items))},toks:=s.toks}):=
 .of_wp λprog w A R s h=>by
  obtain⟨hp,g,d,tk,os⟩:=s;obtain⟨hl,h⟩:=h;have f1:=Nu;have c1:¬(decide (x< -2 ^ 63) || decide (x≥2 ^ 63))=true:=by simp;lia
  have c2:¬(items.isEmpty || x==1)=true:=by rw[hi];simp;lia
  have c3:¬(decide (x<=0) || items.isEmpty)=true:=by rw[hi];simp;lia
  have hb:(items.size:Int)*x<=1000000:=by
   have:=Wz (show(items.size:Int)<=1000 by lia) (show x<=1000 by lia) ∅ ∅
   lia
  have c4:¬(items.size:Int)*x>(2 ^ 63-1) / 8:=by lia
  have c5:¬Mq ((items.size:Int)*x)=true:=by
   unfold Mq;rw[Dv];simp
   lia
  have hsz:(Rf (λx1 x2=>x1++x2) #[] (Al x.toNat items)).size<=sizeLine:=by
   rw[AutoListH.size_joined,Dv];have e:((x.toNat*items.size:Nat):Int)=(items.size:Int)*x:=by
    rw[Int.natCast_mul,Int.toNat_of_nonneg ∅,Int.mul_comm]
   simp only[Array.size_empty,Kj]
   lia
  wp_walk using Fp hl
  refine Iz (λhh=>absurd hh c1) (λ_=>?_)
  wp_walk using Fp hl
  refine Iz (λhh=>absurd hh c2) (λ_=>?_)
  wp_walk using Fp hl
  refine Iz (λhh=>absurd hh c3) (λ_=>?_)
  wp_walk using Fp hl
  refine Iz (λhh=>absurd hh c4) (λ_=>?_)
  wp_walk using Fp hl
  all_goals first|exact⟨_,rfl,h⟩|(refine wpAny_ite_false (decide_eq_false (Nat.not_lt.mpr hsz)) ?_;wp_walk;exact⟨_,rfl,h⟩)
variable {prog:Ap}{w:Bh}{A:Bl}{E:#v[a]}{s:Ae}
section
variable {prog:Ap}{w:Bh}{K:Type} [DecidableEq K](knd:KeyKind prog w K)
def bH(h:Heap)(x:K×List K)(a:Addr):Prop:=∃o v b n,h.get? a=some o/\o.cls=.type "tuple"/\o.data=.seq #[v,.ref b] n/\knd.is x.1 v=true/\Jn knd h x.2 b
def rD(x:K×List K):Int:=reduceHash (Ec [knd.hash x.1,Jq knd x.2])
variable {knd}
def bH.typeIs{s:Ae}{x:K×List K}(h:bH knd s.heap x a):s.TypeIs (.ref a) "tuple":=let⟨o,_,_,_,ho,hc,_⟩:=h;⟨o,ho,hc⟩
def bH.inj{h:Heap}{x y:K×List K}(hx:bH knd h x a)(hy:bH knd h y a):x=y:=by
 obtain⟨o,v,b,n,ho,_,hd,h1,h2⟩:=hx;obtain⟨o',v',b',n',ho',_,hd',h1',h2'⟩:=hy;obtain rfl:o=o':=Bq (ho.symm.trans ho');rw[hd]at hd';injection hd' with e _
 have e1:v=v'/\b=b':=by simpa using e
 obtain⟨rfl,rfl⟩:=e1;exact Pb (knd.inj _ _ _ h1 h1') (h2.inj h2')
def bH.keeps{x:K×List K}{a d:Addr}{o:Obj}{es ep}(hx:bH knd h x a)(ho:h.get? d=some o)(hd:o.data=.dict es ep)(hs:Dm d h h'):bH knd h' x a:=by
 obtain⟨o',v,b,n,ho',hc,hd',h1,h2⟩:=hx;have hne:a≠d:=by
  rintro rfl;obtain rfl:o'=o:=Bq (ho'.symm.trans ho);rw[hd]at hd';exact nomatch hd'
 exact⟨o',v,b,n,(hs.2 a hne).trans ho',hc,hd',h1,h2.keeps ho hd hs⟩
variable {A:Bl}{E:#v[a]}{s:Ae}
def wC{x:K×List K}{Q:Int->Ae->Prop}(hu:A.units+1<cLine)(hk:bH knd s.heap x a)(h:Q (rD knd x) {s with toks:=s.toks+(x.2.length+3)}):
  Au #v[c] A (pyHash (.ref a)) Q E s:=by
 have hT:=hk.typeIs
 obtain⟨o,v,b,n,ho,_,hd,h1,h2⟩:=hk
 unfold pyHash
 first|unfold pyHashByItsType|skip
 first|refine Aa (wpAny_cRoomFor_or (.inr ∅) ?_)|skip
 refine Aa (Gm hT F.slot_tuple_hash.lookup ?_)
 show Au _ _ (if(some (Hg "tuple.__hash__")==some Cb)=true then _ else _) Q E s
 rw[if_neg (by rw[beq_builtin_none];exact As)]
 refine Aa (Gm hT F.slot_tuple_hash.lookup ?_)
 show Au _ _ (callSpecialIfBoundUnlessNone? (.ref a) "__hash__" _>>=_) Q E s
 refine Aa (wpAny_callSpecialIfBoundUnlessNone?_slot hT Wn (Ga Wn hT F.entry_tuple_hash ?_ (F.args_tuple_hash_1 _)))
 show Au _ _ (Mr (.ref a)>>=_) _ _ s
 refine Aa (Iw ho hd ?_)
 refine Aa ?_
 rw[<-Fq]
 refine Fb _
  (λrest(r:Array Int) s'=>(rest=[v,.ref b]/\r= #[]/\s'=s)∨(rest=[.ref b]/\r= #[knd.hash x.1]/\s'={s with toks:=s.toks+1})∨(rest=[]/\r= #[knd.hash x.1,Jq knd x.2]/\s'={s with toks:=s.toks+1+(x.2.length+1)}))
  _ ?_ ?_ _ _ (.inl ⟨rfl,rfl,rfl⟩)
 ·rintro y rest r s' (⟨e,rfl,rfl⟩|⟨e,rfl,rfl⟩|⟨e,_,_⟩)
  ·obtain⟨rfl,rfl⟩:=Fh e
   refine Aa (knd.pyHash h1 ?_)
   exact Ad (.inr (.inl ⟨rfl,rfl,rfl⟩))
  ·obtain⟨rfl,rfl⟩:=Fh e
   refine Aa (wpAny_pyHash_tuple (show A.in1.units<cLine from hu) h2 ?_)
   exact Ad (.inr (.inr ⟨rfl,rfl,rfl⟩))
  ·cases e
 ·rintro r s' (⟨e,_,_⟩|⟨e,_,_⟩|⟨_,rfl,rfl⟩)
  ·cases e
  ·cases e
  ·show Au _ _ (retInt (Ec [knd.hash x.1,Jq knd x.2])) _ _ _
   refine wpAny_ret_mkInt ?_
   show Au _ _ (if(decide (-(2:Int) ^ 63<=Ec [knd.hash x.1,Jq knd x.2]) && decide (Ec [knd.hash x.1,Jq knd x.2]<2 ^ 63))=true then _ else _) Q E _
   have et:s.toks+1+(x.2.length+1)+1=s.toks+(x.2.length+3):=by lia
   unfold rD reduceHash at h
   by_cases hr:(decide (-(2:Int) ^ 63<=Ec [knd.hash x.1,Jq knd x.2]) && decide (Ec [knd.hash x.1,Jq knd x.2]<2 ^ 63))=true
   ·rw[if_pos hr]
    rw[if_pos hr, <-et]at h
    exact Ad h
   ·rw[if_neg hr]
    rw[if_neg hr, <-et]at h
    exact Aa (Nk (Ad h))
def aD1{x y:K×List K}{a b:Addr}{P:Fin->Ae->Prop}(hu:A.units<cLine)(hx:bH knd s.heap x a)(hy:bH knd s.heap y b)(h:P (.done (.ret (.bool (decide (x=y))))) s):
  Au #v[c] A (Builtin.«tuple.__eq__» ⟨[.ref a,.ref b],[]⟩) P E s:=by
 have hTb:=hy.typeIs;obtain⟨oa,va,ba,na,hoa,_,hda,h1,h2⟩:=hx;obtain⟨ob,vb,bb,nb,hob,_,hdb,h1',h2'⟩:=hy;show Au _ _ (Ki (.ref b) (.type "tuple")>>=_) _ _ s;refine Aa (Hx hTb Jr ?_)
 ac_rfl
 refine Aa (Iw hoa hda ?_);refine Aa (Iw hob hdb ?_);refine Aa ?_;refine Fb _
  (λrest r s'=>r.1=none/\s'=s/\((rest=[(va,vb),(.ref ba,.ref bb)])∨(rest=[(.ref ba,.ref bb)]/\x.1=y.1)∨(rest=[]/\x=y)))
  _ ?_ ?_ _ _ ⟨rfl,rfl,.inl rfl⟩
 ·rintro⟨u,v⟩ rest r s' ⟨hr,rfl,(e|⟨e,e1⟩|⟨e,_⟩)⟩
  ·obtain⟨e2,rfl⟩:=Fh e;cases e2;refine Aa (knd.eqBool (a:=x.1) (b:=y.1) h1 h1' ?_);by_cases hk:x.1=y.1
   ·rw[decide_eq_true hk]
    ac_rfl
    exact Ad ⟨by first|rfl|trivial,by first|rfl|trivial,by first|exact .inr (.inl ⟨rfl,hk⟩)|simp[hk]⟩
   ·rw[decide_eq_false hk];simp only[Jb,if_true];have hf:decide (x=y)=false:=decide_eq_false λz=>hk (by rw[z]);rw[hf]at h;exact Aa (Ad (Ad (Ad h)))
  ·obtain⟨e2,rfl⟩:=Fh e;cases e2;refine Aa (wpAny_eqBool_tuple hu h2 h2' ?_);by_cases hk:x.2=y.2
   ·rw[decide_eq_true hk]
    ac_rfl
    exact Ad ⟨by first|rfl|trivial,by first|rfl|trivial,by first|exact .inr (.inr ⟨rfl,Pb e1 hk⟩)|simp[e1,hk,Prod.ext_iff]⟩
   ·rw[decide_eq_false hk];simp only[Jb,if_true];have hf:decide (x=y)=false:=decide_eq_false λz=>hk (by rw[z]);rw[hf]at h;exact Aa (Ad (Ad (Ad h)))
  ·cases e
 ·rintro⟨r1,r2⟩ s' ⟨hr,rfl,(e|⟨e,_⟩|⟨_,e⟩)⟩
  ·cases e
  ·cases e
  ·simp only at hr;subst hr;refine Ad ?_;rw[decide_eq_true e]at h;exact h
def wA{x y:K×List K}{a b:Addr}{Q:Bool->Ae->Prop}(hu:A.units+1<cLine)(hx:bH knd s.heap x a)(hy:bH knd s.heap y b)(h:Q (decide (x=y)) s):
  Au #v[c] A (eqBool (.ref a) (.ref b)) Q E s:=by
 unfold eqBool
 try with_reducible refine Cg ?_
 show Au _ _ (if(Aj a==Aj b)=true then _ else _) Q E s;by_cases hab:(Aj a==Aj b)=true
 ·rw[if_pos hab];have e:a=b:=by have:=eq_of_beq hab;injection this
  subst e;obtain rfl:=hx.inj hy;exact Aa (Nk (Ad (by simpa using h)))
 ·rw[if_neg hab];exact Aa (Rj (op:=.Eq) hx.typeIs hy.typeIs Xv
   (Ga Xv hx.typeIs F.entry_tuple_eq (aD1 (by show A.units+1<cLine;exact hu) hx hy ⟨_,rfl,(λe=>nomatch e),De h⟩) (F.args_tuple_eq_2 _ _)) ∅)
def qI{ks:List K}{Q:Bool->Ae->Prop}(hk:Jn knd s.heap ks a)(h:Q true s):Au #v[c] A (Va (n+1) (.ref a)) Q E s:=by
 have hT:=hk.typeIs;obtain⟨o,items,m,ho,_,hd,hi⟩:=hk;unfold Va;refine Aa (Gm hT F.slot_tuple_eq.lookup ?_);show Au _ _ (Ki (.ref a) (.type "tuple")>>=_) _ _ s;refine Aa (Hx hT Jr ?_)
 ac_rfl
 refine Aa (Gz ho hd ?_);refine Aa ?_;show Au _ _ (forIn items _ _) _ _ s;rw[<-Fq];refine Fb _ (λrest r s'=>r.1=none/\s'=s/\∀v∈rest,Se v=true) _ ?_ ?_ _ _ ⟨rfl,rfl,hi.byValue⟩
 ·rintro v rest r s' ⟨hr,rfl,hall⟩;rw[Xn _ (hall v Ah)];refine Aa (Ad ?_)
  ac_rfl
  exact Ad ⟨rfl,rfl,λu hu'=>hall u (Ag _ hu')⟩
 ·rintro⟨r1,r2⟩ s' ⟨hr,rfl,_⟩;simp only at hr;subst hr;exact Ad h
def rW{x:K×List K}{Q:Bool->Ae->Prop}(hk:bH knd s.heap x a)(h:Q true s):Au #v[c] A (Va 8 (.ref a)) Q E s:=by
 have hT:=hk.typeIs;obtain⟨o,v,b,m,ho,_,hd,h1,h2⟩:=hk;unfold Va;refine Aa (Gm hT F.slot_tuple_eq.lookup ?_);show Au _ _ (Ki (.ref a) (.type "tuple")>>=_) _ _ s;refine Aa (Hx hT Jr ?_)
 ac_rfl
 refine Aa (Gz ho hd ?_);refine Aa ?_;show Au _ _ (forIn _ _ _) _ _ s;rw[<-Fq];refine Fb _ (λrest r s'=>r.1=none/\s'=s/\∀u∈rest,u=v∨u=.ref b) _ ?_ ?_ _ _ ⟨rfl,rfl,λu hu=>by simpa using hu⟩
 ·rintro u rest r s' ⟨hr,rfl,hall⟩;rcases hall u Ah with rfl|rfl
  ·rw[Xn _ (knd.byValue _ _ h1)];refine Aa (Ad ?_)
   ac_rfl
   exact Ad ⟨rfl,rfl,λu hu'=>hall u (Ag _ hu')⟩
  ·refine Aa (qI h2 ?_)
   ac_rfl
   exact Ad ⟨rfl,rfl,λu hu'=>hall u (Ag _ hu')⟩
 ·rintro⟨r1,r2⟩ s' ⟨hr,rfl,_⟩;simp only at hr;subst hr;exact Ad h
end
def mG{prog:Ap}{w:Bh}{K:Type} [DecidableEq K](knd:KeyKind prog w K):Ii prog w (K×List K) where
 is:=bH knd
 hash:=rD knd
 draws:=λx=>x.2.length+3
 room:=λA=>A.units+1<cLine
 inj:=λhx hy=>hx.inj hy
 keeps:=λx ho hd hs=>x.keeps ho hd hs
 pyHash:=λhu hk h=>wC hu hk h
 eqBool:=λhu hx hy h=>wA hu hx hy h
 quiet:=λhk h=>rW hk h
namespace SetTable
def gJ(mask:Nat):Nat->Nat×Nat->Nat×Nat
 |0,p=>p
 |m+1,p=>gJ mask m (leap mask p.1 p.2)
theorem tL(mask:Nat):∀m p,(gJ mask m p).2=p.2 / 32 ^ m
 |0,p=>by rw[gJ,Nat.pow_zero,Nat.div_one]
 |m+1,p=>by
  rw[gJ,tL mask m];show p.2 / 32 / 32 ^ m=_;rw[Nat.div_div_eq_div_mul,Yq,Yr]
theorem aCo(mask:Nat):∀m k p,gJ mask (m+k) p=gJ mask k (gJ mask m p)
 |0,k,p=>by rw[Kj,gJ]
 |m+1,k,p=>by rw[Yo,gJ,aCo mask m k,gJ]
def five(mask i:Nat):Nat:=(i*5+1) % (mask+1)
def qZ(mask:Nat):Nat->Nat->Nat
 |0,i=>i
 |m+1,i=>qZ mask m (five mask i)
theorem aAr(mask:Nat):∀m i,(gJ mask m (i,0))=(qZ mask m i,0)
 |0,i=>rfl
 |m+1,i=>by
  rw[gJ,qZ];show gJ mask m ((i*5+1+0 / 32) % (mask+1),0 / 32)=_;rw[Nat.zero_div,Nat.add_zero];exact aAr mask m (five mask i)
theorem aFe(mask:Nat):∀m p,(gJ mask (m+1) p).1<=mask
 |0,p=>by
  show(p.1*5+1+p.2 / 32) % (mask+1)<=mask;have:=Ri (p.1*5+1+p.2 / 32) (show 0<mask+1 by lia)
  lia
 |m+1,p=>by rw[gJ];exact aFe mask m _
def Round(mask:Nat):Prop:=∀i,i<=mask->∀e,e<=mask->∃k,k<=mask/\qZ mask (k+1) i=e
def aFt(h:∀i:_root_.Fin (mask+1),∀e:_root_.Fin (mask+1),∃k:_root_.Fin (mask+1),qZ mask (k.1+1) i.1=e.1):Round mask:=λi hi e he=>by
 obtain⟨k,hk⟩:=h ⟨i,∅⟩ ⟨e,∅⟩;exact⟨k.1,∅,hk⟩
def aUs:Round 7:=aFt #v[3]
def aQr:Round 31:=aFt #v[3]
def aAs(R:Round mask)(he:e<=mask)(i perturb:Nat)(hp:perturb<2 ^ 64):∃L,1<=L/\L<=mask+14/\(gJ mask L (i,perturb)).1=e:=by
 have h13:(gJ mask 13 (i,perturb)).2=0:=by
  rw[tL];exact Nat.div_eq_of_lt (Bf hp ⋯)
 have hi:=aFe mask 12 (i,perturb);obtain⟨k,hk,e1⟩:=R _ hi e he;refine⟨13+(k+1),∅,∅,?_⟩;rw[aCo];have e2:gJ mask 13 (i,perturb)=((gJ mask 13 (i,perturb)).1,0):=Pb rfl h13;rw[e2,aAr];exact e1
variable {t:SetTable}{hashAt:Nat->Int}{h:Int}
def aN9(mask i:Nat):Gw mask i-i<=9:=by unfold Gw;split<;>lia
def aPt(hd:∀j,t.slot j≠.dummy)(he:t.slot e=.empty):∀(fuel:Nat)(p:Probe)(L:Nat),1<=L->(gJ t.mask L (p.i,p.perturb)).1=e->p.more+2+10*(L-1)<=fuel->∃m,Kd t hashAt h fuel p=some m:=by
 intro fuel;induction fuel with
 |zero=>intro p L h1 _ h3;lia
 |succ fuel ih=>
  intro p L h1 h2 h3;have step:∃m,Kd t hashAt h fuel (t.advance p)=some m:=by
   unfold advance;by_cases hm:p.more>0
   ·rw[if_pos hm];exact ih _ L h1 h2 (by show p.more-1+2+10*(L-1)<=fuel;lia)
   ·rw[if_neg hm];match L,h1 with
    |1,_=>
     have h4:(leap t.mask p.i p.perturb).1=e:=h2;cases fuel with
     |zero=>lia
     |succ f=>
      show∃m,(match t.slot (leap t.mask p.i p.perturb).1 with|.empty=>_|.dummy=>_|.live i=>_)=some m;rw[h4,he];exact⟨_,rfl⟩
    |L+2,_=>
     have hr:=aN9 t.mask (leap t.mask p.i p.perturb).1;exact ih _ (L+1) ∅ h2 (by show Gw t.mask (leap t.mask p.i p.perturb).1-(leap t.mask p.i p.perturb).1+2+10*(L+1-1)<=fuel;lia)
  show∃m,(match t.slot p.j with|.empty=>some (.empty p.j p.dummy)|.dummy=>Kd t hashAt h fuel (t.advance {p with dummy:=some p.j})|.live i=>if(hashAt i==h)=true then some (.candidate p.j i (t.advance p))else Kd t hashAt h fuel (t.advance p))=some m;cases hs:t.slot p.j with
  |empty=>exact⟨_,rfl⟩
  |dummy=>exact absurd hs (hd _)
  |live i=>
   by_cases hh:(hashAt i==h)=true
   ·exact⟨_,if_pos hh⟩
   ·obtain⟨m,hm⟩:=step;exact⟨m,by simp only;rw[if_neg hh];exact hm⟩
def aHg(R:Round t.mask)(he:e<=t.mask)(hd:∀j,t.slot j≠.dummy)(hs:t.slot e=.empty)(p:Probe)(hp:p.perturb<2 ^ 64)(hm:p.more<=9):∃m,t.probe hashAt h p=some m:=by
 obtain⟨L,h1,h2,h3⟩:=aAs R he p.i p.perturb hp;refine aPt hd hs _ p L h1 h3 ?_;unfold turns
 lia
def tU(xs:Array Nat):Prop:=∀i k,i<k->k<xs.size->xs.getD i 0<xs.getD k 0
def aAn{i a b:Nat}(h:i<xs.size):xs.getD i a=xs.getD i b:=by simp[Gd,h]
def aLj(R:tU xs):∀(fuel lo hi:Nat),lo<=hi->hi<=xs.size->hi-lo<=fuel->(∀i,i<lo->xs.getD i 0<j)->(∀i,hi<=i->i<xs.size->j<=xs.getD i 0)->
  Oo xs j fuel lo hi<=xs.size/\(∀i,i<Oo xs j fuel lo hi->xs.getD i 0<j)/\∀i,Oo xs j fuel lo hi<=i->i<xs.size->j<=xs.getD i 0:=by
 intro fuel;induction fuel with
 |zero=>
  intro lo hi h1 h2 h3 a b;have:lo=hi:=by lia
  subst this;exact⟨h2,a,b⟩
 |succ fuel ih=>
  intro lo hi h1 h2 h3 a b;have key:Oo xs j (fuel+1) lo hi=if lo<hi then(if xs.getD ((lo+hi) / 2) j<j then Oo xs j fuel ((lo+hi) / 2+1) hi else Oo xs j fuel lo ((lo+hi) / 2))else lo:=rfl
  rw[key];by_cases hl:lo<hi
  ·have hm:(lo+hi) / 2<xs.size:=by lia
   rw[if_pos hl];by_cases hx:xs.getD ((lo+hi) / 2) j<j
   ·rw[if_pos hx];refine ih _ _ ∅ h2 ∅ (λi hi'=>?_) b;by_cases e:i=(lo+hi) / 2
    ·subst e;rw[aAn hm (b:=j)];exact hx
    ·have:=R i ((lo+hi) / 2) ∅ hm;rw[aAn hm (b:=j)]at this
     lia
   ·rw[if_neg hx];refine ih _ _ ∅ ∅ ∅ a λi hi' hs=>?_;rw[aAn hm (b:=0)]at hx;by_cases e:i=(lo+hi) / 2
    ·subst e;lia
    ·have:=R ((lo+hi) / 2) i ∅ hs
     lia
  ·have:lo=hi:=by lia
   subst this;rw[if_neg hl];exact⟨h2,a,b⟩
def gU(R:tU xs)(j:Nat):below xs j<=xs.size/\(∀i,i<below xs j->xs.getD i 0<j)/\∀i,below xs j<=i->i<xs.size->j<=xs.getD i 0:=
 aLj R _ _ _ (Bt _) (Am _) ∅ (λi h=>absurd h (Dz i)) λi h1 h2=>by lia
def below_at(R:tU xs){i:Nat}(h:i<xs.size):below xs (xs.getD i 0)=i:=by
 obtain⟨_,h2,h3⟩:=gU R (xs.getD i 0);rcases Oh (below xs (xs.getD i 0)) i with z|z|z
 ·have:=h3 (below xs (xs.getD i 0)) (Am _) ∅;have:=R _ i z h
  lia
 ·exact z
 ·have:=h2 i z
  lia
def aMf{i j:Nat}:xs[i]? =some j↔i<xs.size/\xs.getD i 0=j:=by
 by_cases h:i<xs.size
 ·simp[Gd,h]
 ·simp[h]
def aCv(R:tU t.place){i j:Nat}(h:t.place[i]? =some j):t.slot j=.live i:=by
 obtain⟨h1,rfl⟩:=aMf.mp h;unfold slot;dsimp only;rw[below_at R h1,h];simp
def aHj(hd:t.dummies= #[])(h:∀i:Nat,t.place[i]? ≠some j):t.slot j=.empty:=by
 unfold slot;dsimp only;have h1:(t.place[below t.place j]? ==some j)=false:=beq_eq_false_iff_ne.mpr (h _);rw[h1];have h2:has t.dummies j=false:=by rw[hd];unfold has;simp
 rw[h2];rfl
theorem uI(hd:t.dummies= #[])(j:Nat):t.slot j=.empty∨∃i:Nat,t.slot j=.live i/\t.place[i]? =some j:=by
 have:has #[] j=false:=by simp[has]
 grind [slot]
def qD(hd:t.dummies= #[])(j:Nat):t.slot j≠.dummy:=by
 rcases uI hd j with e|⟨i,e,_⟩<;>rw[e]<;>intro z<;>cases z
def aHk(hd:t.dummies= #[])(hs:t.place.size<=t.mask):∃e,e<=t.mask/\t.slot e=.empty:=by
 refine Jw λno=>?_;have all:∀e,e<=t.mask->∃i:Nat,t.place[i]? =some e:=λe he=>by
  rcases uI hd e with z|⟨i,_,z⟩
  ·exact absurd ⟨e,he,z⟩ no
  ·exact⟨i,z⟩
 have sub:Cj (t.mask+1) ⊆ t.place.toList:=λe he=>by
  obtain⟨i,hi⟩:=all e (by have:=Cc.mp he;lia);obtain⟨h1,h2⟩:=Bu.mp hi;rw[<-h2];simp
 have:=(La (n:=t.mask+1)).length_le_of_subset sub;rw[Fe,Aw]at this
 lia
def aFy(R:Round t.mask)(hd:t.dummies= #[])(hs:t.place.size<=t.mask)(p:Probe)(hp:p.perturb<2 ^ 64)(hm:p.more<=9):∃m,t.probe hashAt h p=some m:=by
 obtain⟨e,he,h1⟩:=aHk hd hs;exact aHg R he (qD hd) h1 p hp hm
def adv(mask:Nat)(p:Probe):Probe:=if p.more>0 then{p with j:=p.j+1,more:=p.more-1}else{p with j:=(leap mask p.i p.perturb).1,more:=Gw mask (leap mask p.i p.perturb).1-(leap mask p.i p.perturb).1,i:=(leap mask p.i p.perturb).1,perturb:=(leap mask p.i p.perturb).2}
def advs(mask:Nat):Nat->Probe->Probe
 |0,p=>p
 |n+1,p=>advs mask n (adv mask p)
theorem qQ(mask:Nat):∀m k p,advs mask (m+k) p=advs mask k (advs mask m p)
 |0,k,p=>by rw[Kj,advs]
 |m+1,k,p=>by rw[Yo,advs,qQ mask m k,advs]
def aB6(mask:Nat)(p:Probe):(adv mask p).dummy=p.dummy:=by unfold adv;split<;>rfl
def aSl(fuel:Nat)(p:Probe):Kd t hashAt h (fuel+1) p=match t.slot p.j with|.empty=>some (.empty p.j p.dummy)|.dummy=>Kd t hashAt h fuel (t.advance {p with dummy:=some p.j})|.live i=>if(hashAt i==h)=true then some (.candidate p.j i (t.advance p))else Kd t hashAt h fuel (t.advance p):=rfl
def aPu(hd:∀j,t.slot j≠.dummy):∀(fuel:Nat)(p:Probe)(N:Nat),t.slot (advs t.mask N p).j=.empty->N<fuel->p.dummy=none->
    ∃n,n<=N/\(∀m,m<n->∃i,t.slot (advs t.mask m p).j=.live i/\hashAt i≠h)/\
      ((t.slot (advs t.mask n p).j=.empty/\Kd t hashAt h fuel p=some (.empty (advs t.mask n p).j none))∨
       ∃i,t.slot (advs t.mask n p).j=.live i/\hashAt i=h/\Kd t hashAt h fuel p=some (.candidate (advs t.mask n p).j i (advs t.mask (n+1) p))):=by
  intro fuel;induction fuel with
  |zero=>intro p N _ h2;lia
  |succ fuel ih=>
    intro p N h1 h2 h3;rw[aSl];cases hs:t.slot p.j with
    |empty=>exact⟨0,Bt _,λm hm=>absurd hm (Dz m),.inl ⟨hs,by rw[h3];rfl⟩⟩
    |dummy=>exact absurd hs (hd _)
    |live i=>
      by_cases hh:hashAt i=h
      · exact⟨0,Bt _,λm hm=>absurd hm (Dz m),.inr ⟨i,hs,hh,by dsimp only;rw[if_pos (beq_iff_eq.mpr hh)];rfl⟩⟩
      · cases N with
        |zero=>
          have h1':t.slot p.j=.empty:=h1;rw[hs]at h1';cases h1'
        |succ N=>
          obtain⟨n,a1,a2,a3⟩:=ih (adv t.mask p) N h1 ∅ (by rw[aB6];exact h3);have hb:¬(hashAt i==h)=true:=λz=>hh (beq_iff_eq.mp z);refine⟨n+1,∅,λm hm=>?_,?_⟩
          · cases m with
            |zero=>exact⟨i,hs,hh⟩
            |succ m=>exact a2 m ∅
          · rcases a3 with ⟨b1,b2⟩|⟨i',b1,b2,b3⟩
            · exact .inl ⟨b1,by dsimp only;rw[if_neg hb];exact b2⟩
            · exact .inr ⟨i',b1,b2,by dsimp only;rw[if_neg hb];exact b3⟩
def aMh(hn:∀i,hashAt i≠h)(hd:∀j,t.slot j≠.dummy):∀(fuel:Nat)(p:Probe)(m:Met),Kd t hashAt h fuel p=some m->∃N,N<fuel/\t.slot (advs t.mask N p).j=.empty:=by
 intro fuel;induction fuel with
 |zero=>intro p m e;cases e
 |succ fuel ih=>
  intro p m e;rw[aSl]at e;cases hs:t.slot p.j with
  |empty=>exact⟨0,Sn _,hs⟩
  |dummy=>exact absurd hs (hd _)
  |live i=>
   rw[hs]at e;dsimp only at e;rw[if_neg (λz=>hn i (beq_iff_eq.mp z))]at e;obtain⟨N,h1,h2⟩:=ih _ _ e;exact⟨N+1,∅,h2⟩
def aGy(R:Round t.mask)(hd:t.dummies= #[])(hs:t.place.size<=t.mask)(p:Probe)(hp:p.perturb<2 ^ 64)(hm:p.more<=9):∃N,N<10*turns t.mask/\t.slot (advs t.mask N p).j=.empty:=by
 obtain⟨m,e⟩:=aFy (hashAt:=λ_=>1) (h:=0) R hd hs p hp hm;exact aMh (hashAt:=λ_=>1) (h:=0) (λ_=>by decide) (qD hd) _ p m e
def aF2(t:SetTable)(h:Int):(t.probeStart h).perturb<2 ^ 64/\(t.probeStart h).more<=9:=by
 refine⟨?_,aN9 _ _⟩;show bits h<2 ^ 64;unfold bits;have h1:=Qd h (show((2:Int) ^ 64)≠0 by decide);have h2:=Ny h (show(0:Int)<2 ^ 64 by decide)
 lia
def qP(t:SetTable)(h:Int)(j:Nat):Prop:=∃n,(advs t.mask n (t.probeStart h)).j=j/\∀m,m<n->t.slot (advs t.mask m (t.probeStart h)).j≠.empty
def qP.ahead{j N:Nat}(w:qP t h j)(hj:t.slot j≠.empty)(hN:t.slot (advs t.mask N (t.probeStart h)).j=.empty):∃n,n<N/\(advs t.mask n (t.probeStart h)).j=j:=by
 obtain⟨n,e,a⟩:=w;rcases Oh n N with z|z|z
 ·exact⟨n,z,e⟩
 ·subst z;rw[e]at hN;exact absurd hN hj
 ·exact absurd hN (a N z)
def eG(xs:Array α)(p:Nat)(x:α):(Ls xs p x).toList=xs.toList.take p++x::xs.toList.drop p:=by
 unfold Ls;simp[Array.toList_extract];exact List.take_of_length_le (by simp)
def vM:tU xs↔xs.toList.Pairwise (·<·):=by
 rw[Qp];constructor
 ·intro R i k hi hk hik;have h2:k<xs.size:=by simpa using hk
  have:=R i k hik h2;have h1:i<xs.size:=by lia
  simpa[Gd,h1,h2]using this
 ·intro R i k hik hk;have h1:i<xs.size:=by lia
  have:=R i k (by simpa using h1) (by simpa using hk) hik;simpa[Gd,h1,hk]using this
def aJy:(∃i:Nat,t.place[i]? =some j)↔j∈t.place.toList:=by
 rw[Rv];simp
def fM(R:tU t.place)(hd:t.dummies= #[]):t.slot j=.empty↔j∉t.place.toList:=by
 rw[<-aJy];constructor
 ·rintro e ⟨i,hi⟩;rw[aCv R hi]at e;cases e
 ·intro no;exact aHj hd λi z=>no ⟨i,z⟩
def aFq(R:tU t.place)(hj:j∉t.place.toList):tU (Ls t.place (below t.place j) j):=by
 obtain⟨hb,h1,h2⟩:=gU R j;rw[vM,eG];have Rl:=vM.mp R;have lo:∀x∈t.place.toList.take (below t.place j),x<j:=λx hx=>by
  obtain⟨i,hi,e⟩:=Gj hx;rw[Hk]at hi;rw[List.getElem_take]at e;have hs:i<t.place.size:=by simp at hi;lia
  have:=h1 i ∅;rw[<-e];simpa[Gd,hs]using this
 have hi':∀x∈t.place.toList.drop (below t.place j),j<x:=λx hx=>by
  have hm:x∈t.place.toList:=Mh hx;obtain⟨i,hi,e⟩:=Gj hx;rw[Ji]at hi;rw[List.getElem_drop]at e;have hs:below t.place j+i<t.place.size:=by simp at hi;lia
  have:=h2 (below t.place j+i) ∅ hs;have h3:j<=x:=by rw[<-e];simpa[Gd,hs]using this
  have h4:j≠x:=λz=>hj (z▸hm)
  lia
 rw[List.pairwise_append];refine⟨Rl.sublist (Od _ _),Er.mpr ⟨hi',Rl.sublist (Uk _ _)⟩,λx hx y hy=>?_⟩;have:=lo x hx;rcases Ao.mp hy with e|m
 ·lia
 ·have:=hi' y m;lia
def jE(hd:t.dummies= #[])(j:Nat):t.put j=({t with place:=Ls t.place (below t.place j) j},below t.place j):=by
 unfold put;have h2:has t.dummies j=false:=by rw[hd];unfold has;simp
 rw[h2];rfl
theorem aAx{p j x:Nat}:x∈(Ls xs p j).toList↔x=j∨x∈xs.toList:=by rw[eG];have:=Lm p xs.toList;grind
def mZ(xs:Array α){p:Nat}(x:α)(h:p<=xs.size):(Ls xs p x).size=xs.size+1:=by
 rw[<-Aw,eG,An,Aq,Hk,Ji,Aw]
 lia
structure Good(t:SetTable):Prop where
 dum:t.dummies= #[]
 rise:tU t.place
 low:∀j∈t.place.toList,j<=t.mask
 room:t.place.size<=t.mask
 round:Round t.mask
def Good.put(G:Good t)(hj:t.slot j=.empty)(hl:j<=t.mask)(hr:t.place.size+1<=t.mask):Good (t.put j).1:=by
 rw[jE G.dum];have nj:=(fM G.rise G.dum).mp hj;refine⟨G.dum,aFq G.rise nj,λx hx=>?_,?_,G.round⟩
 ·rcases aAx.mp hx with e|m
  ·rw[e];exact hl
  ·exact G.low x m
 ·show(Ls t.place (below t.place j) j).size<=t.mask;rw[mZ _ _ (gU G.rise j).1];exact hr
def Good.put_empty(G:Good t)(hj:t.slot j=.empty)(x:Nat):(t.put j).1.slot x=.empty↔t.slot x=.empty/\x≠j:=by
 have nj:=(fM G.rise G.dum).mp hj;rw[jE G.dum];rw[fM (t:={t with place:=Ls t.place (below t.place j) j}) (aFq G.rise nj) G.dum,fM G.rise G.dum];show x∉(Ls t.place (below t.place j) j).toList↔_;rw[aAx,not_or];exact⟨λz=>⟨z.2,z.1⟩,λz=>⟨z.2,z.1⟩⟩
def qP.put(G:Good t){j x:Nat}(hj:t.slot j=.empty)(w:qP t h x):qP (t.put j).1 h x:=by
 obtain⟨n,e,a⟩:=w;have em:(t.put j).1.mask=t.mask:=by rw[jE G.dum]
 have es:(t.put j).1.probeStart h=t.probeStart h:=by rw[jE G.dum];rfl
 refine⟨n,by rw[em,es];exact e,λm hm z=>?_⟩;rw[em,es]at z;exact a m hm ((G.put_empty hj _).mp z).1
def qP.new(G:Good t)(hj:t.slot (advs t.mask N (t.probeStart h)).j=.empty)(a:∀m,m<N->t.slot (advs t.mask m (t.probeStart h)).j≠.empty):qP (t.put (advs t.mask N (t.probeStart h)).j).1 h (advs t.mask N (t.probeStart h)).j:=by
 have em:(t.put (advs t.mask N (t.probeStart h)).j).1.mask=t.mask:=by rw[jE G.dum]
 have es:(t.put (advs t.mask N (t.probeStart h)).j).1.probeStart h=t.probeStart h:=by rw[jE G.dum];rfl
 refine⟨N,by rw[em,es],λm hm z=>?_⟩;rw[em,es]at z;exact a m hm ((G.put_empty hj _).mp z).1
end SetTable
section
variable {prog:Ap}{w:Bh}{K:Type} [DecidableEq K](knd:Ii prog w K)
structure jA(s:Ae)(a:Addr)(o:Obj)(es:Array (Int×Value))(ep:Nat)(t:SetTable)(xs:List (K×Addr)):Prop where
 ho:s.heap.get? a=some o
 hex:o.ExactSet
 hd:o.data=.set es ep t
 he:es.toList=xs.map λx=>(knd.hash x.1,Aj x.2)
 good:t.Good
 size:t.place.size=es.size
 keys:∀x∈xs,knd.is s.heap x.1 x.2
 nd:(xs.map (·.1)).Nodup
 way:∀(i j:Nat)(x:K×Addr),t.place[i]? =some j->xs[i]? =some x->SetTable.qP t (knd.hash x.1) j
variable {knd}{A:Bl}{E:#v[a]}{s:Ae}{a b:Addr}{o:Obj}{es:Array (Int×Value)}{ep:Nat}{t:SetTable}{xs:List (K×Addr)}{k:K}
structure tH(knd:Ii prog w K):Prop where
 mono:∀{h h':Heap}{k:K}{c:Addr},knd.is h k c->(∀b o,o.cls=.type "tuple"->h.get? b=some o->h'.get? b=some o)->knd.is h' k c
 byValue:∀{A:Bl}{E:#v[a]}{s:Ae}{k:K}{c:Addr}{Q:Bool->Ae->Prop},knd.is s.heap k c->Q true s->Au #v[c] A (Lu 8 (.ref c)) Q E s
 plain:∀{A:Bl}{E:#v[a]}{s:Ae}{k:K}{c:Addr}{Q:Bool->Ae->Prop},knd.is s.heap k c->Q false s->Au #v[c] A (Gn 8 (.ref c)) Q E s
def tH.keep(D:tH knd){k:K}{c d:Addr}{o:Obj}(hx:knd.is h k c)(ho:h.get? d=some o)(hex:o.ExactSet)(sb:Dm d h h'):knd.is h' k c:=D.mono hx λb o' hc e=>by
 have ne:b≠d:=by
  rintro rfl;rw[ho]at e;cases e;rw[hex.1]at hc;exact absurd hc ⋯
 rw[sb.2 b ne];exact e
def zG(D:tH knd)(hkey:knd.is s.heap k b){ys:List Value}(hy:∀y∈ys,∃x c,y=Aj c/\knd.is s.heap x c){Q:Bool->Ae->Prop}(h:Q false s):Au #v[c] A (Xm (.ref b) ys) Q E s:=by
 unfold Xm;refine Aa ?_;refine Fb _ (λrest r s'=>r.1=none/\s'=s/\∀v∈rest,∃x c,v=Aj c/\knd.is s.heap x c) _ ?_ ?_ _ _ ⟨rfl,rfl,hy⟩
 ·rintro v rest r s' ⟨hr,rfl,hall⟩;obtain⟨x,c,rfl,hx⟩:=hall v Ah;dsimp only;have nx:∀u∈rest,∃x c,u=Aj c/\knd.is s'.heap x c:=λu hu=>hall u (Ag _ hu);split
  ·exact Ad ⟨rfl,rfl,nx⟩
  ·refine Aa (knd.quiet hkey ?_)
   ac_rfl
   refine Aa (knd.quiet hx ?_)
   ac_rfl
   refine Aa (D.plain hkey ?_)
   ac_rfl
   refine Aa (D.plain hx ?_)
   ac_rfl
   exact Ad ⟨rfl,rfl,nx⟩
 ·rintro⟨r1,r2⟩ s' ⟨hr,rfl,_⟩;simp only at hr;subst hr;exact Ad h
def jA.fits(S:jA knd s a o es ep t xs):t.fits es.size=true:=by
 unfold Ud Ue;have h1:=S.size;have h2:=S.good.room;rw[S.good.dum];simp[h1]
 lia
def jA.len(S:jA knd s a o es ep t xs):es.size=xs.length:=by rw[<-Aw,S.he,Ac]
def jA.entry(S:jA knd s a o es ep t xs)(i:Nat):es[i]? =(xs[i]?).map λx=>(knd.hash x.1,Aj x.2):=by
 rw[<-Cm,S.he,Ay]
def jA.even(S:jA knd s a o es ep t xs)(hm:t.mask % 2=1):t.gaveWay=false:=by
 unfold SetTable.gaveWay;rw[hm];rfl
def wG(S:jA knd s a o es ep t xs)(hm:t.mask % 2=1)(D:tH knd)(hu:knd.room A)(hkey:knd.is s.heap k b)(hN:t.slot #v[2].j=.empty)(hF:N<10*Lh t.mask)
  (first:∀m,m<N->t.slot (SetTable.advs t.mask m (t.probeStart (knd.hash k))).j≠.empty) {Q:SetFound->Ae->Prop} (hold:(∃x∈xs,x.1=k)->Q (.there none) s) (hnew:(∀x∈xs,x.1≠k)->Q (.free #v[2].j false) s):
  ∀(fuel n:Nat)(stand:Option SetTable.Probe),stand.getD (t.probeStart (knd.hash k))=SetTable.advs t.mask n (t.probeStart (knd.hash k))->n<=N->N-n<fuel->(∀m,m<n->∃(i:Nat)(x:K×Addr),t.slot (SetTable.advs t.mask m (t.probeStart (knd.hash k))).j=.live i/\xs[i]? =some x/\x.1≠k)->
   Au #v[c] A (setSearchFrom a (.ref b) (knd.hash k) true fuel stand) Q E s:=by
 intro fuel;induction fuel with
 |zero=>intro n stand _ _ h3;lia
 |succ fuel ih=>
  intro n stand h1 h2 h3 past;have dumA:∀m p,(SetTable.advs t.mask m p).dummy=p.dummy:=by
   intro m;induction m with
   |zero=>intro p;rfl
   |succ m ih=>intro p;rw[SetTable.advs,ih,SetTable.aB6]
  unfold setSearchFrom;refine Aa (En S.ho S.hd S.fits ?_);dsimp only;rw[S.even hm]
  ac_rfl
  rw[h1];have comp:∀m,SetTable.advs t.mask m (SetTable.advs t.mask n (t.probeStart (knd.hash k)))=SetTable.advs t.mask (n+m) (t.probeStart (knd.hash k)):=λm=>(SetTable.qQ t.mask n m _).symm;have ent:∀i:Nat,(es[i]?.map (·.1)).getD 0=((xs[i]?).map λx=>knd.hash x.1).getD 0:=λi=>by
   rw[S.entry i,Option.map_map];rfl
  have inx:∀(i j:Nat),t.slot j=.live i->∃x,xs[i]? =some x/\t.place[i]? =some j:=λi j hs=>by
   rcases SetTable.uI S.good.dum j with z|⟨i',z1,z2⟩
   ·rw[hs]at z;cases z
   ·rw[hs]at z1;cases z1;have hi:i<t.place.size:=(Bu.mp z2).1;rw[S.size,S.len]at hi;exact⟨xs[i],Ak hi,z2⟩
  obtain⟨n',a1,a2,a3⟩:=SetTable.aPu (t:=t) (hashAt:=λi:Nat=>(es[i]?.map (·.1)).getD 0) (h:=knd.hash k) (SetTable.qD S.good.dum) (10*Lh t.mask) (SetTable.advs t.mask n (t.probeStart (knd.hash k))) (N-n) (by rw[comp,show n+(N-n)=N by lia];exact hN) ∅ (by rw[dumA];rfl);rw[comp]at a3;rcases a3 with ⟨b1,b2⟩|⟨i,b1,b2,b3⟩
  ·have eN:n+n'=N:=by
    rcases Mb (n+n') N with z|z
    ·exact absurd b1 (first _ z)
    ·lia
   have e:t.probe (λi:Nat=>(es[i]?.map (·.1)).getD 0) (knd.hash k) (SetTable.advs t.mask n (t.probeStart (knd.hash k)))=some (.empty (SetTable.advs t.mask (n+n') (t.probeStart (knd.hash k))).j none):=b2
   erw[e]
   dsimp only;rw[eN];refine Ad (hnew λx hx ek=>?_);obtain⟨i,hi⟩:=Rv.mp hx;have his:i<t.place.size:=by rw[S.size,S.len];exact(Ax.mp hi).1
   have hpl:t.place[i]? =some t.place[i]:=By his;have hsl:=SetTable.aCv S.good.rise hpl;have wy:=S.way i _ x hpl hi;rw[ek]at wy;obtain⟨m,hm1,hm2⟩:=wy.ahead (by rw[hsl];intro z;cases z) hN;rcases Mb m n with z|z
   ·obtain⟨i',x',c1,c2,c3⟩:=past m z;rw[hm2,hsl]at c1;cases c1;rw[hi]at c2;cases c2;exact c3 ek
   ·obtain⟨i',c1,c2⟩:=a2 (m-n) ∅;rw[comp,show n+(m-n)=m by lia,hm2,hsl]at c1;cases c1;rw[ent,hi]at c2;exact c2 (by rw[<-ek];rfl)
  ·obtain⟨x,hx,hpl⟩:=inx i _ b1;have hxm:=Cf hx;have e:t.probe (λi:Nat=>(es[i]?.map (·.1)).getD 0) (knd.hash k) (SetTable.advs t.mask n (t.probeStart (knd.hash k)))=some (.candidate (SetTable.advs t.mask (n+n') (t.probeStart (knd.hash k))).j i (SetTable.advs t.mask (n'+1) (SetTable.advs t.mask n (t.probeStart (knd.hash k))))):=b3
   erw[e]
   dsimp only;cases hl:t.led
   focus
    simp only[Jb,if_true];refine Aa (zG D hkey (λy hy=>?_) ?_);obtain⟨e,he,rfl⟩:=Az.mp hy;have he2:=(Array.mem_filter.mp (Me.mp he)).1;rw[<-Me,S.he]at he2;obtain⟨x',hx',rfl⟩:=Az.mp he2;exact⟨_,_,rfl,S.keys x' hx'⟩
    ac_rfl
   rotate_left
   focus
    ac_rfl
   all_goals
    rw[S.entry i,hx];dsimp only[Uh];refine Aa (Cg (knd.eqBool hu (S.keys x hxm) hkey ?_));refine Aa (En S.ho S.hd S.fits ?_);by_cases ek:x.1=k
    ·rw[decide_eq_true ek];simp only[Xe,if_true];exact Ad (hold ⟨x,hxm,ek⟩)
    ·rw[decide_eq_false ek];simp only[Jc,Dx,if_false];have sm:t.sameMemory t.moves t.mask=some true:=by unfold SetTable.sameMemory;simp
     rw[sm];simp only[if_true];rw[b1];dsimp only;rw[S.entry i,hx];dsimp only[Uh];refine Aa (wpAny_isSame_ref_self ?_);simp only[if_true];refine Aa (Ad ?_);dsimp only;have lt:n+n'<N:=by
      rcases Mb (n+n') N with z|z
      ·exact z
      ·have z2:n+n'=N:=by lia
       rw[z2,hN]at b1;cases b1
     refine ih (n+(n'+1)) _ (by show SetTable.advs t.mask (n'+1) _=_;rw[comp]) ∅ ∅ λm hm'=>?_;rcases Mb m n with z|z
     ·exact past m z
     ·by_cases z2:m=n+n'
      ·subst z2;exact⟨i,x,b1,hx,ek⟩
      ·obtain⟨i',c1,c2⟩:=a2 (m-n) ∅;rw[comp,show n+(m-n)=m by lia]at c1;obtain⟨x',hx',_⟩:=inx i' _ c1;refine⟨i',x',c1,hx',λek'=>c2 ?_⟩;rw[ent,hx', <-ek'];rfl
def uM{o:Obj}(es':Array (Int×Value))(t':SetTable)(hd:o.data=.set es ep t)(h:o.ExactSet):(Hv es' t' o).ExactSet:=by
 rw[Mz es' t' hd];exact h
theorem get_ins{l:List α}{p i:Nat}{y x:α}(hp:p<=l.length)(h:(l.take p++x::l.drop p)[i]? =some y):(i<p/\l[i]? =some y)∨(i=p/\y=x)∨(p<i/\l[i-1]? =some y):=by grind
def jA.add(S:jA knd s a o es ep t xs)(hkey:knd.is s.heap k b)(hn:∀x∈xs,x.1≠k)(hkeep:∀h',Dm a s.heap h'->∀x c,knd.is s.heap x c->knd.is h' x c)(hN:t.slot #v[2].j=.empty)
  (first:∀m,m<N->t.slot (SetTable.advs t.mask m (t.probeStart (knd.hash k))).j≠.empty) (hl:#v[2].j<=t.mask) (hroom:t.place.size+1<=t.mask) {j p:Nat} (ej:j=#v[2].j) (epp:p=Co t.place j):
  jA knd {s with heap:=s.heap.update a (Hv (Hy es p (knd.hash k,.ref b)) (t.put j).1)} a (Hv (Hy es p (knd.hash k,.ref b)) (t.put j).1 o) (Hy es p (knd.hash k,.ref b)) (ep+1) (t.put j).1 (xs.take p++(k,b)::xs.drop p):=by
 subst ej epp;have hb:=(SetTable.gU S.good.rise #v[2].j).1;have hbx:Co t.place #v[2].j<=xs.length:=by rw[<-S.len, <-S.size];exact hb
 have hnf:(Hv (Hy es (Co t.place #v[2].j) (knd.hash k,.ref b)) (t.put #v[2].j).1 o).isFreed=false:=by
  rw[Mz _ _ S.hd];rfl
 refine⟨Bn _ S.ho hnf,uM _ _ S.hd S.hex,by rw[Mz _ _ S.hd],?_,S.good.put hN hl hroom,?_,λx hx=>?_,?_,λi j x h1 h2=>?_⟩
 ·rw[SetTable.eG,S.he, <-Ww, <-Wx,Em,Da]
 ·rw[SetTable.jE S.good.dum];show(Hy t.place _ _).size=_;rw[SetTable.mZ _ _ hb,SetTable.mZ _ _ (by rw[<-S.size];exact hb),S.size]
 ·rcases Cd.mp hx with m|m
  ·exact hkeep _ (Cw ..) _ _ (S.keys x (Sr m))
  ·rcases Ao.mp m with e|m
   ·rw[e];exact hkeep _ (Cw ..) _ _ hkey
   ·exact hkeep _ (Cw ..) _ _ (S.keys x (Mh m))
 ·have pm:((xs.take (Co t.place #v[2].j)++(k,b)::xs.drop (Co t.place #v[2].j)).map (·.1)).Perm (k::xs.map (·.1)):=by
   have:=(Vl (a:=(k,b)) (l₁:=xs.take (Co t.place #v[2].j)) (l₂:=xs.drop (Co t.place #v[2].j))).map (·.1);rw[Lm]at this;exact this
  rw[pm.nodup_iff,El];refine⟨λm=>?_,S.nd⟩;obtain⟨x,hx,e⟩:=Az.mp m;exact hn x hx e
 ·rw[SetTable.jE S.good.dum]at h1;have h1':(t.place.toList.take (Co t.place #v[2].j)++#v[2].j::t.place.toList.drop (Co t.place #v[2].j))[i]? =some j:=by
   rw[<-SetTable.eG,Cm];exact h1
  have gp:=get_ins (by rw[Aw];exact hb) h1';have gx:=get_ins hbx h2;rcases gp with ⟨z1,z2⟩|⟨z1,z2⟩|⟨z1,z2⟩
  ·rcases gx with ⟨y1,y2⟩|⟨y1,y2⟩|⟨y1,y2⟩
   ·exact(S.way i j x (by rw[<-Cm];exact z2) y2).put S.good hN
   ·lia
   ·lia
  ·rcases gx with ⟨y1,y2⟩|⟨y1,y2⟩|⟨y1,y2⟩
   ·lia
   ·rw[z2,y2];exact SetTable.qP.new S.good hN first
   ·lia
  ·rcases gx with ⟨y1,y2⟩|⟨y1,y2⟩|⟨y1,y2⟩
   ·lia
   ·lia
   ·exact(S.way (i-1) j x (by rw[<-Cm];exact z2) y2).put S.good hN
end
namespace SetTable
def stP(M:Nat)(i perturb:Nat):Probe:={j:=i,more:=Gw M i-i,i,perturb,dummy:=none}
def st(M:Nat)(h:Int):Probe:=stP M (bits h % (M+1)) (bits h)
def zP(M i perturb:Nat):∀k,k<=Gw M i-i->(advs M k (stP M i perturb))={stP M i perturb with j:=i+k,more:=Gw M i-i-k}:=by
 have gen:∀(k:Nat)(p:Probe),k<=p.more->advs M k p={p with j:=p.j+k,more:=p.more-k}:=by
  intro k;induction k with
  |zero=>intro p _;rfl
  |succ k ih=>
   intro p hk;rw[advs];have e:adv M p={p with j:=p.j+1,more:=p.more-1}:=by unfold adv;rw[if_pos ∅]
   rw[e,ih _ (by show k<=p.more-1;lia)];have e1:p.j+1+k=p.j+(k+1):=by lia
   have e2:p.more-1-k=p.more-(k+1):=by lia
   show({p with j:=p.j+1+k,more:=p.more-1-k}:Probe)=_;rw[e1,e2]
 intro k hk;exact gen k _ hk
def aF1(M i perturb:Nat):advs M (Gw M i-i+1) (stP M i perturb)=stP M (leap M i perturb).1 (leap M i perturb).2:=by
 rw[qQ,zP M i perturb _ (Am _),Yp,advs,advs];unfold adv;rw[if_neg (by show¬(0>0);lia)];rfl
def aMd(hsz:owner.size=M+1):∀(fuel i perturb:Nat)(j:Nat),Fj M owner fuel i perturb=some j->
  owner[j]? =some none/\∃n,(advs M n (stP M i perturb)).j=j/\∀m,m<n->owner[(advs M m (stP M i perturb)).j]? ≠some none:=by
 intro fuel;induction fuel with
 |zero=>intro i perturb j e;cases e
 |succ fuel ih=>
  intro i perturb j e;have key:Fj M owner (fuel+1) i perturb=match (Cj (Gw M i+1-i)).find? λk=>(owner.getD (i+k) (some 0)).isNone with|some k=>some (i+k)|none=>Fj M owner fuel (leap M i perturb).1 (leap M i perturb).2:=rfl
  rw[key]at e;have none_of:∀x,(owner.getD x (some 0)).isNone=true↔owner[x]? =some none:=λx=>by
   by_cases hx:x<owner.size
   ·simp[Gd,hx]
   ·simp[Gd,hx]
  have hre:Gw M i+1-i=Gw M i-i+1:=by unfold Gw;split<;>lia
  cases hf:(Cj (Gw M i+1-i)).find? λk=>(owner.getD (i+k) (some 0)).isNone with
  |some k=>
   rw[hf]at e;cases e;have h1:=List.find?_some hf;have h2:=Cc.mp (List.mem_of_find?_eq_some hf);refine⟨(none_of _).mp h1,k,by rw[zP M i perturb k ∅],λm hm=>?_⟩;rw[zP M i perturb m ∅];intro z;have z':owner[i+m]? =some none:=z;rw[List.find?_eq_some_iff_append]at hf;obtain⟨_,as,bs,e1,e2⟩:=hf;have hk:as.length=k:=by
    have h3:(Cj (Gw M i+1-i))[as.length]? =some k:=by rw[e1];simp
    rw[Mp (by have:=congrArg Pl e1;simp at this;lia)]at h3;exact Bq h3
   have h4:m∈as:=by
    have h5:(Cj (Gw M i+1-i))[m]? =some m:=Mp ∅;rw[e1,Cq ∅]at h5;exact Cf h5
   have:=e2 m h4;rw[(none_of _).mpr z']at this;exact absurd this ⋯
  |none=>
   rw[hf]at e;obtain⟨b1,n,b2,b3⟩:=ih _ _ _ e;refine⟨b1,Gw M i-i+1+n,by rw[qQ,aF1];exact b2,λm hm=>?_⟩;rcases Mb m (Gw M i-i+1)with z|z
   ·rw[zP M i perturb m ∅];intro y;have y':owner[i+m]? =some none:=y;have:=Tx.mp hf m (Cc.mpr ∅);exact this ((none_of _).mpr y')
   ·obtain⟨d,rfl⟩:∃d,m=Gw M i-i+1+d:=⟨m-(Gw M i-i+1),∅⟩;rw[qQ,aF1];exact b3 d ∅
def aJp(he:owner[e]? =some none):∀(fuel i perturb L:Nat),(gJ M L (i,perturb)).1=e->L<fuel->∃j,Fj M owner fuel i perturb=some j:=by
 intro fuel;induction fuel with
 |zero=>intro i perturb L _ h;lia
 |succ fuel ih=>
  intro i perturb L h1 h2;have key:Fj M owner (fuel+1) i perturb=match (Cj (Gw M i+1-i)).find? λk=>(owner.getD (i+k) (some 0)).isNone with|some k=>some (i+k)|none=>Fj M owner fuel (leap M i perturb).1 (leap M i perturb).2:=rfl
  rw[key];cases hf:(Cj (Gw M i+1-i)).find? λk=>(owner.getD (i+k) (some 0)).isNone with
  |some k=>exact⟨_,rfl⟩
  |none=>
   cases L with
   |zero=>
    have h1':i=e:=h1;subst h1';have hr:0<Gw M i+1-i:=by unfold Gw;split<;>lia
    have:=Tx.mp hf 0 (Cc.mpr hr);have hs:i<owner.size:=(Bu.mp he).1;have h3:owner[i]=none:=(Bu.mp he).2;exact absurd (by simp[Gd,hs,h3]) this
   |succ L=>exact ih _ _ L h1 ∅
structure Lay(M:Nat)(hs:List Int)(owner:Array (Option Nat)):Prop where
 size:owner.size=M+1
 has:∀i,i<hs.length->∃j:Nat,owner[j]? =some (some i)
 low:∀(j i:Nat),owner[j]? =some (some i)->i<hs.length
 uniq:∀(j j' i:Nat),owner[j]? =some (some i)->owner[j']? =some (some i)->j=j'
 way:∀(j i:Nat)(h:Int),owner[j]? =some (some i)->hs[i]? =some h->∃n,(advs M n (st M h)).j=j/\∀m,m<n->owner[(advs M m (st M h)).j]? ≠some none
def Lay.start(M:Nat):Lay M [] (Vt (M+1) none):=by
 have no:∀(j i:Nat),(Vt (M+1) (none:Option Nat))[j]? ≠some (some i):=λj i e=>by
  rw[Array.getElem?_replicate]at e;split at e<;>cases e
 exact⟨by simp,λi h=>absurd h (Dz i),λj i e=>absurd e (no j i),λj j' i e=>absurd e (no j i),λj i h e=>absurd e (no j i)⟩
def Lay.empty(L:Lay M hs owner)(hl:hs.length<=M):∃e,e<=M/\owner[e]? =some none:=by
 refine Jw λno=>?_;have all:∀j,j<=M->∃i,owner[j]? =some (some i):=λj hj=>by
  have hs:j<owner.size:=by rw[L.size];lia
  cases g:owner[j]with
  |none=>exact absurd ⟨j,hj,by rw[By hs,g]⟩ no
  |some i=>exact⟨i,by rw[By hs,g]⟩
 have f:∀j,∃i,j<=M->owner[j]? =some (some i):=λj=>by
  by_cases hj:j<=M
  ·obtain⟨i,hi⟩:=all j hj;exact⟨i,λ_=>hi⟩
  ·exact⟨0,λz=>absurd z hj⟩
 obtain⟨F,hF⟩:=Classical.axiomOfChoice f;have nd:((Cj (M+1)).map F).Nodup:=by
  rw[Zh,Iv];refine(La (n:=M+1)).imp_of_mem λ{a b} ha hb hab z=>hab ?_;have h1:=hF a (by have:=Cc.mp ha;lia);have h2:=hF b (by have:=Cc.mp hb;lia);rw[z]at h1;exact L.uniq a b _ h1 h2
 have sub:(Cj (M+1)).map F ⊆ Cj hs.length:=λx hx=>by
  obtain⟨j,hj,rfl⟩:=Az.mp hx;exact Cc.mpr (L.low j _ (hF j (by have:=Cc.mp hj;lia)))
 have:=nd.length_le_of_subset sub;rw[Ac,Fe,Fe]at this
 lia
def Lay.step(R:Round M)(L:Lay M hs owner)(hl:hs.length<=M)(h:Int):∃j,Fj M owner (turns M) (bits h % (M+1)) (bits h)=some j/\Lay M (hs++[h]) (owner.setIfInBounds j (some hs.length)):=by
 obtain⟨e,he,e1⟩:=L.empty hl;have hb:bits h<2 ^ 64:=by
  unfold bits;have h1:=Qd h (show((2:Int) ^ 64)≠0 by decide);have h2:=Ny h (show(0:Int)<2 ^ 64 by decide)
  lia
 obtain⟨Lp,_,l2,l3⟩:=aAs R he (bits h % (M+1)) (bits h) hb;obtain⟨j,hj⟩:=aJp e1 (turns M) _ _ Lp l3 (by unfold turns;lia);obtain⟨w1,n,w2,w3⟩:=aMd L.size _ _ _ _ hj;have hjs:j<owner.size:=(Bu.mp w1).1;have at_:∀x,(owner.setIfInBounds j (some hs.length))[x]? =if x=j then some (some hs.length)else owner[x]? :=λx=>by
  rw[Array.getElem?_setIfInBounds];by_cases z:j=x
  ·subst z;simp[hjs]
  ·rw[if_neg z,if_neg (λy=>z y.symm)]
 have occ:∀x,owner[x]? ≠some none->(owner.setIfInBounds j (some hs.length))[x]? ≠some none:=λx z=>by
  rw[at_];split
  ·intro y;cases y
  ·exact z
 refine⟨j,hj,⟨by simp[L.size],λi hi=>?_,λx i g=>?_,λx y i g1 g2=>?_,λx i h' g g'=>?_⟩⟩
 ·rw[An,Hb]at hi;by_cases z:i<hs.length
  ·obtain⟨x,hx⟩:=L.has i z;refine⟨x,?_⟩;rw[at_,if_neg (λy=>by subst y;rw[w1]at hx;cases hx)];exact hx
  ·exact⟨j,by rw[at_,if_pos rfl,show i=hs.length by lia]⟩
 ·rw[at_]at g;rw[An,Hb];split at g
  ·cases g;lia
  ·have:=L.low x i g;lia
 ·rw[at_]at g1;rw[at_]at g2;split at g1
  ·split at g2
   ·lia
   ·cases g1;exact absurd (L.low y _ g2) (Dr _)
  ·split at g2
   ·cases g2;exact absurd (L.low x _ g1) (Dr _)
   ·exact L.uniq x y i g1 g2
 ·rw[at_]at g;split at g
  ·cases g;rw[Fm (Am _),Yp]at g';cases g';subst x;exact⟨n,w2,λm hm=>occ _ (w3 m hm)⟩
  ·have:=L.low x i g;rw[Cq this]at g';obtain⟨n',a1,a2⟩:=L.way x i h' g g';exact⟨n',a1,λm hm=>occ _ (a2 m hm)⟩
theorem aIi{M:Nat}(R:Round M):∀(l hs:List Int)(owner:Array (Option Nat)),Lay M hs owner->hs.length+l.length<=M+1->∃owner',(l.foldl (init:=some (owner,hs.length)) λacc h=>do
   let(owner,k)<-acc
   let j<-Fj M owner (turns M) (bits h % (M+1)) (bits h)
   pure (owner.setIfInBounds j (some k),k+1))=some (owner',(hs++l).length)/\Lay M (hs++l) owner'
 | [],hs,owner,L,_=>⟨owner,by simp,by simpa using L⟩
 |h::l,hs,owner,L,hl=>by
  rw[Aq]at hl
  obtain⟨j,hj,L'⟩:=L.step R ∅ h
  obtain⟨o',e1,e2⟩:=aIi R l (hs++[h]) _ L' (by rw[An,Hb];lia)
  refine⟨o',?_,by simpa using e2⟩
  rw[Lo]
  have:(do
   let(owner,k)<-some (owner,hs.length)
   let j<-Fj M owner (turns M) (bits h % (M+1)) (bits h)
   pure (owner.setIfInBounds j (some k),k+1):Option (Array (Option Nat)×Nat))=some (owner.setIfInBounds j (some hs.length),hs.length+1):=by
   show(Fj M owner (turns M) (bits h % (M+1)) (bits h)).bind _=_
   rw[hj]
   rfl
  rw[this]
  rw[An,Hb]at e1
  rw[e1]
  simp
def aBq(R:Round M)(hashes:Array Int)(hl:hashes.size<=M+1):∃owner,layClean M hashes=some owner/\Lay M hashes.toList owner:=by
 obtain⟨o',e1,e2⟩:=aIi R hashes.toList [] _ (Lay.start M) (by simpa using hl);refine⟨o',?_,by simpa using e2⟩;unfold layClean;rw[<-Array.foldl_toList];have e1':=e1;rw[Hc]at e1';rw[e1'];rfl
def gW(M:Nat)(owner:Array (Option Nat)):List (Nat×Nat):=(Cj (M+1)).filterMap λj=>(owner.getD j none).map (j,·)
def lZ(hsz:owner.size=M+1){j i:Nat}:(j,i)∈gW M owner↔owner[j]? =some (some i):=by
 unfold gW;rw[Nq];constructor
 ·rintro⟨x,hx,e⟩;obtain⟨y,hy,e2⟩:=Ff.mp e;cases e2;have hs:j<owner.size:=by rw[hsz];exact Cc.mp hx
  have hy':owner[j]=some i:=by simpa[Gd,hs]using hy
  rw[By hs,hy']
 ·intro e;obtain⟨hs,e2⟩:=Bu.mp e;refine⟨j,Cc.mpr ∅,?_⟩;have:owner.getD j none=some i:=by simp[Gd,hs,e2]
  rw[this];rfl
def wW(M:Nat)(owner:Array (Option Nat)):((gW M owner).map (·.1)).Pairwise (·<·):=by
 unfold gW;rw[Iv,List.pairwise_filterMap];refine(List.pairwise_lt_range (n:=M+1)).imp λ{a b} hab x hx y hy=>?_;obtain⟨_,_,rfl⟩:=Ff.mp hx;obtain⟨_,_,rfl⟩:=Ff.mp hy;exact hab
def aG6(L:Lay M hs owner):((gW M owner).map (·.2)).Perm (Cj hs.length):=by
 have nd:((gW M owner).map (·.2)).Nodup:=by
  rw[Zh,Iv];have h1:=wW M owner;rw[Iv]at h1;refine h1.imp_of_mem λ{a b} ha hb hab z=>?_;have g1:=(lZ L.size).mp (show(a.1,a.2)∈_ from ha);have g2:=(lZ L.size).mp (show(b.1,b.2)∈_ from hb);rw[z]at g1;have:=L.uniq _ _ _ g1 g2
  lia
 refine(List.perm_ext_iff_of_nodup nd La).mpr λi=>?_;rw[Cc,Az];constructor
 ·rintro⟨⟨j,i'⟩,hm,rfl⟩;exact L.low j _ ((lZ L.size).mp hm)
 ·intro hi;obtain⟨j,hj⟩:=L.has i hi;exact⟨(j,i),(lZ L.size).mpr hj,rfl⟩
def aPh(M:Nat){p:Probe}(h:p.j+p.more<=M):(adv M p).j+(adv M p).more<=M:=by
 unfold adv;split
 ·show p.j+1+(p.more-1)<=M;lia
 ·show(leap M p.i p.perturb).1+(Gw M (leap M p.i p.perturb).1-(leap M p.i p.perturb).1)<=M;have:(leap M p.i p.perturb).1<=M:=by
   show(p.i*5+1+p.perturb / 32) % (M+1)<=M;have:=Ri (p.i*5+1+p.perturb / 32) (show 0<M+1 by lia)
   lia
  unfold Gw;split<;>lia
theorem aAa(M:Nat):∀(n:Nat){p:Probe},p.j+p.more<=M->(advs M n p).j<=M
 |0,_,h=>by rw[advs];lia
 |n+1,_,h=>by rw[advs];exact aAa M n (aPh M h)
def aOk(M:Nat)(h:Int):(st M h).j+(st M h).more<=M:=by
 show bits h % (M+1)+(Gw M (bits h % (M+1))-bits h % (M+1))<=M;have:=Ri (bits h) (show 0<M+1 by lia);unfold Gw;split<;>lia
def aJw(R:Round M)(finger moves:Nat)(led plain:Bool)(hashes:Array Int)(hl:hashes.size<=M):
  ∃t order,laid M finger moves led plain hashes=some (t,order)/\t.mask=M/\t.led=led/\t.plain=plain/\t.moves=moves/\t.Good/\t.place.size=hashes.size/\order.toList.Perm (Cj hashes.size)/\
   ∀(r j i:Nat)(h:Int),t.place[r]? =some j->order[r]? =some i->hashes[i]? =some h->qP t h j:=by
 obtain⟨owner,e1,L⟩:=aBq R hashes ∅;have Pm:=aG6 L;have Ps:(gW M owner).length=hashes.size:=by
  have:=Pm.length_eq;rw[Ac,Fe,Aw]at this;exact this
 refine⟨{mask:=M,place:=((gW M owner).map (·.1)).toArray,dummies:= #[],finger,led,moves,plain},((gW M owner).map (·.2)).toArray,?_,rfl,rfl,rfl,rfl,?_,?_,?_,?_⟩
 ·unfold laid;rw[e1];rfl
 ·refine⟨rfl,vM.mpr (wW M owner),λj hj=>?_,?_,R⟩
  ·obtain⟨⟨j',i⟩,hm,rfl⟩:=Az.mp hj;have:=(Bu.mp ((lZ L.size).mp hm)).1;show j'<=M;rw[L.size]at this
   lia
  ·show((gW M owner).map (·.1)).toArray.size<=M;rw[Ai,Ac,Ps];exact hl
 ·show((gW M owner).map (·.1)).toArray.size=_;rw[Ai,Ac,Ps]
 ·show((gW M owner).map (·.2)).Perm _;rw[Aw]at Pm;exact Pm
 ·intro r j i h h1 h2 h3;have g1:((gW M owner).map (·.1))[r]? =some j:=by simpa using h1
  have g2:((gW M owner).map (·.2))[r]? =some i:=by simpa using h2
  rw[Ay]at g1 g2;obtain⟨x,hx,rfl⟩:=Ff.mp g1;rw[hx]at g2;cases g2;have hm:=(lZ L.size).mp (show(x.1,x.2)∈_ from Cf hx);obtain⟨n,w1,w2⟩:=L.way x.1 x.2 h hm (by rw[Cm];exact h3);refine⟨n,w1,λm hm' z=>w2 m hm' ?_⟩;have z1:=(fM (t:={mask:=M,place:=((gW M owner).map (·.1)).toArray,dummies:= #[],finger,led,moves,plain}) (vM.mpr (wW M owner)) rfl).mp z;have low:(advs M m (st M h)).j<=M:=aAa M m (aOk M h);have hs:(advs M m (st M h)).j<owner.size:=by rw[L.size];lia
  cases g:owner[(advs M m (st M h)).j]with
  |none=>rw[By hs,g]
  |some i'=>
   have g':owner[(advs M m (st M h)).j]? =some (some i'):=by rw[By hs,g]
   exact absurd (Az.mpr ⟨((advs M m (st M h)).j,i'),(lZ L.size).mpr g',rfl⟩) z1
end SetTable
theorem filterMap_get{α β:Type}{f:α->Option β}{l:List α}(h:∀i∈l,∃y,f i=some y)(r:Nat):(l.filterMap f)[r]? =l[r]?.bind f:=by
 induction l generalizing r with
 |nil=>simp
 |cons a l ih=>obtain⟨y,hy⟩:=h a Ah;cases r<;>grind
def qN(l:List α):(Cj l.length).filterMap (λi:Nat=>l[i]?)=l:=by
 apply Uj;intro r;rw[filterMap_get (λi hi=>⟨l[i]'(Cc.mp hi),Ak (Cc.mp hi)⟩)];by_cases h:r<l.length
 ·rw[Mp h];rfl
 ·rw[Hd (by rw[Fe];lia),Hd ∅];rfl
section
variable {prog:Ap}{w:Bh}{K:Type} [DecidableEq K]{knd:Ii prog w K}{A:Bl}{E:#v[a]}{s:Ae}{a b:Addr}{o:Obj}{es:Array (Int×Value)}{ep:Nat}{t:SetTable}{xs:List (K×Addr)}{k:K}
def jA.relaid(S:jA knd s a o es ep t xs)(hkeep:∀h',Dm a s.heap h'->∀x c,knd.is s.heap x c->knd.is h' x c){wanted:Nat}(R:SetTable.Round (Du wanted-1))(hl:es.size<=Du wanted-1):
  ∃t' order,t.relaid (es.map (·.1)) wanted=some (t',order)/\(order.filterMap (es[·]?)).size=es.size/\t'.mask=Du wanted-1/\t'.led=t.led/\t'.plain=t.plain/\∃xs':List (K×Addr),xs'.Perm xs/\
   jA knd {s with heap:=s.heap.update a (Hv (order.filterMap (es[·]?)) t')} a (Hv (order.filterMap (es[·]?)) t' o) (order.filterMap (es[·]?)) (ep+1) t' xs':=by
 obtain⟨t',order,e1,e2,e3,e4,e5,G,sz,pm,wy⟩:=SetTable.aJw R t.finger (t.movedTo (Du wanted-1)) t.led t.plain (es.map (·.1)) (by rw[Vz];exact hl);rw[Vz]at sz pm;have hin:∀i∈order.toList,∃y,xs[i]? =some y:=λi hi=>by
  have:=Cc.mp (pm.mem_iff.mp hi);rw[S.len]at this;exact⟨xs[i],Ak this⟩
 have el:(order.filterMap (es[·]?)).toList=(order.toList.filterMap λi:Nat=>xs[i]?).map λx=>(knd.hash x.1,Aj x.2):=by
  rw[Array.toList_filterMap,Tv];congr 1;funext i;exact S.entry i
 have px:(order.toList.filterMap λi:Nat=>xs[i]?).Perm xs:=by
  have:=pm.filterMap λi:Nat=>xs[i]?;rw[S.len,qN]at this;exact this
 have esz:(order.filterMap (es[·]?)).size=es.size:=by rw[<-Aw,el,Ac,px.length_eq,S.len]
 have hnf:(Hv (order.filterMap (es[·]?)) t' o).isFreed=false:=by
  rw[Mz _ _ S.hd];rfl
 refine⟨t',order,e1,esz,e2,e3,e4,_,px,⟨Bn _ S.ho hnf,uM _ _ S.hd S.hex,by rw[Mz _ _ S.hd],el,G,by rw[sz,esz],λx hx=>hkeep _ (Cw ..) _ _ (S.keys x (px.mem_iff.mp hx)),?_,λr j x h1 h2=>?_⟩⟩
 ·rw[(px.map (·.1)).nodup_iff];exact S.nd
 ·rw[filterMap_get hin]at h2;obtain⟨i,hi,hx⟩:=Qo.mp h2;refine wy r j i _ h1 (by rw[<-Cm];exact hi) ?_;rw[Array.getElem?_map,S.entry i,hx];rfl
def xX(S:jA knd s a o es ep t xs)(hkeep:∀h',Dm a s.heap h'->∀x c,knd.is s.heap x c->knd.is h' x c){wanted:Nat}(R:SetTable.Round (Du wanted-1))(hl:es.size<=Du wanted-1)(hsz:Du wanted<=sizeLine){Q:Unit->Ae->Prop}
  (h:∀(h':Heap)(o':Obj)(es':Array (Int×Value))(t':SetTable)(xs':List (K×Addr)),Dm a s.heap h'->xs'.Perm xs->t'.mask=Du wanted-1->t'.led=t.led->t'.plain=t.plain->jA knd {s with heap:=h'} a o' es' (ep+1) t' xs'->Q () {s with heap:=h'}):
  Au #v[c] A (setRelay a wanted) Q E s:=by
 obtain⟨t',order,e1,e2,e3,e4,e5,xs',px,S'⟩:=S.relaid hkeep R hl;unfold setRelay;refine Aa (En S.ho S.hd S.fits ?_);dsimp only;rw[if_neg ∅];refine Aa ?_;rw[e1];show Au _ _ (if(order.filterMap (es[·]?)).size != es.size then _ else pure (order.filterMap (es[·]?),t')) _ _ _;rw[if_neg (by rw[e2];simp)];refine Ad ?_;refine Pp S.ho S.hd (h _ _ _ _ xs' (Cw ..) px e3 e4 e5 S') ?_;rw[e2]
 lia
end
namespace SetTable
variable {t:SetTable}
def aE9(G:t.Good)(h:Int):∃N,N<10*turns t.mask/\t.slot (advs t.mask N (t.probeStart h)).j=.empty/\∀m,m<N->t.slot (advs t.mask m (t.probeStart h)).j≠.empty:=by
 obtain⟨N,h1,h2⟩:=aGy G.round G.dum G.room (t.probeStart h) (aF2 t h).1 (aF2 t h).2;induction N using Nat.strongRecOn with
 |_ N ih=>
  by_cases hx:∃m,m<N/\t.slot (advs t.mask m (t.probeStart h)).j=.empty
  ·obtain⟨m,hm,e⟩:=hx;exact ih m hm ∅ e
  ·exact⟨N,h1,h2,λm hm e=>hx ⟨m,hm,e⟩⟩
theorem sH(mask:Nat):∀m k i,qZ mask (m+k) i=qZ mask k (qZ mask m i)
 |0,k,i=>by rw[Kj];rfl
 |m+1,k,i=>by
  rw[Nat.add_right_comm];exact sH mask m k (five mask i)
def seen(mask:Nat):Nat->Nat->Nat->Nat
 |0,_,u=>u
 |m+1,i,u=>seen mask m (five mask i) (u |||1<<<i)
theorem aFz{mask e:Nat}:∀m i u,(seen mask m i u).testBit e=true->u.testBit e=true∨∃k,k<m/\qZ mask k i=e
 |0,_,_,h=> .inl h
 |m+1,i,u,h=>by
  rcases aFz m _ _ h with h|⟨k,h1,h2⟩
  ·rw[Nat.testBit_or,Nat.one_shiftLeft,Nat.testBit_two_pow,Bool.or_eq_true,decide_eq_true_eq]at h;exact h.imp id λh=>⟨0,∅,h⟩
  ·exact .inr ⟨k+1,∅,h2⟩
def aFs(h0:qZ mask (mask+1) 0=0)(h:seen mask (mask+1) 0 0=2 ^ (mask+1)-1):Round mask:=by
 have key:∀e,e<=mask->∃k,k<mask+1/\qZ mask k 0=e:=λe he=>by
  refine(aFz (mask+1) 0 0 ?_).resolve_left λh=>by simp at h
  rw[h,Nat.testBit_two_pow_sub_one];exact decide_eq_true ∅
 intro i hi e he;obtain⟨a,ha,rfl⟩:=key i hi;obtain⟨b,hb,rfl⟩:=key e he;by_cases c:a<b
 ·refine⟨b-a-1,∅,?_⟩;rw[<-sH];congr 1
  lia
 ·refine⟨mask-a+b,∅,?_⟩;rw[<-sH,show a+(mask-a+b+1)=mask+1+b by lia,sH,h0]
def aN6:Round 127:=aFs #v[3] #v[3]
def aN7:Round 511:=aFs #v[3] #v[3]
def Small(t:SetTable):Prop:=(t.mask=7/\t.place.size<=4)∨(t.mask=31/\t.place.size<=18)∨(t.mask=127/\t.place.size<=76)∨(t.mask=511/\t.place.size<=306)
def Small.odd(S:t.Small):t.mask % 2=1:=by rcases S with ⟨e,_⟩|⟨e,_⟩|⟨e,_⟩|⟨e,_⟩<;>rw[e]
end SetTable
section
variable {prog:Ap}{w:Bh}{K:Type} [DecidableEq K](knd:Ii prog w K)
def lA(s:Ae)(a:Addr)(l:Bool)(xs:List (K×Addr)):Prop:=∃o es ep t,jA knd s a o es ep t xs/\t.Small/\t.plain=true/\t.led=l
variable {knd}{A:Bl}{E:#v[a]}{s:Ae}{a b:Addr}{o:Obj}{es:Array (Int×Value)}{ep:Nat}{t:SetTable}{xs:List (K×Addr)}{k:K}{l:Bool}
def lA.at(D:tH knd){s':Ae}(S:lA knd s a l xs)(h1:∀o,s.heap.get? a=some o->s'.heap.get? a=some o)(h2:∀b o,o.cls=.type "tuple"->s.heap.get? b=some o->s'.heap.get? b=some o):lA knd s' a l xs:=by
 obtain⟨o,es,ep,t,S,r⟩:=S;exact⟨o,es,ep,t,⟨h1 o S.ho,S.hex,S.hd,S.he,S.good,S.size,λx hx=>D.mono (S.keys x hx) h2,S.nd,S.way⟩,r⟩
def aGo(x:Addr)(es:Array (Int×Value)):byScan (.ref x) es=false:=rfl
def oZ(D:tH knd)(S:lA knd s a l xs)(hn:xs.length<300)(hu:knd.room A)(hkey:knd.is s.heap k b){Q:Bool->Ae->Prop}
  (hold:(∃x∈xs,x.1=k)->Q false s)
  (hnew:(∀x∈xs,x.1≠k)->∀h' xs',Dm a s.heap h'->xs'.Perm ((k,b)::xs)->lA knd {s with heap:=h'} a l xs'->Q true {s with heap:=h'}):
  Au #v[c] A (Qi a (.ref b) (knd.hash k)) Q E s:=by
 obtain⟨o,es,ep,t,S,sm,pl,rfl⟩:=S;unfold Qi;refine Cg ?_;unfold setAddHashedIn;refine Aa (En S.ho S.hd S.fits ?_);dsimp only;rw[aGo]
 ac_rfl
 obtain⟨N,n1,n2,n3⟩:=SetTable.aE9 S.good (knd.hash k);have bigm:10*Lh t.mask<=100000:=by
  unfold Lh;rcases sm with ⟨e,_⟩|⟨e,_⟩|⟨e,_⟩|⟨e,_⟩<;>rw[e]<;>decide
 refine Aa (wG S sm.odd D hu hkey n2 n1 n3 (λh=>?_) (λh=>?_) 100000 0 none rfl (Bt _) ∅ λm hm=>absurd hm (Dz m))
 ·exact Ad (hold h)
 ·dsimp only;refine Aa (En S.ho S.hd S.fits ?_);dsimp only;have lowj:#v[2].j<=t.mask:=SetTable.aAa _ _ (SetTable.aOk _ _);have hsz:t.place.size+1<=t.mask:=by rcases sm with ⟨e,h⟩|⟨e,h⟩|⟨e,h⟩|⟨e,h⟩<;>lia
  have S':=S.add hkey h (λh' sb x c hx=>D.keep hx S.ho S.hex sb) n2 n3 lowj hsz rfl rfl;have hb:=(SetTable.gU S.good.rise #v[2].j).1;have psz:(t.put #v[2].j).1.place.size=t.place.size+1:=by
   rw[SetTable.jE S.good.dum];exact SetTable.mZ _ _ hb
  have pmk:(t.put #v[2].j).1.mask=t.mask:=by rw[SetTable.jE S.good.dum]
  have ppl:(t.put #v[2].j).1.plain=true:=by rw[SetTable.jE S.good.dum];exact pl
  have pld:(t.put #v[2].j).1.led=t.led:=by rw[SetTable.jE S.good.dum]
  have p2:(t.put #v[2].j).2=Co t.place #v[2].j:=by rw[SetTable.jE S.good.dum]
  have pm:=(Vl (a:=(k,b)) (l₁:=xs.take (Co t.place #v[2].j)) (l₂:=xs.drop (Co t.place #v[2].j)));rw[Lm]at pm;have fl:(t.put #v[2].j).1.fill=t.place.size+1:=by
   unfold Ue;rw[psz,S'.good.dum];rfl
  rw[ppl];simp only[if_true];refine Aa (D.byValue hkey ?_);simp only[if_true,p2];have els:=S'.len;have eln:=S.len;have hxl:=pm.length_eq;rw[Aq]at hxl;refine Aa (Pp S.ho S.hd ?_ (by rw[els,hxl];unfold sizeLine;lia));by_cases full:(t.put #v[2].j).1.tooFull=true
  ·rw[full];simp only[Jb,Xe,if_true];have fd:∃g,Du (SetTable.grown (es.size+1))=g+1/\SetTable.Round g/\es.size+1<=g/\g<=511/\(g=31/\es.size+1<=18∨g=127/\es.size+1<=76∨g=511/\es.size+1<=306):=by
    unfold Sf at full;rw[fl,pmk]at full;have full:=of_decide_eq_true full;have sz:=S.size;rcases sm with ⟨e,h⟩|⟨e,h⟩|⟨e,h⟩|⟨e,h⟩<;>rw[e]at full
    ·rw[show es.size=4 by lia];exact⟨31,⋯,SetTable.aQr,⋯,⋯,⋯⟩
    ·rw[show es.size=18 by lia];exact⟨127,⋯,SetTable.aN6,⋯,⋯,⋯⟩
    ·rw[show es.size=76 by lia];exact⟨511,⋯,SetTable.aN7,⋯,⋯,⋯⟩
    ·lia
   obtain⟨g,eg,rg,g1,g2,g3⟩:=fd;refine Aa (xX S' (λh' sb x c hx=>D.keep hx S'.ho S'.hex sb) (by rw[eg];exact rg) (by rw[els,hxl,eg, <-eln];exact g1) (by rw[eg];unfold sizeLine;lia) λh' o' es' t' xs' sb px e1 e2 e3 S2=>?_);refine Ad ?_;refine hnew h h' xs' (Qf (Cw ..) sb) (px.trans pm) ⟨o',es',_,t',S2,.inr ?_,by rw[e3];exact ppl,by rw[e2];exact pld⟩;rw[e1,eg,S2.size,S2.len,px.length_eq,hxl, <-eln];exact g3
  ·have full:=Uq.mpr full;rw[full];simp only[Jc,Dx,if_false];refine Ad (hnew h _ _ (Cw ..) pm ⟨_,_,_,_,S',?_,ppl,pld⟩);unfold Sf at full;rw[fl,pmk]at full;have full:=of_decide_eq_false full;have sz:=S.size;unfold SetTable.Small;rw[pmk,psz];rcases sm with ⟨e,h⟩|⟨e,h⟩|⟨e,h⟩|⟨e,h⟩<;>rw[e]at full⊢ <;>lia
end
def qL(n:Nat)(i:Int)(tk):Lu n (.int i tk)=pure true:=by cases n<;>rfl
def vH(n:Nat){v:Value}(h:Se v=true):Gn n v=pure false:=by
 cases v with
 |ref a=>cases h
 |_=>first|rfl|(unfold Gn;rfl)
section
variable {prog:Ap}{w:Bh}{K:Type} [DecidableEq K]{knd:KeyKind prog w K}{A:Bl}{E:#v[a]}{s:Ae}
def ItemsAre.ints(hv:∀k v,knd.is k v=true->∃i tk,v=Df i tk){x:List K}{vs:List Value}(hx:ItemsAre knd x vs):∀v∈vs,∃i tk,v=Df i tk:=by
 induction hx with
 |nil=>intro v hv;simp at hv
 |@cons k v' ks vs h1 _ ih=>
  intro v hm;rcases Ao.mp hm with rfl|hm
  ·exact hv _ _ h1
  ·exact ih v hm
def oX(hv:∀k v,knd.is k v=true->∃i tk,v=Df i tk){ks:List K}{Q:Bool->Ae->Prop}(hk:Jn knd s.heap ks a)(h:Q true s):Au #v[c] A (Lu (n+1) (.ref a)) Q E s:=by
 have hT:=hk.typeIs;obtain⟨o,items,m,ho,_,hd,hi⟩:=hk;unfold Lu;refine Aa (Gm hT F.slot_tuple_hash.lookup ?_);show Au _ _ (Ut (.ref a)>>=_) _ _ s;refine Aa (Gz ho hd ?_);refine Aa ?_;show Au _ _ (forIn items _ _) _ _ s;rw[<-Fq];refine Fb _ (λrest r s'=>r.1=none/\s'=s/\∀v∈rest,∃i tk,v=Df i tk) _ ?_ ?_ _ _ ⟨rfl,rfl,hi.ints hv⟩
 ·rintro v rest r s' ⟨hr,rfl,hall⟩;obtain⟨i,tk,rfl⟩:=hall v Ah;rw[qL];refine Aa (Ad ?_)
  ac_rfl
  exact Ad ⟨rfl,rfl,λu hu'=>hall u (Ag _ hu')⟩
 ·rintro⟨r1,r2⟩ s' ⟨hr,rfl,_⟩;simp only at hr;subst hr;exact Ad h
def qJ(hv:∀k v,knd.is k v=true->∃i tk,v=Df i tk){x:K×List K}{Q:Bool->Ae->Prop}(hk:bH knd s.heap x a)(h:Q true s):Au #v[c] A (Lu 8 (.ref a)) Q E s:=by
 have hT:=hk.typeIs;obtain⟨o,v,b,m,ho,_,hd,h1,h2⟩:=hk;unfold Lu;refine Aa (Gm hT F.slot_tuple_hash.lookup ?_);show Au _ _ (Ut (.ref a)>>=_) _ _ s;refine Aa (Gz ho hd ?_);refine Aa ?_;show Au _ _ (forIn _ _ _) _ _ s;rw[<-Fq];refine Fb _ (λrest r s'=>r.1=none/\s'=s/\∀u∈rest,u=v∨u=.ref b) _ ?_ ?_ _ _ ⟨rfl,rfl,λu hu=>by simpa using hu⟩
 ·rintro u rest r s' ⟨hr,rfl,hall⟩;rcases hall u Ah with rfl|rfl
  ·obtain⟨i,tk,rfl⟩:=hv _ _ h1;rw[qL];refine Aa (Ad ?_)
   ac_rfl
   exact Ad ⟨rfl,rfl,λu hu'=>hall u (Ag _ hu')⟩
  ·refine Aa (oX hv h2 ?_)
   ac_rfl
   exact Ad ⟨rfl,rfl,λu hu'=>hall u (Ag _ hu')⟩
 ·rintro⟨r1,r2⟩ s' ⟨hr,rfl,_⟩;simp only at hr;subst hr;exact Ad h
def rY{ks:List K}{Q:Bool->Ae->Prop}(hk:Jn knd s.heap ks a)(h:Q false s):Au #v[c] A (Gn (n+1) (.ref a)) Q E s:=by
 have hT:=hk.typeIs;obtain⟨o,items,m,ho,_,hd,hi⟩:=hk;unfold Gn;refine Aa (Mv hT ?_);dsimp only;simp only[beq_self_eq_true,if_true];refine Aa (Ad ?_)
 ac_rfl
 refine Aa (Gz ho hd ?_);dsimp only;refine Aa ?_;rw[<-Fq];refine Fb _ (λrest r s'=>r.1=none/\s'=s/\∀v∈rest,Se v=true) _ ?_ ?_ _ _ ⟨rfl,rfl,hi.byValue⟩
 ·rintro v rest r s' ⟨hr,rfl,hall⟩;rw[vH _ (hall v Ah)];refine Aa (Ad ?_)
  ac_rfl
  exact Ad ⟨rfl,rfl,λu hu'=>hall u (Ag _ hu')⟩
 ·rintro⟨r1,r2⟩ s' ⟨hr,rfl,_⟩;simp only at hr;subst hr;exact Ad h
def tE{x:K×List K}{Q:Bool->Ae->Prop}(hk:bH knd s.heap x a)(h:Q false s):Au #v[c] A (Gn 8 (.ref a)) Q E s:=by
 have hT:=hk.typeIs;obtain⟨o,v,b,m,ho,_,hd,h1,h2⟩:=hk;unfold Gn;refine Aa (Mv hT ?_);dsimp only;simp only[beq_self_eq_true,if_true];refine Aa (Ad ?_)
 ac_rfl
 refine Aa (Gz ho hd ?_);dsimp only;refine Aa ?_;rw[<-Fq];refine Fb _ (λrest r s'=>r.1=none/\s'=s/\∀u∈rest,u=v∨u=.ref b) _ ?_ ?_ _ _ ⟨rfl,rfl,λu hu=>by simpa using hu⟩
 ·rintro u rest r s' ⟨hr,rfl,hall⟩;rcases hall u Ah with rfl|rfl
  ·rw[vH _ (knd.byValue _ _ h1)];refine Aa (Ad ?_)
   ac_rfl
   exact Ad ⟨rfl,rfl,λu hu'=>hall u (Ag _ hu')⟩
  ·refine Aa (rY h2 ?_)
   ac_rfl
   exact Ad ⟨rfl,rfl,λu hu'=>hall u (Ag _ hu')⟩
 ·rintro⟨r1,r2⟩ s' ⟨hr,rfl,_⟩;simp only at hr;subst hr;exact Ad h
def IsTupleKey.monoS{ks:List K}(x:Jn knd h ks a)(hs:∀b o,o.cls=.type "tuple"->h.get? b=some o->h'.get? b=some o):Jn knd h' ks a:=by
 obtain⟨o',items,n,ho',hc,hd',hi⟩:=x;exact⟨o',items,n,hs _ _ hc ho',hc,hd',hi⟩
def bH.monoS{x:K×List K}(hx:bH knd h x a)(hs:∀b o,o.cls=.type "tuple"->h.get? b=some o->h'.get? b=some o):bH knd h' x a:=by
 obtain⟨o',v,b,n,ho',hc,hd',h1,h2⟩:=hx;exact⟨o',v,b,n,hs _ _ hc ho',hc,hd',h1,h2.monoS hs⟩
def aNj(hv:∀k v,knd.is k v=true->∃i tk,v=Df i tk):tH (mG knd) where
 mono:=λx hs=>bH.monoS x hs
 byValue:=λx h=>qJ hv x h
 plain:=λx h=>tE x h
end
namespace F
def cW:Slot "set_iterator" "__next__" "set_iterator.__next__":=
 .of (owner:="set_iterator") (n:="__next__") (by rw[Yz,Vd];kernel_rfl) #v[3] #v[3] #v[3]
  (by first|exact .inl #v[3]|exact .inr #v[3]) (by rw[Sd];kernel_rfl)
def iW:Slot "set_iterator" "__iter__" "set_iterator.__iter__":=
 .of (owner:="set_iterator") (n:="__iter__") (by rw[Yz,Vd];kernel_rfl) #v[3] #v[3] #v[3]
  (by first|exact .inl #v[3]|exact .inr #v[3]) (by rw[Sd];kernel_rfl)
def oO:entryFor table "set_iterator.__next__"=some Builtin.«set_iterator.__next__»:=entryFor_of_tree (by kernel_rfl)
def oN:entryFor table "set_iterator.__iter__"=some Builtin.«dict_keyiterator.__iter__»:=
 entryFor_alias (id':="dict_keyiterator.__iter__") (by kernel_rfl) (by first|rfl|decide+kernel) #v[3] (by kernel_rfl)
def aAj:entryFor table "set.__iter__"=some Builtin.«frozenset.__iter__»:=
 entryFor_alias (id':="frozenset.__iter__") (by kernel_rfl) (by first|rfl|decide+kernel) #v[3] (by kernel_rfl)
def mF:Manifest.owners.lookup (String.ofList ['r','o','t','a','r','e','t','i','_','t','e','s'].reverse)=some Manifest.sig_set_iterator:=by kernel_rfl
def nQ(a:Value):Wt "set_iterator.__next__" ⟨[a],[]⟩:=by
 unfold Wt;rw[signature?_of (id:="set_iterator.__next__") (n:=['_','_','t','x','e','n','_','_']) (o:=['r','o','t','a','r','e','t','i','_','t','e','s']) (by kernel_rfl) mF];kernel_rfl
def nP(a:Value):Wt "set_iterator.__iter__" ⟨[a],[]⟩:=by
 unfold Wt;rw[signature?_of (id:="set_iterator.__iter__") (n:=['_','_','r','e','t','i','_','_']) (o:=['r','o','t','a','r','e','t','i','_','t','e','s']) (by kernel_rfl) mF];kernel_rfl
end F
theorem eY{α:Type}:∀{l:List α}{n:Nat}(h:n<l.length),(l[n]::l.eraseIdx n).Perm l
 | [],_,h=>absurd h (Dz _)
 |a::l,0,_=>Ih _
 |a::l,n+1,h=>by
  have h':n<l.length:=Ru h;show(l[n]::a::l.eraseIdx n).Perm (a::l);exact(Ol _ _ _).trans ((eY (Ru h)).cons a)
def aA2(next:Nat->Nat)(xs:Array α):(Uv next xs).toList.Perm xs.toList:=by
 have go:∀(fuel k:Nat)(left:List α)(out:Array α),left.length=fuel->(Pu next fuel k left out).toList.Perm (out.toList++left):=by
  intro fuel;induction fuel with
  |zero=>
   intro k left out h;have:left=[]:=Ic.mp h;subst this;simp[Pu]
  |succ fuel ih=>
   intro k left out h;have hlt:next k % left.length<left.length:=Ri _ ∅;rw[Pu,Ak hlt];dsimp only;refine(ih _ _ _ (by rw[List.length_eraseIdx_of_lt hlt];lia)).trans ?_;rw[Array.toList_push,Cv];refine List.Perm.append_left _ ?_;exact eY hlt
 exact go xs.size 0 xs.toList #[] (by simp)
section
variable {prog:Ap}{w:Bh}{A:Bl}{E:#v[a]}{s:Ae}
def gD(w:Bh)(S:Addr)(es:Array (Int×Value))(ep:Nat):List Value:=if w.params.followText "set-order"=true then(Uv (w.params.setOrder S ep) es).toList.map (·.2)else es.toList.map (·.2)
def jV(w:Bh)(S:Addr)(es:Array (Int×Value))(ep:Nat):(gD w S es ep).Perm (es.toList.map (·.2)):=by
 unfold gD;split
 ·exact(aA2 _ _).map _
 ·exact Ih _
def zZ(w:Bh)(t:SetTable)(slot i:Nat):Prop:=w.params.followText "set-order"=true∨Co t.place slot=i
def aGn(R:SetTable.tU xs){i:Nat}(h:i<xs.size):Co xs (xs.getD i 0+1)=i+1:=by
 obtain⟨h1,h2,h3⟩:=SetTable.gU R (xs.getD i 0+1);rcases Oh (Co xs (xs.getD i 0+1)) (i+1)with z|z|z
 ·have:=h3 i ∅ h
  lia
 ·exact z
 ·have:=h2 (i+1) z;have:=R i (i+1) ∅ ∅
  lia
def aB0{S:Addr}{o:Obj}{es:Array (Int×Value)}{ep:Nat}{t:SetTable}{slot i:Nat}{Q:Option (Value×Nat)->Ae->Prop}(ho:s.heap.get? S=some o)(hd:o.data=.set es ep t)(hf:t.fits es.size=true)(hr:SetTable.tU t.place)(hpl:t.plain=true)(hl:t.led= !w.params.followText "set-order")
  (hs:zZ w t slot i) (h1:∀v slot',(gD w S es ep)[i]? =some v->zZ w t slot' (i+1)->Q (some (v,slot')) s) (h2:es.size<=i->Q none s):Au #v[c] A (setNext S slot i ep) Q E s:=by
 have psz:t.place.size=es.size:=by
  simp only[Ud,Dp,beq_iff_eq,decide_eq_true_eq]at hf;exact hf.1
 unfold setNext Xl;refine Aa (En ho hd hf ?_);dsimp only;refine Aa (Aa (Jz (Ad ?_)));dsimp only[model];have olen:(gD w S es ep).length=es.size:=by rw[(jV w S es ep).length_eq,Ac,Aw]
 cases hb:w.params.followText "set-order"
 ·ac_rfl
  have hs:Co t.place slot=i:=by
   rcases hs with z|z
   ·rw[hb]at z;cases z
   ·exact z
  show Au _ _ (if(!t.plain && decide (es.size>1))=true then _ else _) _ _ _;rw[hpl];simp only[Nt,Dh,Dx,if_false];show Au _ _ ((if(!t.led && !es.isEmpty)=true then _ else _)>>=_) _ _ _;rw[hl,hb];simp only[Jb,Nt,Dh,Dx,if_false];refine Aa (Ad ?_);rw[hs];have eo:(gD w S es ep)[i]? =(es[i]?).map (·.2):=by
   unfold gD;rw[hb];simp
  by_cases hi:i<es.size
  ·have hp:i<t.place.size:=by lia
   rw[By hi,By hp];refine Ad (h1 _ _ (by rw[eo,By hi];rfl) (.inr ?_));have:=aGn hr hp;simpa[Gd,hp]using this
  ·rw[Array.getElem?_eq_none ∅];exact Ad (h2 ∅)
 ·simp only[if_true];rw[if_neg (by simp)];unfold setWalk Xl;refine Aa (Aa (En ho hd hf ?_));dsimp only;refine Aa (Aa (Jz (Ad ?_)));dsimp only[model];rw[hb];simp only[if_true];refine Aa (Jz ?_);refine Ad ?_;dsimp only[model];have eo:(gD w S es ep)[i]? =((Uv (w.params.setOrder S ep) es)[i]?).map (·.2):=by
   unfold gD;rw[hb];simp
  cases hg:(Uv (w.params.setOrder S ep) es)[i]? with
  |none=>
   rw[hg]at eo;have:=List.getElem?_eq_none_iff.mp eo;exact Ad (h2 ∅)
  |some e=>
   rw[hg]at eo;exact Ad (h1 _ _ eo (.inl hb))
def oK(h:Heap)(I S:Addr)(slot i n ep:Nat):Prop:=∃o,h.get? I=some o/\o.cls=.type "set_iterator"/\o.data=.fields #[.int slot 0,.int i 0,.ref S,.int n 0,.int ep 0]
def oK.typeIs{I S:Addr}{slot i n ep:Nat}(h:oK s.heap I S slot i n ep):s.TypeIs (.ref I) "set_iterator":=let⟨o,ho,hc,_⟩:=h;⟨o,ho,hc⟩
variable {I S:Addr}{o:Obj}{es:Array (Int×Value)}{ep:Nat}{t:SetTable}{slot i:Nat}
def oY{Q:#v[8]->Ae->Prop}(hh:A.handled=none)(hit:oK s.heap I S slot i es.size ep)(ho:s.heap.get? S=some o)(hd:o.data=.set es ep t)(hf:t.fits es.size=true)(hr:SetTable.tU t.place)(hpl:t.plain=true)(hl:t.led= !w.params.followText "set-order")
  (hs:zZ w t slot i) (h1:∀v slot' h',(gD w S es ep)[i]? =some v->zZ w t slot' (i+1)->oK h' I S slot' (i+1) es.size ep->Dm I s.heap h'->Q (some v) {s with heap:=h'}) (h2:es.size<=i->∀h',Heap.ExtBut I s.heap h'->Q none {s with heap:=h'}):
  Au #v[c] A (Ox (.ref I)) Q E s:=by
 obtain⟨oi,hoi,hci,hdi⟩:=id hit;unfold Ox;refine Aa (wpAny_attempt (Sz (name:=Ht "__next__") hit.typeIs F.cW
  (Ga F.cW hit.typeIs F.oO ?_ (F.nQ _))))
 unfold Builtin.«set_iterator.__next__»;refine Aa (m:=slotArgs "__next__" 0 _) (Ad ?_);refine Aa (wpAny_fieldsOf hoi hdi ?_);dsimp only;refine Aa (Wa ho hd hf ?_);rw[if_neg (by simp)];simp only[Om];refine Aa (aB0 ho hd hf hr hpl hl hs (λv slot' e ok=>?_) λhge=>?_)
 ·dsimp only;refine Aa (Gy hoi hdi (by simp) ?_);have hoi2:=Bn (Ij (·.setIfInBounds 0 (My slot'))) hoi (Fu (Dy hdi _));have hdi2:=Dy hdi (·.setIfInBounds 0 (My slot'));refine Aa (Gy hoi2 hdi2 (by simp) ?_);refine Ad ⟨_,rfl,Ad (h1 v slot' _ e ok ⟨_,Bn _ hoi2 (Fu (Dy hdi2 _)),(Vj ..).trans ((Vj ..).trans hci),by rw[Dy hdi2];simp[My]⟩ (Qf (Cw ..) (Cw ..)))⟩
 ·dsimp only;refine Aa (Gy hoi hdi (by simp) ?_);show Au _ _ (newExc (.type "StopIteration") []>>=_) _ _ _;refine Aa ?_;simp only[newExc,newTuple];refine Aa (Dj ?_ (by size_fits));refine Aa (m:=firstArgMember _ _) (Wb (a:=Cb) (by first|rfl|(simp only[firstArgMember];rfl)) ?_);refine Dj ?_ (by size_fits);simp only[raiseNew];refine Aa (wpAny_handled ?_);rw[show A.in1.handled=none from hh];refine Aa (Ad (wpAny_throw ?_));refine Aa (Hx (T:="StopIteration") (b:=true) ⟨_,Ba _ rfl,rfl⟩ isSubtype_stop ?_);exact Ad (h2 hge _ (((Cw ..).extBut.push _).push _))
def Walks.set(hh:A.handled=none)(hne:S≠I)(o:Obj)(hd:o.data=.set es ep t)(hf:t.fits es.size=true)(hr:SetTable.tU t.place)(hpl:t.plain=true)(hl:t.led= !w.params.followText "set-order"):
  Walks prog w A I [I,S] [I] es.size (λi v=>(gD w S es ep)[i]? =some v) (λi h=>(∃slot,oK h I S slot i es.size ep/\zZ w t slot i)/\h.get? S=some o) where
 sub:=λb hb=>by simp at hb;simp[hb]
 frame:=λ_ _ _ st hk=>by
  obtain⟨⟨slot,⟨oi,h1,h2⟩,h3⟩,h4⟩:=st;exact⟨⟨slot,⟨oi,hk I (by simp) _ h1,h2⟩,h3⟩,hk S (by simp) _ h4⟩
 item:=λi s Q E hi st hQ=>by
  obtain⟨⟨slot,h1,h3⟩,h4⟩:=st;refine oY hh h1 h4 hd hf hr hpl hl h3 (λv slot' h' e ok it' sb=>?_) λhge=>absurd hi ∅;exact hQ _ h' s.toks e ⟨⟨slot',it',ok⟩,(sb.2 S hne).trans h4⟩ λb o hb e=>sb.extBut b o (λh=>hb (by simp[h])) e
 done:=λs Q E st hQ=>by
  obtain⟨⟨slot,h1,h3⟩,h4⟩:=st;refine oY hh h1 h4 hd hf hr hpl hl h3 (λv slot' h' e ok it' sb=>?_) λhge h' he'=>hQ h' s.toks λb o hb e=>he' b o (λh=>hb (by simp[h])) e;have olen:(gD w S es ep).length=es.size:=by rw[(jV w S es ep).length_eq,Ac,Aw]
  rw[Hd ∅]at e;cases e
 self:=λ_ _ _ _ st hQ=>by
  obtain⟨⟨slot,h1,h3⟩,h4⟩:=st;refine Xg h1.typeIs F.iW (Ga F.iW h1.typeIs F.oN ?_ (F.nP _));show Au _ _ (ret (.ref I)) _ _ _;exact Ad ⟨_,rfl,"set_iterator",_,h1.typeIs,F.cW.lookup,hQ⟩
end
namespace F
def aEg:Uy (.type "set") (.type "set")=pure true:=by rw[Sd];kernel_rfl
end F
section
variable {prog:Ap}{w:Bh}{A:Bl}{E:#v[a]}{s:Ae}{I S:Addr}{o:Obj}{es:Array (Int×Value)}{ep:Nat}{t:SetTable}
def xW{Q:#v[a]}(ho:s.heap.get? S=some o)(hex:o.ExactSet)(hd:o.data=.set es ep t)(hf:t.fits es.size=true)(hpl:t.plain=true)
  (hQ:Q (.ref #v[0]) {s with heap:=s.heap.push {cls:=.type "set_iterator",data:=.fields #[.int 0 0,.int 0 0,.ref S,.int es.size 0,.int ep 0]}}):Au #v[c] A (Zb (.ref S)) Q E s:=by
 have hT:s.TypeIs (.ref S) "set":=⟨o,ho,hex.1⟩;refine Xg hT Xw (Ga Xw hT F.aAj ?_ (F.args_set_iter_1 _));unfold Builtin.«frozenset.__iter__»;refine Aa (m:=Vq "__iter__" _) (Ad ?_);unfold Vr;refine Aa (Aa (Wa ho hd hf (Ad ?_)));unfold setDrawn Xl;refine Aa (Aa (En ho hd hf ?_));dsimp only;refine Aa (Aa (Jz (Ad ?_)));show Au _ _ (pure (!#v[c].w.params.followText "set-order" && (!t.plain && decide (es.size>1)))) _ _ _;rw[hpl];simp only[Nt,Dh,Jc];refine Ad ?_
 ac_rfl
 refine Aa (Ad ?_);refine Aa (wpAny_setEpoch_of ho hd hf ?_);unfold newFields;refine Aa (Dj (Ad ⟨_,rfl,"set_iterator",_,⟨_,Ba _ rfl,rfl⟩,F.cW.lookup,?_⟩));simpa[My]using hQ
def nO{Q:List Value->Ae->Prop}(hh:A.handled=none)(ho:s.heap.get? S=some o)(hex:o.ExactSet)(hd:o.data=.set es ep t)(hf:t.fits es.size=true)(hr:SetTable.tU t.place)(hpl:t.plain=true)(hl:t.led= !w.params.followText "set-order")(hn:es.size<=sizeLine)
  (hQ:∀h' tk,#v[0]<h'.objs.size->(∀b o,s.heap.get? b=some o->h'.get? b=some o)->Q (gD w S es ep) {s with heap:=h',toks:=tk}):Au #v[c] A (collect (.ref S)) Q E s:=by
 have hSlt:S<#v[0]:=Ar ho;unfold collect;refine Aa (wpAny_runValue (Ee F.entry_proto_collect ?_));rw[Di F.plain_proto_collect _];show Au _ A.in1 (We []>>=λl=>again (.builtin "list.__iadd__" ⟨[l,.ref S],[]⟩)) _ _ s;refine Aa (Dj ?_);refine Ad ⟨Gb Wo _,Ee F.entry_list_iadd ?_⟩;rw[Di Wo _];have ho1:(s.heap.push {cls:=.type "list",data:=.seq ([]:List Value).toArray}).get? S=some o:=Af _ ho;have hT1:Qk {s with heap:=s.heap.push {cls:=.type "list",data:=.seq ([]:List Value).toArray}} (.ref S) "set":=⟨o,ho1,hex.1⟩;have hS₁:(s.heap.push {cls:=.type "list",data:=.seq ([]:List Value).toArray}).get? #v[0]=some {cls:=.type "list",data:=.seq ([]:List Value).toArray}:=Ba _ rfl;have hne:#v[0]≠S:=Ma hSlt;have h1:Oa (.ref #v[0]) (.ref S)=false:=by simp[Oa,hne]
 show Au _ A.in1 (Mu (.ref #v[0]) (.ref S) (.ref #v[0])) _ _ _;unfold Mu;refine Aa (Mv hT1 ?_);rw[if_neg (by rw[h1];decide)];refine Aa (xW ho1 hex hd hf hpl ?_);have esz:(s.heap.push {cls:=.type "list",data:=.seq ([]:List Value).toArray}).objs.size=#v[0]+1:=Dd ..;rw[esz];generalize hH2:(s.heap.push {cls:=.type "list",data:=.seq ([]:List Value).toArray}).push {cls:=.type "set_iterator",data:=.fields #[.int 0 0,.int 0 0,.ref S,.int es.size 0,.int ep 0]}=H2;have keep2:∀b o,s.heap.get? b=some o->H2.get? b=some o:=λb o e=>by rw[<-hH2];exact Af _ (Af _ e)
 have ho2:H2.get? S=some o:=keep2 _ _ ho;have hL2:H2.get? #v[0]=some {cls:=.type "list",data:=.seq ([]:List Value).toArray}:=by rw[<-hH2];exact Af _ hS₁
 have hI2:H2.get? (#v[0]+1)=some {cls:=.type "set_iterator",data:=.fields #[.int 0 0,.int 0 0,.ref S,.int es.size 0,.int ep 0]}:=by rw[<-hH2, <-esz];exact Ba _ rfl
 have hT2:Qk {s with heap:=H2} (.ref S) "set":=⟨o,ho2,hex.1⟩;refine Aa (Cg ?_);unfold Yx;refine Aa (Gm hT2 F.slot_set_len.lookup ?_)
 (generalize hid:("set.__len__":String)=id0;(fail_if_success (clear hid id0));wp_delta;rw[show splitId id0=some ("set","__len__")from by subst hid;decide+kernel];subst hid)
 refine Aa (Hx (b:=true) hT2 F.aEg ?_)
 ac_rfl
 rw[if_pos #v[3]];refine Aa (Mv hT2 ?_);refine Ad ?_;rw[if_pos #v[3]];show Au _ A.in1 (rule "list.extend.makes-room">>=λ_=>Yw (.ref #v[0])>>=λ_=>
  again (.builtin "list.extend.loop" ⟨[.ref #v[0],.ref (#v[0]+1),.ref #v[0]],[]⟩)) _ _ _
 refine Aa (Nk ?_);refine Aa ?_;show Au _ A.in1 (Us #v[0] (·.push .none)>>=λ_=>Us #v[0] (·.pop)) _ _ _;refine Aa (Kl hL2 rfl ?_);have hS₂:=Bn (Et (·.push Cb)) hL2 rfl;refine Kl hS₂ rfl ?_;have hS₃:=Bn (Et (·.pop)) hS₂ rfl;have oth:∀b o,b≠#v[0]->H2.get? b=some o->((H2.update #v[0] (Et (·.push Cb))).update #v[0] (Et (·.pop))).get? b=some o:=
  λb o hb e=>(Bj _ _ (Ci hb)).trans ((Bj _ _ (Ci hb)).trans e)
 have hneI:S≠#v[0]+1:=Be (Hi hSlt);have W:=(Walks.set (prog:=prog) (A:=A.in1) (I:=#v[0]+1) (S:=S) (by simp[hh]) hneI o hd hf hr hpl hl).toS;have hSf:#v[0]∉[#v[0]+1,S]:=by
  simp only[Ao,Br,Ck,or_false,not_or];exact⟨Be (Fs _),hne⟩
 refine Ad ⟨Gb F.plain_extend_loop _,codeAny_extend_loopS W hn _ hSf _ es.size 0 _ _ _ rfl (Bt _)
  ⟨⟨0,⟨_,oth _ _ (Ma (Fs _)) hI2,rfl,rfl⟩,.inr ?_⟩,oth _ _ hne.symm ho2⟩ hS₃ (ItemsOf.nil _) λs' acc' c' hm hS' hacc=>?_⟩
 ·have:=(SetTable.gU hr 0).2.1;rcases Nat.eq_zero_or_pos (Co t.place 0)with z|z
  ·exact z
  ·exact absurd (this 0 z) (Dz _)
 ·show Au _ A (load #v[0]>>=_) _ _ s';refine Aa (wpAny_load hS' ?_);obtain⟨h',g',d',tk',os'⟩:=s';have eg:g'=s.gens:=hm.gens;have ed:d'=s.drawn:=hm.drawn;have eo:os'=s.os:=hm.os;subst eg;subst ed;subst eo;have ea:acc'.toList=gD w S es ep:=by
   apply Uj;intro j;have olen:(gD w S es ep).length=es.size:=by rw[(jV w S es ep).length_eq,Ac,Aw]
   by_cases hj:j<acc'.size
   ·rw[Cm,By hj];exact(hacc.2 j _ (By hj)).symm
   ·rw[Hd (by rw[Aw];lia),Hd (by rw[olen, <-hacc.1];lia)]
  refine Ad ?_;rw[ea];refine hQ h' tk' (Ar hS') λb o e=>?_;have hb:b<#v[0]:=Ar e;exact hm.heap b o (by simp only[Ao,Br,Ck,or_false,not_or];exact⟨Be hb,Be (Hi hb)⟩) (oth b o (Be hb) (keep2 b o e))
end
end PySem
namespace PySem.W
open PyProof.Rows
def KasT.Way{α:Type}(lt:Nat->Nat->Bool)(P:Nat->Prop):KasT α->(α->Prop)->Prop
 |.ret a,Q=>Q a
 |.ask i j k,Q=>P i/\P j/\(k (lt i j)).Way lt P Q
variable {lt:Nat->Nat->Bool}{P:Nat->Prop}
def KasT.way_bind{α β:Type}{f:α->KasT β}{Q:β->Prop}:∀(t:KasT α),t.Way lt P (λa=>(f a).Way lt P Q)->(t.bind f).Way lt P Q
 |.ret _,h=>h
 |.ask i j k,h=>⟨h.1,h.2.1,KasT.way_bind (k (lt i j)) h.2.2⟩
def KasT.way_mono{α:Type}{Q Q':α->Prop}(hq:∀a,Q a->Q' a):∀(t:KasT α),t.Way lt P Q->t.Way lt P Q'
 |.ret _,h=>hq _ h
 |.ask i j k,h=>⟨h.1,h.2.1,KasT.way_mono hq (k (lt i j)) h.2.2⟩
def KasT.way_wp{α:Type}{cmp:Nat->Nat->(Bool->Ae->Prop)->Ae->Prop}{s:Ae}(hc:∀i j C,P i->P j->C (lt i j) s->cmp i j C s){Q:α->Prop}{G:α->Ae->Prop}(hg:∀a,Q a->G a s):∀(t:KasT α),t.Way lt P Q->t.kasWp cmp G s
 |.ret _,h=>hg _ h
 |.ask i j k,h=>hc i j _ h.1 h.2.1 (KasT.way_wp hc hg (k (lt i j)) h.2.2)
structure pC(n:Nat)(lt:Nat->Nat->Bool):Prop where
 tot:∀i j,i<n->j<n->i≠j->lt i j=true∨lt j i=true
 asym:∀i j,lt i j=true->lt j i=false
 trans:∀i j k,lt i j=true->lt j k=true->lt i k=true
def vAt(p:Array Nat)(i:Nat):Nat:=p.getD i 0
def lV(n:Nat)(p:Array Nat):Prop:=p.toList.Perm (Cj n)
variable {n:Nat}{p:Array Nat}
def lV.size(h:lV n p):p.size=n:=by have:=h.length_eq;rw[Fe,Aw]at this;exact this
def jL{p:Array Nat}{i:Nat}:vAt p i=(p[i]?).getD 0:=by
 unfold vAt Gd;by_cases h:i<p.size
 ·simp[h]
 ·simp[h]
def lV.low(h:lV n p)(hn:0<n)(i:Nat):vAt p i<n:=by
 rw[jL];cases e:p[i]? with
 |none=>exact hn
 |some x=>
  have:x∈p.toList:=Cf (by rw[Cm];exact e);exact Cc.mp (h.mem_iff.mp this)
def lV.inj(h:lV n p){i j:Nat}(hi:i<n)(hj:j<n)(e:i≠j):vAt p i≠vAt p j:=by
 have nd:p.toList.Nodup:=h.nodup_iff.mpr La;have si:i<p.toList.length:=by rw[Aw,h.size];exact hi
 have sj:j<p.toList.length:=by rw[Aw,h.size];exact hj
 intro z;have h1:vAt p i=p.toList[i]:=by rw[jL, <-Cm,Ak si];rfl
 have h2:vAt p j=p.toList[j]:=by rw[jL, <-Cm,Ak sj];rfl
 rw[h1,h2]at z;exact e ((Ot nd).mp z)
def lV.perm{q:Array Nat}(h:lV n p)(e:q.Perm p):lV n q:=(Array.perm_iff_toList_perm.mp e).trans h
def mV(lt:Nat->Nat->Bool)(p:Array Nat)(k:Nat):Prop:=∀i j,i<j->j<k->lt (vAt p i) (vAt p j)=true
def aB1(lt:Nat->Nat->Bool)(p:Array Nat)(k:Nat):Prop:=∀i j,i<j->j<k->lt (vAt p j) (vAt p i)=true
def mV.more(S:pC n lt){k:Nat}(h:mV lt p k)(hk:1<=k)(e:lt (vAt p (k-1)) (vAt p k)=true):mV lt p (k+1):=λi j hi hj=>by
 by_cases z:j<k
 ·exact h i j hi z
 ·obtain rfl:j=k:=by lia
  by_cases y:i=j-1
  ·subst y;exact e
  ·exact S.trans _ _ _ (h i (j-1) ∅ ∅) e
def aB1.more(S:pC n lt){k:Nat}(h:aB1 lt p k)(hk:1<=k)(e:lt (vAt p k) (vAt p (k-1))=true):aB1 lt p (k+1):=λi j hi hj=>by
 by_cases z:j<k
 ·exact h i j hi z
 ·obtain rfl:j=k:=by lia
  by_cases y:i=j-1
  ·subst y;exact e
  ·exact S.trans _ _ _ e (h i (j-1) ∅ ∅)
theorem aDb(S:pC n lt)(hn:0<n)(T:lV n p):∀(f k:Nat),1<=k->k+f=n->mV lt p k->(kas_asc p f k).Way lt (·<n) λm=>mV lt p m/\k<=m/\m<=n/\(m=n∨lt (vAt p m) (vAt p (m-1))=true)
 |0,k,h1,h2,h3=>⟨h3,Am _,∅,.inl ∅⟩
 |f+1,k,h1,h2,h3=>by
  refine⟨T.low hn k,T.low hn (k-1),?_⟩;show KasT.Way lt (·<n) (if lt (vAt p k) (vAt p (k-1))=true then _ else _) _;by_cases c:lt (vAt p k) (vAt p (k-1))=true
  ·rw[if_pos c];exact⟨h3,Am _,∅,.inr c⟩
  ·rw[if_neg c];have c':=(S.tot _ _ (T.low hn k) (T.low hn (k-1)) (T.inj ∅ ∅ ∅)).resolve_left c;exact KasT.way_mono (λm z=>⟨z.1,∅,z.2.2⟩) _ (aDb S hn T f (k+1) ∅ ∅ (h3.more S h1 c'))
theorem aE1(S:pC n lt)(hn:0<n)(T:lV n p):∀(f k:Nat),1<=k->k+f=n->aB1 lt p k->(kas_desc f p k 0).Way lt (·<n) λr=>r.1=p/\r.2.2=0/\aB1 lt p r.2.1/\k<=r.2.1/\r.2.1<=n
 |0,k,h1,h2,h3=>⟨rfl,rfl,h3,Am _,by show k<=n;lia⟩
 |f+1,k,h1,h2,h3=>by
  refine⟨T.low hn k,T.low hn (k-1),?_⟩;show KasT.Way lt (·<n) (if lt (vAt p k) (vAt p (k-1))=true then _ else _) _;by_cases c:lt (vAt p k) (vAt p (k-1))=true
  ·rw[if_pos c,if_neg ∅];exact KasT.way_mono (λm z=>⟨z.1,z.2.1,z.2.2.1,∅,z.2.2.2.2⟩) _ (aE1 S hn T f (k+1) ∅ ∅ (h3.more S h1 c))
  ·rw[if_neg c];refine⟨T.low hn (k-1),T.low hn k,?_⟩;have c':=(S.tot _ _ (T.low hn k) (T.low hn (k-1)) (T.inj ∅ ∅ ∅)).resolve_left c;show KasT.Way lt (·<n) (if lt (vAt p (k-1)) (vAt p k)=true then _ else _) _;rw[if_pos c'];exact⟨rfl,rfl,h3,Am _,by show k<=n;lia⟩
def aN5{m:Nat}(hm:m<=p.size)(i:Nat):vAt (kas_rev p 0 m) i=if i<m then vAt p (m-1-i)else vAt p i:=by
 rw[jL,kas_rev,getElem?_mirror_all hm];by_cases h:i<m
 ·rw[if_pos ⟨Bt _,h⟩,if_pos h,jL,Kj]
 ·rw[if_neg (λz=>h z.2),if_neg h,jL]
def aJk(S:pC n lt)(hn:0<n)(T:lV n p):(kas_count n p).Way lt (·<n) λr=>lV n r.2/\mV lt r.2 r.1/\1<=r.1/\r.1<=n:=by
 refine KasT.way_bind _ (KasT.way_mono (λm z=>?_) _ (aDb S hn T (n-1) 1 (Am _) ∅ λi j h1 h2=>by lia));obtain⟨z1,z2,z3,z4⟩:=z;by_cases e:m=n
 ·rw[if_pos (beq_iff_eq.mpr e)];exact⟨T,z1,z2,z3⟩
 ·rw[if_neg (λy=>e (beq_iff_eq.mp y))];have z4:=z4.resolve_left e;by_cases g:m>1
  ·rw[if_pos g];refine⟨T.low hn 0,T.low hn (m-1),?_⟩;have c:lt (p.getD 0 0) (p.getD (m-1) 0)=true:=z1 0 (m-1) ∅ ∅;rw[c];dsimp only;rw[if_pos rfl];exact⟨T,z1,z2,z3⟩
  ·rw[if_neg g];obtain rfl:m=1:=by lia
   refine KasT.way_bind _ (KasT.way_mono (λr y=>?_) _ (aE1 S hn T (n-(1+1)) (1+1) ∅ ∅ λi j h1 h2=>?_))
   ·obtain⟨q,k,w⟩:=r;obtain⟨y1,y2,y3,y4,y5⟩:=y;have y1:q=p:=y1;have y2:w=0:=y2;subst y1 y2;show KasT.Way lt (·<n) (if 0>0 then _ else _) _;rw[if_neg ∅];have y3:aB1 lt q k:=y3;have y4:2<=k:=y4;have y5:k<=n:=y5;have T':lV n (kas_rev q 0 k):=T.perm (mirror_perm ..);have hs:k<=q.size:=by rw[T.size];exact y5
    refine KasT.way_bind _ (KasT.way_mono (λm' x=>?_) _ (aDb S hn T' (n-k) k ∅ ∅ λi j h1 h2=>?_))
    ·exact⟨T',x.1,by have:=x.2.1;show 1<=m';lia,x.2.2.1⟩
    ·rw[aN5 hs,aN5 hs,if_pos ∅,if_pos h2];exact y3 _ _ ∅ ∅
   ·obtain rfl:i=0:=by lia
    obtain rfl:j=1:=by lia
    exact z4
theorem xH(S:pC n lt)(hn:0<n)(T:lV n p){k:Nat}(hk:k<n)(R:mV lt p k):∀(f l r:Nat),l<=r->r<=k->r-l<=f->(∀i,i<l->lt (vAt p i) (vAt p k)=true)->(∀i,r<=i->i<k->lt (vAt p k) (vAt p i)=true)->
  (kas_place p k f l r).Way lt (·<n) λm=>m<=k/\(∀i,i<m->lt (vAt p i) (vAt p k)=true)/\∀i,m<=i->i<k->lt (vAt p k) (vAt p i)=true
 |0,l,r,h1,h2,h3,a,b=>by
  obtain rfl:l=r:=by lia
  exact⟨h2,a,b⟩
 |f+1,l,r,h1,h2,h3,a,b=>by
  show KasT.Way lt (·<n) (if l≥r then _ else _) _;by_cases e:l≥r
  ·rw[if_pos e];obtain rfl:l=r:=by lia
   exact⟨h2,a,b⟩
  ·rw[if_neg e];refine⟨T.low hn k,T.low hn _,?_⟩;show KasT.Way lt (·<n) (if lt (vAt p k) (vAt p ((l+r) / 2))=true then _ else _) _;by_cases c:lt (vAt p k) (vAt p ((l+r) / 2))=true
   ·rw[if_pos c];refine xH S hn T hk R f l _ ∅ ∅ ∅ a λi g1 g2=>?_;by_cases y:i=(l+r) / 2
    ·subst y;exact c
    ·exact S.trans _ _ _ c (R _ i ∅ g2)
   ·rw[if_neg c];have c':=(S.tot _ _ (T.low hn k) (T.low hn ((l+r) / 2)) (T.inj hk ∅ ∅)).resolve_left c;refine xH S hn T hk R f _ r ∅ h2 ∅ (λi g=>?_) b;by_cases y:i=(l+r) / 2
    ·subst y;exact c'
    ·exact S.trans _ _ _ (R i _ ∅ ∅) c'
def aLk{k l:Nat}(hk:k<p.size)(hl:l<=k)(i:Nat):vAt (bubble p k (k-l)) i=if i=l then vAt p k else if l<i/\i<=k then vAt p (i-1)else vAt p i:=by
 rw[jL,getElem?_bubble hk _ ∅,show k-(k-l)=l by lia];split
 ·rw[jL]
 ·split<;>rw[jL]
theorem aH5 (S : pC n lt) (hn : 0 < n) : ∀ (f : Nat) (p : Array Nat) (k : Nat), lV n p → k + f = n → mV lt p k → (kas_bin f p k).Way lt (· < n) fun q => lV n q ∧ mV lt q n
  | 0, p, k, T, h, R => ⟨T, by obtain rfl : k = n := by lia
                               exact R⟩
  | f + 1, p, k, T, h, R => by
    refine KasT.way_bind _ (KasT.way_mono (fun l z => ?_) _ (xH S hn T (k := k) ∅ R k 0 k (Bt _) (Am _) ∅ (fun i g => by lia) fun i g1 g2 => by lia))
    obtain ⟨z1, z2, z3⟩ := z
    have hs : k < p.size := by rw [T.size]; lia
    refine aH5 S hn f _ (k + 1) (T.perm (bubble_perm ..)) ∅ fun i j h1 h2 => ?_
    rw [aLk hs z1, aLk hs z1]
    by_cases a1 : i = l
    · subst a1
      rw [if_pos rfl, if_neg ∅, if_pos ⟨h1, by lia⟩]
      exact z3 (j - 1) ∅ ∅
    · rw [if_neg a1]
      by_cases a2 : l < i ∧ i ≤ k
      · rw [if_pos a2, if_neg ∅, if_pos ⟨∅, by lia⟩]
        exact R _ _ ∅ ∅
      · rw [if_neg a2]
        by_cases b1 : j = l
        · rw [if_pos b1]
          exact z2 i ∅
        · rw [if_neg b1]
          by_cases b2 : l < j ∧ j ≤ k
          · rw [if_pos b2]
            by_cases e : i = j - 1
            · lia
            · exact R _ _ ∅ ∅
          · rw [if_neg b2]
            exact R _ _ h1 ∅
def aOi(S:pC n lt)(hn:0<n):(kas_sort n).Way lt (·<n) λq=>lV n q/\mV lt q n:=by
 have T:lV n (Xu (Cj n)):=Ih _;refine KasT.way_bind _ (KasT.way_mono (λr z=>?_) _ (aJk S hn T));obtain⟨m,q⟩:=r;obtain⟨z1,z2,z3,z4⟩:=z;have z1:lV n q:=z1;have z2:mV lt q m:=z2;have z3:1<=m:=z3;have z4:m<=n:=z4;show KasT.Way lt (·<n) (if m<n then kas_bin (n-max m 1) q (max m 1)else _) _;by_cases e:m<n
 ·rw[if_pos e,show max m 1=m by lia];exact aH5 S hn _ _ _ z1 ∅ z2
 ·rw[if_neg e];obtain rfl:m=n:=by lia
  exact⟨z1,z2⟩
end PySem.W
namespace PySem
variable {zs:List Nat}{items:Array Value}{P:Nat->Value->Prop}{tk:Nat->Tok}{fp wr:List Addr}{l:Addr}{x:Nat}
open Sem (wp)
open PyProof.Rows (listItems_at)
open SeqAt
def aYu(A:Bl)(s:Ae)(y x:Value)(b:Bool):Prop:=
 ∀(prog:Ap)(w:Bh)(E:#v[a])(Q:#v[a]),Q (.bool b) s->Au #v[c] A (richCompare .Lt y x) Q E s
def LtN(n:Nat)(s:Ae)(y x:Value)(b:Bool):Prop:=∀A:Bl,A.units<=n->aYu A s y x b
def LtN.ints(n:Nat)(s:Ae)(a b:Int)(t u):LtN n s (.int a t) (.int b u) (decide (a<b)):=λA _ prog w E Q h=>Pj h
variable {s:Ae}{a b:Addr}{xs ys:Array Value}{n:Nat}
def jQ:List Int->List Int->Bool
 | [],[]=>false
 | [],_::_=>true
 |_::_,[]=>false
 |x::xs,y::ys=>if x=y then jQ xs ys else decide (x<y)
theorem aAt:∀x,jQ x x=false
 | []=>rfl
 |x::xs=>by rw[jQ,if_pos rfl];exact aAt xs
theorem aFg:∀x y,x≠y->jQ x y=true∨jQ y x=true
 | [],[],h=>absurd rfl h
 | [],_::_,_=> .inl rfl
 |_::_,[],_=> .inr rfl
 |x::xs,y::ys,h=>by
  unfold jQ;by_cases e:x=y
  ·subst e;rw[if_pos rfl,if_pos rfl];exact aFg xs ys λz=>h (by rw[z])
  ·rw[if_neg e,if_neg (Ci e),decide_eq_true_iff,decide_eq_true_iff]
   lia
theorem tY:∀x y z,jQ x y=true->jQ y z=true->jQ x z=true
 | [],[],_,h,_=>absurd h ⋯
 | [],_::_,[],_,h=>absurd h (by simp[jQ])
 | [],_::_,_::_,_,_=>rfl
 |_::_,[],_,h,_=>absurd h (by simp[jQ])
 |_::_,_::_,[],_,h=>absurd h (by simp[jQ])
 |x::xs,y::ys,z::zs,h1,h2=>by
  unfold jQ at h1 h2⊢;by_cases e1:x=y
  ·subst e1;rw[if_pos rfl]at h1;by_cases e2:x=z
   ·subst e2;rw[if_pos rfl]at h2⊢;exact tY xs ys zs h1 h2
   ·rw[if_neg e2]at h2⊢;exact h2
  ·rw[if_neg e1,decide_eq_true_iff]at h1;by_cases e2:y=z
   ·subst e2;rw[if_neg e1,decide_eq_true_iff];exact h1
   ·rw[if_neg e2,decide_eq_true_iff]at h2;rw[if_neg ∅,decide_eq_true_iff]
    lia
def aCp(x y:List Int)(h:jQ x y=true):jQ y x=false:=by
 cases e:jQ y x with
 |false=>rfl
 |true=>
  have:=tY x y x h e;rw[aAt]at this;cases this
variable {prog:Ap}{w:Bh}
def LtN.tups{a b:Addr}{x y:List Int}(ha:Jn (Fg prog w) s.heap x a)(hb:Jn (Fg prog w) s.heap y b)(hn:n+4<cLine):LtN n s (.ref a) (.ref b) (jQ x y):=by
 obtain⟨oa,ia,na,hoa,ca,da,ha⟩:=ha;obtain⟨ob,ib,nb,hob,cb,db,hb⟩:=hb;have Ta:s.TypeIs (.ref a) "tuple":=⟨oa,hoa,ca⟩;have Tb:s.TypeIs (.ref b) "tuple":=⟨ob,hob,cb⟩;intro A hA prog' w' E Q hQ;refine Rj (op:=.Lt) Ta Tb F.slot_tuple_lt (Le (Gg F.slot_tuple_lt.plain F.entry_tuple_lt (F.slot_tuple_lt.check _ _ _ _ _ _ _ _ Ta (F.args_tuple_lt_2 _ _) ?_))) ∅;show Au _ _ (Ki (.ref b) (.type "tuple")>>=_) _ _ s;refine Aa (Hx Tb Jr ?_)
 ac_rfl
 refine Aa (Iw hoa da ?_);refine Aa (Iw hob db ?_);refine Aa (Dc (Q:=λr s'=>s'=s/\(match r.1 with|some v=>v=.done (.ret (.bool (jQ x y)))|none=>jQ x y=decide (x.length<y.length))) ?_ (λr s' h=>?_) λ_ _ z=>z)
 ·clear hQ hoa hob da db ca cb Ta Tb;generalize ia.toList=us at ha⊢;generalize ib.toList=vs at hb⊢;induction ha generalizing y vs with
  |nil=>
   rw[List.zip_nil_left,Wm];refine Ad ⟨rfl,?_⟩;cases hb<;>rfl
  |@cons i u x us h1 t1 ih=>
   cases hb with
   |nil=>
    rw[List.zip_nil_right,Wm];exact Ad ⟨rfl,rfl⟩
   |@cons j v y vs h2 t2=>
    obtain⟨tu,rfl⟩:=Ej h1;obtain⟨tv,rfl⟩:=Ej h2;rw[Hz,Pn];refine Aa (Aa (Qu ?_));by_cases ij:i=j
    ·subst ij;rw[beq_self_eq_true]
     ac_rfl
     refine Ad ?_;dsimp only;have:=ih vs t2;have e1:jQ (i::x) (i::y)=jQ x y:=by rw[jQ,if_pos rfl]
     have e2:decide ((i::x).length<(i::y).length)=decide (x.length<y.length):=by simp
     rw[e1,e2];exact this
    ·rw[beq_eq_false_iff_ne.mpr ij];have e1:jQ (i::x) (j::y)=decide (i<j):=by rw[jQ,if_neg ij]
     rw[e1];simp only[Jb,if_true];refine Aa (Nk (Aa (LtN.ints (n+3) s i j tu tv A.in1 (by show A.units+1<=n+3;lia) prog' w' _ _ ?_)));exact Aa (Ad (Ad (Ad ⟨rfl,rfl⟩)))
 ·obtain⟨rfl,h⟩:=h;obtain⟨r,u⟩:=r;cases r with
  |some v=>
   have h:v=_:=h;subst h;exact Ad ⟨(λz=>nomatch z),hQ⟩
  |none=>
   have h:jQ x y=_:=h;rw[ha.length,hb.length,Aw,Aw]at h;refine Ad ⟨(λz=>nomatch z),?_⟩;rw[h]at hQ;exact hQ
section
variable {prog:Ap}{w:Bh}{K:Type} [DecidableEq K]{knd:Ii prog w K}{A:Bl}
structure Met(val:Nat->K)(adr:Nat->Addr)(i:Nat)(xs:List (K×Addr)):Prop where
 from':∀x∈xs,∃j,j<i/\x=(val j,adr j)
 all:∀j,j<i->∃x∈xs,x.1=val j
 len:xs.length<=i
def nY{R:Mg->Ae->Prop}{I:Addr}{G:Array Hl->Array Hl->Prop}{n:Nat}{St:Nat->Ae->Prop}
  (D:tH knd) (W:WalksS prog w A.in1 I fp wr G n P St) (S:Addr) (hSf:S∉fp) (hu:knd.room A.in1) (l:Bool)
  (val:Nat->K) (adr:Nat->Addr) (hval:∀i v,P i v->v=.ref (adr i)) (hn:∀i xs,i<n->Met val adr i xs->(xs.map (·.1)).Nodup->xs.length<300) (hnt:∀i s,St i s->∀b∈wr,∀o,s.heap.get? b=some o->o.cls≠.type "tuple"):
  ∀(k i:Nat)(s:Ae)(xs:List (K×Addr)),n-i=k->i<=n->St i s->(∀j,j<n->knd.is s.heap (val j) (adr j))->
   lA knd s S l xs->Met val adr i xs->
   (∀s' xs',Moved (S::wr) G s s'->lA knd s' S l xs'->Met val adr n xs'->(∀b o,o.cls=.type "tuple"->s.heap.get? b=some o->s'.heap.get? b=some o)->R (.ok (.ret .none)) s')->
   Gr #v[c] A (.builtin "set.update.loop" ⟨[.ref S,.ref I],[]⟩) R s:=by
 have hSw:S∉wr:=λh=>hSf (W.sub _ h);have hsub:∀b∈wr,b∈S::wr:=λb hb=>Ag _ hb;intro k;induction k with
 |zero=>
  intro i s xs hk hi hst hkey hS hm0 hR;have hin:i=n:=by lia
  subst hin;refine Ee Ek ?_;rw[Di Ca _];show Au _ A.in1 (Ox (.ref I)>>=_) _ _ s;refine Aa (W.done s _ _ hst λs' hm=>?_);have ht:∀b o,o.cls=.type "tuple"->s.heap.get? b=some o->s'.heap.get? b=some o:=λb o hc e=>hm.heap b o (λhb=>hnt _ _ hst b hb o e hc) e;show Au _ A.in1 (ret Cb) _ _ s';exact Ad (hR s' xs (hm.mono hsub) (hS.at D (λo e=>hm.heap S o hSw e) ht) hm0 ht)
 |succ k ih=>
  intro i s xs hk hi hst hkey hS hm0 hR;have hlt:i<n:=by lia
  refine Ee Ek ?_;rw[Di Ca _];show Au _ A.in1 (Ox (.ref I)>>=_) _ _ s;refine Aa (W.item i s _ _ hlt hst λv s' hP hst' hm=>?_);obtain rfl:=hval i v hP;have ht:∀b o,o.cls=.type "tuple"->s.heap.get? b=some o->s'.heap.get? b=some o:=λb o hc e=>hm.heap b o (λhb=>hnt _ _ hst b hb o e hc) e;have hS':=hS.at D (λo e=>hm.heap S o hSw e) ht;have hk':∀j,j<n->knd.is s'.heap (val j) (adr j):=λj hj=>D.mono (hkey j hj) ht;show Au _ A.in1 (holding [Aj (adr i)] (setAdd S (.ref (adr i)))>>=_) _ _ s';refine Aa (Cg ?_);unfold setAdd;refine Cg ?_;refine Aa (knd.pyHash (k:=val i) hu (hk' i hlt) ?_);have hS2:lA knd {s' with toks:=s'.toks+knd.draws (val i)} S l xs:=hS'.at D (λ_ e=>e) λ_ _ _ e=>e;refine oZ D hS2 (hn i xs hlt hm0 (by obtain⟨_,_,_,_,z,_⟩:=hS2;exact z.nd)) hu (hk' i hlt) (λhold=>?_) (λhnew h' xs' hsb pm S3=>?_)
  ·refine Ad ⟨Gb Ca _,ih (i+1) _ xs ∅ hlt (W.frame _ s' _ _ hst' (Lc _ _) λb hb o e=>e) hk' hS2 ⟨λx hx=>?_,λj hj=>?_,by have:=hm0.len;lia⟩ λs'' xs'' hm'' S'' M'' ht''=>?_⟩
   ·obtain⟨j,h1,h2⟩:=hm0.from' x hx;exact⟨j,∅,h2⟩
   ·by_cases e:j=i
    ·subst e;exact hold
    ·exact hm0.all j ∅
   ·exact hR s'' xs'' (Sq W.gtrans ((hm.mono hsub).then_heap (Lc _ _) λb o hb e=>e) hm'') S'' M'' λb o hc e=>ht'' b o hc (ht b o hc e)
  ·have hSt:∀b o,o.cls=.type "tuple"->s'.heap.get? b=some o->h'.get? b=some o:=λb o hc e=>by
    have ne:b≠S:=by
     rintro rfl;obtain⟨o2,_,_,_,z,_⟩:=hS';rw[z.ho]at e;cases e;rw[z.hex.1]at hc;exact absurd hc ⋯
    rw[hsb.2 b ne];exact e
   refine Ad ⟨Gb Ca _,ih (i+1) _ xs' ∅ hlt (W.frame _ s' _ _ hst' (Lc _ _) λb hb o e=>?_) (λj hj=>D.mono (hk' j hj) hSt) S3 ⟨λx hx=>?_,λj hj=>?_,by have:=hm0.len;rw[pm.length_eq,Aq];lia⟩ λs'' xs'' hm'' S'' M'' ht''=>?_⟩
   ·rw[hsb.2 b (λh:b=S=>hSf (by rw[<-h];exact hb))];exact e
   ·rcases Ao.mp (pm.mem_iff.mp hx)with e|m
    ·exact⟨i,∅,e⟩
    ·obtain⟨j,h1,h2⟩:=hm0.from' x m;exact⟨j,∅,h2⟩
   ·by_cases e:j=i
    ·subst e;exact⟨_,pm.mem_iff.mpr Ah,rfl⟩
    ·obtain⟨x,hx,ex⟩:=hm0.all j ∅;exact⟨x,pm.mem_iff.mpr (Ag _ hx),ex⟩
   ·refine hR s'' xs'' (Sq W.gtrans ((hm.mono hsub).then_heap (Lc _ _) λb o hb e=>?_) hm'') S'' M'' λb o hc e=>ht'' b o hc (hSt b o hc (ht b o hc e));rw[hsb.2 b (λh:b=S=>hb (by rw[h];exact Ah))];exact e
end
variable {A:Bl}{E:#v[a]}
def aBm(a:Value){Q₁:#v[a]}
  (h:Q₁ (.ref #v[0]) {s with heap:=s.heap.push {cls:=.type "set",dict:=none,data:=.set #[] 0 (.fresh 0 0 (!w.params.followText "set-order"))}}):
  Gr #v[c] A (.call (.builtin "set.__new__") ⟨[.type "set",a],[]⟩) (wants Q₁ E) s:=by
 refine Rn ?_;show Au _ A.in1 (do Gx "set.__new__" ⟨[.type "set",a],[]⟩;again (.builtin "set.__new__" ⟨[.type "set",a],[]⟩)) _ _ s;refine Aa (Wb (F.newCall_set_1 a) (Ad ⟨Gb Xy _,Ee F.entry_set_new ?_⟩));rw[Di Xy _];unfold Builtin.«set.__new__» Vs;have hsub:=sub_set_self;obtain⟨hp,g,d,tk,os⟩:=s;dsimp only
 wp_walk
 refine Jz (Ad ?_);dsimp only;simp only[newObj];refine Aa (wpAny_alloc (Ad ?_));exact Ad h
section
variable {prog:Ap}{w:Bh}{K:Type} [DecidableEq K]{knd:Ii prog w K}{A:Bl}{E:#v[a]}{s:Ae}
def lA.fresh(s:Ae){a:Addr}(l:Bool)(h:s.heap.get? a=some {cls:=.type "set",dict:=none,data:=.set #[] 0 (.fresh 0 0 l)}):lA knd s a l []:=
 ⟨_, #[],0,_,⟨h,⟨rfl,rfl,rfl⟩,rfl,rfl,⟨rfl,λi k h1 h2=>absurd h2 (Dz _),λj hj=>(nomatch hj),Bt _,SetTable.aUs⟩,rfl,λx hx=>(nomatch hx),Wk,λi j x h1 h2=>(nomatch h2)⟩,.inl ⟨rfl,Bt _⟩,rfl,rfl⟩
def aS5(prog:Ap)(w:Bh)(n:Nat)(P:Nat->Value->Prop)(u:Nat)(s:Ae)(S:Addr)(led:Bool)(Z:Ae->Prop):Prop:=
 ∀{A:Bl}{R:Mg->Ae->Prop}{I:Addr}{fp wr:List Addr}{G:Array Hl->Array Hl->Prop}{St:Nat->Ae->Prop}(s1:Ae),WalksS prog w A.in1 I fp wr G n P St->S∉fp->A.in1.units<=u+8->
  (∀i s,St i s->∀b∈wr,∀o,s.heap.get? b=some o->o.cls≠.type "tuple")->St 0 s1->(∀b o,s.heap.get? b=some o->s1.heap.get? b=some o)->s1.heap.get? S=some {cls:=.type "set",dict:=none,data:=.set #[] 0 (.fresh 0 0 led)}->
  (∀s',Moved (S::wr) G s1 s'->Z s'->R (.ok (.ret .none)) s')->Gr #v[c] A (.builtin "set.update.loop" ⟨[.ref S,.ref I],[]⟩) R s1
def uU{Q:#v[a]}(Z:Ae->Prop)(hh:A.handled=none)(hl:s.heap.IsList l items)
  (L:aS5 prog w items.size (λi v=>items[i]? =some v) A.units s #v[0] (!w.params.followText "set-order") Z)
  (h:∀(h':Heap)(tk:Nat),Z {s with heap:=h',toks:=tk}->(∀b o,b<#v[0]->s.heap.get? b=some o->h'.get? b=some o)->Q (.ref #v[0]) {s with heap:=h',toks:=tk}):
  Au #v[c] A (call (.type "set") [.ref l]) Q E s:=by
 obtain⟨c,tl,hmro⟩:=F.called_set.mro;have hmade:=F.called_set.made;have hsub:=F.called_set.sub;refine Le (Rn ?_);show Au _ _ (callAny (.type "set") _) _ _ _;refine Ad ⟨Kg _ #v[3],Ee F.entry_type_call ?_⟩;rw[Around.under_plain (weight_type_call_type "set" [.ref l] []) rfl];have h1:=F.called_set.notType;have h2:=F.called_set.canCreate;have hct:=F.typeCall_set_1 (.ref l)
 repeat (any_goals (first|assumption|wp_step))
 generalize hled:(!w.params.followText "set-order")=led at L;refine Js (aBm (.ref l) (E:=E) (Q₁:=λobj s₁=>obj=.ref #v[0]/\s₁={s with heap:=s.heap.push {cls:=.type "set",dict:=none,data:=.set #[] 0 (.fresh 0 0 led)}}) ⟨rfl,by rw[hled]⟩) λr s₁ hr=>?_;cases r with
 |error e=>exact hr
 |ok fl=>
  cases fl with
  |ret obj=>
   obtain⟨rfl,rfl⟩:=hr;have hS:(s.heap.push {cls:=.type "set",dict:=none,data:=.set #[] 0 (.fresh 0 0 led)}).get? #v[0]=some {cls:=.type "set",dict:=none,data:=.set #[] 0 (.fresh 0 0 led)}:=Ba _ rfl;have hT:Qk {s with heap:=s.heap.push {cls:=.type "set",dict:=none,data:=.set #[] 0 (.fresh 0 0 led)}} (.ref #v[0]) "set":=⟨_,hS,rfl⟩;have hli:=F.called_set.init.lookup;have hbi:=F.called_set.init.bind (.ref #v[0])
   repeat (any_goals (first|assumption|wp_step))
   refine Js (Gg (R:=wants (λr s₂=>r=.none/\∃h' tk,s₂={s with heap:=h',toks:=tk}/\Z {s with heap:=h',toks:=tk}/\
     (∀b o,b<#v[0]->s.heap.get? b=some o->h'.get? b=some o)) E) F.called_set.init.plain F.entry_set_init (check_set_init_1 hT ?_)) λr₂ s₂ hr₂=>?_
   ·obtain⟨ol,hol,hcl,nl,hdl⟩:=hl;obtain⟨ocls,odict,odata,oslots⟩:=ol;simp only at hcl hdl;subst hcl;subst hdl;have hol':(s.heap.push {cls:=.type "set",dict:=none,data:=.set #[] 0 (.fresh 0 0 led)}).get? l=some {cls:=.type "list",dict:=odict,data:=.seq items nl,slots:=oslots}:=Af _ hol;have hsls:=F.sub_list_set;have hslf:=F.sub_list_frozenset;have hne:(Fc "list"==Fc "dict")=false:=by decide
    have hl1:(s.heap.push {cls:=.type "set",dict:=none,data:=.set #[] 0 (.fresh 0 0 led)}).IsList l items:=⟨_,hol',rfl,nl,rfl⟩;unfold Builtin.«set.__init__» noKeywords Vp;generalize hPI:Zb=PI
    wp_walk
    subst hPI;refine Pq hl1 ?_;refine Aa (wpAny_runValue ?_);have hlS:l<#v[0]:=Ar hol;have hh3:A.in1.in1.in1.handled=none:=by simp[hh]
    have hneI:l≠(s.heap.push {cls:=.type "set",dict:=none,data:=.set #[] 0 (.fresh 0 0 led)}).objs.size:=by
     rw[Dd];exact Be (Hi hlS)
    have hSf:#v[0]∉[(s.heap.push {cls:=.type "set",dict:=none,data:=.set #[] 0 (.fresh 0 0 led)}).objs.size,l]:=by
     rw[Dd];simp only[Ao,Br,Ck,or_false,not_or];exact⟨Be (Fs _),Ma hlS⟩
    have keep2:∀b o,s.heap.get? b=some o->((s.heap.push {cls:=.type "set",dict:=none,data:=.set #[] 0 (.fresh 0 0 led)}).push {cls:=.type "list_iterator",data:=.fields #[.ref l,.int 0 0]}).get? b=some o:=λb o e=>Af _ (Af _ e);refine L _ ((Tn hh3 _ l hneI items).toS) hSf (by simp[Around.in1]) ?hnt ⟨⟨_,Ba _ rfl,rfl,rfl⟩,(hl1.push _)⟩ keep2 (Af _ hS) ?hR
    case hnt=>
     rintro i s2 ⟨⟨o2,g1,g2,_⟩,_⟩ b hb o e hc;have hb:=Br.mp hb;subst hb;rw[g1]at e;cases e;rw[g2]at hc;exact absurd hc ⋯
    case hR=>
     intro s' hm hS';obtain⟨h',g',d',tk',os'⟩:=s';have eg:g'=s.gens:=hm.gens;have ed:d'=s.drawn:=hm.drawn;have eo:os'=s.os:=hm.os;subst eg;subst ed;subst eo;show Au _ _ _ _ _ _;refine Ad ?_;show Au _ _ (ret Cb) _ _ _;refine Ad ⟨rfl,h',tk',rfl,hS',λb o hb e=>?_⟩;have hb1:b≠#v[0]:=Be hb;have hb2:b≠(s.heap.push {cls:=.type "set",dict:=none,data:=.set #[] 0 (.fresh 0 0 led)}).objs.size:=by
      rw[Dd];exact Be (Hi hb)
     exact hm.heap b o (by simp only[Ao,Br,Ck,or_false,not_or];exact⟨hb1,hb2⟩) (keep2 b o e)
   ·cases r₂ with
    |error e=>exact hr₂
    |ok fl₂=>
     cases fl₂ with
     |ret r=>
      obtain⟨rfl,h',tk,rfl,hS',hk'⟩:=hr₂
      repeat (any_goals (first|assumption|wp_step))
      exact h _ _ hS' hk'
     |_=>exact hr₂.elim
  |_=>exact hr.elim
def aAd{val:Nat->K}{adr:Nat->Addr}{Q:#v[a]}(D:tH knd)(hu:∀A':Bl,A'.units<=A.units+8->knd.room A')
  (hh:A.handled=none) (hl:s.heap.IsList l items) (hi:∀(i:Nat)(v:Value),items[i]? =some v->v=Aj (adr i)) (hk:∀j,j<items.size->knd.is s.heap (val j) (adr j)) (hb:∀i xs,i<items.size->Met val adr i xs->(xs.map (·.1)).Nodup->xs.length<300)
  (h:∀(h':Heap)(tk:Nat)(xs:List (K×Addr)),lA knd {s with heap:=h',toks:=tk} #v[0] (!w.params.followText "set-order") xs->Met val adr items.size xs->
   (∀b o,b<#v[0]->s.heap.get? b=some o->h'.get? b=some o)->Q (.ref #v[0]) {s with heap:=h',toks:=tk}):
  Au #v[c] A (call (.type "set") [.ref l]) Q E s:=
 uU (λs'=>∃xs,lA knd s' #v[0] (!w.params.followText "set-order") xs/\Met val adr items.size xs) hh hl
  (λs1 W hSf hA hnt st kp hS hR=>nY D W #v[0] hSf (hu _ hA) _ val adr hi hb hnt (items.size-0) 0 s1 [] ∅ (Bt _) st (λj hj=>D.mono (hk j hj) λb o _ e=>kp b o e) (lA.fresh _ _ hS) ⟨λx hx=>(nomatch hx),λj hj=>absurd hj (Dz _),Bt _⟩ λs' xs' hm S M _=>hR s' hm ⟨xs',S,M⟩)
  λh' tk ⟨xs,S,M⟩ kp=>h h' tk xs S M kp
end
open PyProof.Rows PySem.W
structure zY{prog:Ap}{w:Bh}{α:Type} [DecidableEq α](knd:Ii prog w α)(ok:α->Prop)(lt:α->α->Bool):Prop where
 set:tH knd
 tot:∀x y,x≠y->lt x y=true∨lt y x=true
 asym:∀x y,lt x y=true->lt y x=false
 trans:∀x y z,lt x y=true->lt y z=true->lt x z=true
 first:∀{h:Heap}{k:α}{a:Addr},ok k->knd.is h k a->∃o items n i tk,h.get? a=some o/\o.cls=.type "tuple"/\o.data=.seq items n/\items[0]? =some (Df i tk)
 cmp:∀{A:Bl}{E:#v[a]}{b:Bool}{s:Ae}{x y:α}{p q:Addr}{Q:Bool->Ae->Prop},A.units+10<cLine->knd.is s.heap x p->knd.is s.heap y q->Q (lt x y) s->Au #v[c] A (keyLt' (tuples' b) (.ref p) (.ref q)) Q E s
section
variable {prog:Ap}{w:Bh}{A:Bl}{E:#v[a]}{s:Ae}{α:Type} [DecidableEq α] [Inhabited α]{knd:Ii prog w α}{ok:α->Prop}{lt:α->α->Bool}
def wK(knd:Ii prog w α)(ok:α->Prop)(h:Heap)(xs:List (α×Addr)):Prop:=∀x∈xs,ok x.1/\knd.is h x.1 x.2
def wK.mono(O:zY knd ok lt){h h':Heap}{xs:List (α×Addr)}(T:wK knd ok h xs)(hs:∀b o,o.cls=.type "tuple"->h.get? b=some o->h'.get? b=some o):wK knd ok h' xs:=λx hx=>⟨(T x hx).1,O.set.mono (T x hx).2 hs⟩
def wK.kat(O:zY knd ok lt){h:Heap}:∀{xs:List (α×Addr)},wK knd ok h xs->∃fs:List Value,fs.length=xs.length/\(∀v∈fs,∃i tk,v=Df i tk)/\KatTups h (xs.map λx=>Aj x.2) fs
 | [],_=>⟨[],rfl,λv hv=>(nomatch hv),KatTups.nil⟩
 |x::xs,T=>by
  obtain⟨fs,f1,f2,f3⟩:=wK.kat O (xs:=xs) λy hy=>T y (Ag _ hy);obtain⟨o,items,n,i,tk,ho,hc,hd,hf⟩:=O.first (T x Ah).1 (T x Ah).2;refine⟨.int i tk::fs,by rw[Aq,Aq,f1],λv hv=>?_,KatTups.cons ho hc hd hf f3⟩;rcases Ao.mp hv with rfl|hv
  ·exact⟨_,_,rfl⟩
  ·exact f2 v hv
def aCt{α:Type}{xs:List α}{p:List Nat}(hp:p.Perm (Cj xs.length)):(p.filterMap λi:Nat=>xs[i]?).Perm xs:=by
 have:=hp.filterMap λi:Nat=>xs[i]?;rw[qN]at this;exact this
def aR8(prog:Ap)(w:Bh)(A:Bl)(E:#v[a])(lt:α->α->Bool)(xs:List (α×Addr))(s:Ae):Prop:=∀b,Au #v[c] A ((sortRuns').run (SortSt.mk' (tuples' b) ((xs.map λx=>Aj x.2).toArray.zip (xs.map λx=>Aj x.2).toArray) #[] 7 none)) (λr s'=>s'=s/\∃p:Array Nat,p.size=xs.length/\arrOf r.2=p.map (kas_item ((xs.map λx=>Aj x.2).toArray.zip (xs.map λx=>Aj x.2).toArray))/\failedOf r.2=none/\lV xs.length p/\mV (λi j=>lt (xs.getD i (default,0)).1 (xs.getD j (default,0)).1) p xs.length) E s
def aQt(O:zY knd ok lt)(hu:A.units+20<cLine){xs:List (α×Addr)}(T:wK knd ok s.heap xs){b:Bool}{i j:Nat}{C:Bool->Ae->Prop}(hi:i<xs.length)(hj:j<xs.length)(hC:C (lt (xs.getD i (default,0)).1 (xs.getD j (default,0)).1) s):kas_ask prog w A (tuples' b) (xs.map λx=>Aj x.2) i j C s:=by
 have keyd:∀i,i<xs.length->xs[i]? =some (xs.getD i (default,0))/\(xs.map λx=>Aj x.2).getD i Cb=.ref (xs.getD i (default,0)).2:=λi hi=>by simp[Je,hi]
 obtain⟨a1,a2⟩:=keyd i hi;obtain⟨b1,b2⟩:=keyd j hj;show Au _ _ (keyLt' _ ((xs.map λx=>Aj x.2).getD i Cb) ((xs.map λx=>Aj x.2).getD j Cb)) _ _ _;rw[a2,b2];exact O.cmp ∅ (T _ (Cf a1)).2 (T _ (Cf b1)).2 hC
def aDx(O:zY knd ok lt){a:Addr}{xs:List (α×Addr)}{n:Nat}{P:Fin->Ae->Prop}(ho:s.heap.get? a=some (Jh "list" (xs.map λx=>Aj x.2).toArray n))
  (T:wK knd ok s.heap xs) (hz:xs.length<=10000) (run:∀s1:Ae,wK knd ok s1.heap xs->2<=xs.length->aR8 prog w A E lt xs s1)
  (h:∀ys:List (α×Addr),ys.Perm xs->ys.Pairwise (λx y=>lt x.1 y.1=true)->P (.done (.ret .none)) {s with heap:=Su s.heap a (xs.map λx=>Aj x.2) (ys.map λx=>Aj x.2).toArray}):
  Au #v[c] A (Builtin.«list.sort» ⟨[.ref a],[]⟩) P E s:=by
 rw[list_sort_plain];have ha:a<#v[0]:=Ar ho;generalize hvs:(xs.map λx=>Aj x.2)=vs at ho h;have vl:vs.length=xs.length:=by rw[<-hvs,Ac]
 refine Aa (listItems_at ho rfl ?_);refine Aa (Ti ho rfl ?_ (by rw[Ai,Dv];lia) (Bt _));obtain⟨e1,ho1⟩:∃e1,(s.heap.update a (Et λ_=> #[])).get? a=some (Jh "list" #[] e1):=⟨_,get?_update_seq ho (λ_=> #[])⟩;refine Aa (Wd ho1 rfl ?_);refine Aa (wpAny_newTuple ?_ (by show vs.length<=_;rw[Dv];lia));refine Aa (Sy ?_ (Bt _));refine Cg ?_;have kp:∀b o,b≠a->s.heap.get? b=some o->(((s.heap.update a (Et λ_=> #[])).push (Jh "tuple" vs.toArray 0)).push (Jh "list" #[] 0)).get? b=some o:=λb o hb e=>
  Af _ (Af _ ((Bj _ _ (Ci hb)).trans e))
 have ho6:(((s.heap.update a (Et λ_=> #[])).push (Jh "tuple" vs.toArray 0)).push (Jh "list" #[] 0)).get? a=some (Jh "list" #[] e1):=Af _ (Af _ ho1);show Au #v[c] A _ P E {s with heap:=((s.heap.update a (Et λ_=> #[])).push (Jh "tuple" vs.toArray 0)).push (Jh "list" #[] 0)};dsimp only;generalize hH:((s.heap.update a (Et λ_=> #[])).push (Jh "tuple" vs.toArray 0)).push (Jh "list" #[] 0)=H at ho6 kp;have T6:wK knd ok H xs:=T.mono O λb o hc e=>kp b o (λz=>by subst z;rw[ho]at e;cases e;exact absurd (show Fc "list"=Fc "tuple" from hc) ⋯) e;have fin:∀out:Array Value,Su s.heap a vs out=H.update a (Et λ_=>out):=λout=>by rw[<-hH];rfl
 by_cases h2:vs.toArray.size<2
 ·rw[if_pos h2,if_pos h2];refine Aa (Ad ?_);rw[StateT.run_pure];refine Aa (Ad ?_);dsimp only;refine Aa (Wd ho6 rfl ?_);have ev:(pairsOf vs).map (·.2)=vs.toArray:=by
   apply Array.toList_inj.mp;rw[Array.toList_map,pairsOf_toList];exact List.map_snd_zip (Am _)
  have hz:((pairsOf vs).map (·.2)).size<=sizeLine+1:=by rw[ev,Ai,Dv];lia
  refine Aa (Ti ho6 rfl ?_ (Bt _) hz);simp only[bne_self_eq_false,Dx,if_false];refine Ad ?_;have q:=h xs (Ih _) (by
   rw[Ai,vl]at h2;match xs,h2 with
   | [],_=>exact .nil
   | [x],_=>exact Ia _ _)
  rw[fin,hvs]at q;have q':P (.done (.ret .none)) {s with heap:=H.update a (Et λ_=>(pairsOf vs).map (·.2))}:=by rw[ev];exact q
  exact q'
 ·rw[if_neg h2,if_neg h2];rw[Ai]at h2;obtain⟨fs,f1,f2,f3⟩:=wK.kat O T6;rw[hvs]at f3;refine Aa (kat_kind (T:=Fc "int") f3 ∅ (λv hv=>?_) rfl ?_)
  ·obtain⟨i,tk,rfl⟩:=f2 v hv;exact Looks.of_pure rfl
  ·have keyd:∀i,i<xs.length->xs[i]? =some (xs.getD i (default,0))/\vs.getD i Cb=.ref (xs.getD i (default,0)).2:=λi hi=>by
    rw[<-hvs];simp[Je,hi]
   have rn:=run {s with heap:=H} T6 ∅;unfold aR8 at rn;rw[hvs]at rn;refine Aa (Dc (rn _) ?_ λ_ _ e=>e);rintro⟨⟨⟩,st'⟩ s' ⟨rfl,p,hp,har,hf,hT,hR⟩;dsimp only;have hout:=kat_snds rfl har;have pm:p.toList.Perm (Cj xs.length):=hT;have ey:(p.toList.map λi=>vs.getD i Cb)=(p.toList.filterMap λi:Nat=>xs[i]?).map λx=>Aj x.2:=by
    rw[Tv];have:∀l:List Nat,(∀i∈l,i<xs.length)->(l.map λi=>vs.getD i Cb)=l.filterMap λi:Nat=>(xs[i]?).map λx=>Aj x.2:=by
     intro l;induction l with
     |nil=>intro _;rfl
     |cons i l ih=>
      intro hl;obtain⟨a1,a2⟩:=keyd i (hl i Ah);rw[Da,Jy,a1,ih λj hj=>hl j (Ag _ hj),a2];rfl
    exact this _ λi hi=>Cc.mp (pm.mem_iff.mp hi)
   have hsz:(Xu (p.toList.map λi=>vs.getD i Cb)).size<=sizeLine+1:=by rw[Ai,Ac,Aw,hp,Dv];lia
   refine Aa (Wd ho6 rfl ?_);rw[hout];refine Aa (Ti ho6 rfl ?_ (Bt _) hsz);rw[hf];simp only[bne_self_eq_false,Dx,if_false];refine Ad ?_;have q:=h (p.toList.filterMap λi:Nat=>xs[i]?) (aCt pm) (by
    rw[Qp];intro i j hi hj hij;have pl:p.toList.length=xs.length:=by rw[pm.length_eq,Fe]
    have fl:=(aCt pm).length_eq;have gt:∀r,(hr:r<(p.toList.filterMap λi:Nat=>xs[i]?).length)->(p.toList.filterMap λi:Nat=>xs[i]?)[r]=xs.getD (vAt p r) (default,0):=λr hr=>by
     have hr':r<p.toList.length:=by lia
     have e1:=filterMap_get (f:=λi:Nat=>xs[i]?) (l:=p.toList) (λi hi=>⟨_,Ak (Cc.mp (pm.mem_iff.mp hi))⟩) r;rw[Ak hr,Ak hr']at e1;have e2:vAt p r=p.toList[r]:=by rw[jL, <-Cm,Ak hr'];rfl
     rw[e2];have lt:p.toList[r]<xs.length:=Cc.mp (pm.mem_iff.mp (Ew hr'));have e3:(some p.toList[r]).bind (λi:Nat=>xs[i]?)=some (xs.getD p.toList[r] (default,0)):=(keyd _ lt).1;rw[e3]at e1;exact Bq e1
    rw[gt i hi,gt j hj];exact hR i j hij ∅)
   rw[fin, <-ey]at q;exact q
def aAv(O:zY knd ok lt)(hu:A.units+20<cLine){a:Addr}{xs:List (α×Addr)}{n:Nat}{P:Fin->Ae->Prop}(ho:s.heap.get? a=some (Jh "list" (xs.map λx=>Aj x.2).toArray n))
  (T:wK knd ok s.heap xs) (nd:(xs.map (·.1)).Nodup) (h64:xs.length<64)
  (h:∀ys:List (α×Addr),ys.Perm xs->ys.Pairwise (λx y=>lt x.1 y.1=true)->P (.done (.ret .none)) {s with heap:=Su s.heap a (xs.map λx=>Aj x.2) (ys.map λx=>Aj x.2).toArray}):
  Au #v[c] A (Builtin.«list.sort» ⟨[.ref a],[]⟩) P E s:=by
 refine aDx O ho T ∅ (λs1 T1 h2 b=>?_) h;have S:pC xs.length λi j=>lt (xs.getD i (default,0)).1 (xs.getD j (default,0)).1:=by
  refine⟨λi j hi hj ne=>O.tot _ _ λz=>ne ?_,λi j=>O.asym _ _,λi j k=>O.trans _ _ _⟩;have li:i<(xs.map (·.1)).length:=by rw[Ac];exact hi
  have lj:j<(xs.map (·.1)).length:=by rw[Ac];exact hj
  refine(Ot (h₀:=li) (h₁:=lj) nd).mp ?_;simpa[Je,hi,hj]using z
 have wy:=aOi S ∅;have vl:(xs.map λx=>Aj x.2).length=xs.length:=Ac ..;refine kat_run (Q:=λst' s'=>s'=s1/\∃p:Array Nat,p.size=xs.length/\arrOf st'=p.map (kas_item ((xs.map λx=>Aj x.2).toArray.zip (xs.map λx=>Aj x.2).toArray))/\failedOf st'=none/\lV xs.length p/\mV (λi j=>lt (xs.getD i (default,0)).1 (xs.getD j (default,0)).1) p xs.length) (G:=λp s'=>s'=s1/\lV xs.length p/\mV (λi j=>lt (xs.getD i (default,0)).1 (xs.getD j (default,0)).1) p xs.length) rfl ∅ ∅ (λp st' s' a1 a2 a3 a4=>⟨a4.1,p,a1.trans vl,a2,a3,a4.2⟩) ?_;rw[vl];exact KasT.way_wp (lt:=λi j=>lt (xs.getD i (default,0)).1 (xs.getD j (default,0)).1) (P:=(·<xs.length)) (λi j C hi hj hC=>aQt O hu T1 hi hj hC) (λp hp=>⟨rfl,hp⟩) _ wy
def aHl(O:zY knd ok lt)(hu:A.units+30<cLine){S:Addr}{xs:List (α×Addr)}{Q:#v[a]}(hh:A.handled=none)(I:lA knd s S (!w.params.followText "set-order") xs)(ne:∀x∈xs,ok x.1)(h64:xs.length<64)
  (h:∀(h':Heap)(tk:Nat)(l:Addr)(e:Nat)(ys:List (α×Addr)),ys.Perm xs->ys.Pairwise (λx y=>lt x.1 y.1=true)->#v[0]<=l->h'.get? l=some (Jh "list" (ys.map λx=>Aj x.2).toArray e)->
   (∀b o,s.heap.get? b=some o->h'.get? b=some o)->Q (.ref l) {s with heap:=h',toks:=tk}):
  Au #v[c] A (call (.builtin "sorted") [.ref S]) Q E s:=by
 obtain⟨o,es,ep,t,I,sm,pl,ld⟩:=I;refine Qh kind_sorted plain_sorted entry_sorted (args_sorted1 _) ?_;unfold Builtin.«sorted»;refine Aa (m:=checkCount "sorted" 1 1 _) (Ad ?_);have esz:es.size<64:=by rw[I.len];exact h64
 refine Aa (nO (by simpa using hh) I.ho I.hex I.hd I.fits I.good.rise pl ld (by rw[Dv];lia) λh1 tk1 s1 k1=>?_);have op:=jV w S es ep;have eo:es.toList.map (·.2)=xs.map λx=>Aj x.2:=by rw[I.he,Cp];rfl
 rw[eo]at op;obtain⟨zs,pz,ez⟩:∃zs:List (α×Addr),zs.Perm xs/\gD w S es ep=zs.map λx=>Aj x.2:=by
  have:∀{l:List Value}{xs:List (α×Addr)},l.Perm (xs.map λx=>Aj x.2)->∃zs:List (α×Addr),zs.Perm xs/\l=zs.map λx=>Aj x.2:=λ{l xs} hp=>by
   generalize hm:(xs.map λx=>Aj x.2)=m at hp;induction hp generalizing xs with
   |nil=>exact⟨xs,Ih _,hm.symm⟩
   |cons a p ih=>
    match xs,hm with
    |x::xs,hm=>
     obtain⟨e1,e2⟩:=Fh hm;obtain⟨zs,z1,z2⟩:=ih e2;exact⟨x::zs,z1.cons x,by rw[z2, <-e1];rfl⟩
   |swap a b l=>
    match xs,hm with
    |x::y::xs,hm=>
     obtain⟨e1,e2⟩:=Fh hm;obtain⟨e2,e3⟩:=Fh e2;exact⟨y::x::xs,Ol _ _ _,by rw[<-e1, <-e2, <-e3];rfl⟩
   |trans p1 p2 ih1 ih2=>
    obtain⟨zs,z1,z2⟩:=ih2 hm;obtain⟨us,u1,u2⟩:=ih1 z2.symm;exact⟨us,u1.trans z1,u2⟩
  exact this op
 rw[ez];have zl:zs.length=xs.length:=pz.length_eq;refine Aa (Sy ?_ (by rw[Ac,Dv];lia));have hoL:(h1.push (Jh "list" (zs.map λx=>Aj x.2).toArray 0)).get? h1.objs.size=some (Jh "list" (zs.map λx=>Aj x.2).toArray 0):=Ba _ rfl;have T1:wK knd ok (h1.push (Jh "list" (zs.map λx=>Aj x.2).toArray 0)) zs:=λx hx=>⟨ne x (pz.mem_iff.mp hx),O.set.mono (I.keys x (pz.mem_iff.mp hx)) λb o _ e=>Af _ (k1 b o e)⟩;refine Aa (Cg (Ga slot_list_sort ⟨_,hoL,rfl⟩ entry_list_sort (aAv O (by first|lia|(show A.units+1+20<cLine;lia)|(show A.units+2+20<cLine;lia)|(show A.units+3+20<cLine;lia)) hoL T1 (by rw[(pz.map (·.1)).nodup_iff];exact I.nd) ∅ λys py hy=>⟨_,rfl,?_⟩) (args_list_sort _)));refine Ad ⟨_,rfl,?_⟩;obtain⟨e,he⟩:=sortedHeap_at (out:=(ys.map λx=>Aj x.2).toArray) hoL;refine h _ tk1 _ e ys (py.trans pz) hy (Mc s1) he λb o q=>?_;have hb:b<h1.objs.size:=Ar (k1 b o q);rw[sortedHeap_old (Be hb) (by rw[Dd];exact Hi hb)];exact Af _ (k1 b o q)
end
def pL(x y:Int×List Int):Bool:=if x.1=y.1 then jQ x.2 y.2 else decide (x.1<y.1)
def aIl(hv:∀k v,(Fg prog w).is k v=true->∃i tk,v=Df i tk):zY (mG (Fg prog w)) (λ_=>True) pL where
 set:=aNj hv
 tot:=λx y ne=>by
  unfold pL;by_cases e:x.1=y.1
  ·rw[if_pos e,if_pos e.symm];exact aFg _ _ λz=>ne (Pb e z)
  ·rw[if_neg e,if_neg (Ci e),decide_eq_true_iff,decide_eq_true_iff]
   lia
 asym:=λx y h=>by
  unfold pL at h⊢;by_cases e:x.1=y.1
  ·rw[if_pos e]at h;rw[if_pos e.symm];exact aCp _ _ h
  ·rw[if_neg e,decide_eq_true_iff]at h;rw[if_neg (Ci e),decide_eq_false_iff_not]
   lia
 trans:=λx y z h1 h2=>by
  unfold pL at h1 h2⊢;by_cases e1:x.1=y.1
  ·rw[if_pos e1]at h1;by_cases e2:y.1=z.1
   ·rw[if_pos e2]at h2;rw[if_pos (e1.trans e2)];exact tY _ _ _ h1 h2
   ·rw[if_neg e2,decide_eq_true_iff]at h2;rw[if_neg ∅,decide_eq_true_iff]
    lia
  ·rw[if_neg e1,decide_eq_true_iff]at h1;by_cases e2:y.1=z.1
   ·rw[if_neg ∅,decide_eq_true_iff]
    lia
   ·rw[if_neg e2,decide_eq_true_iff]at h2;rw[if_neg ∅,decide_eq_true_iff]
    lia
 first:=λ_ hk=>by
  obtain⟨o,v,b,n,ho,hc,hd,h1,_⟩:=hk;obtain⟨tk,rfl⟩:=Ej h1;exact⟨o,_,n,_,tk,ho,hc,hd,rfl⟩
 cmp:=λ{A E b s x y p q Q} hu hx hy h=>by
  obtain⟨ox,v,px,nx,h1,h2,h3,h4,h5⟩:=hx;obtain⟨oy,v',py,ny,g1,g2,g3,g4,g5⟩:=hy;obtain⟨tu,rfl⟩:=Ej h4;obtain⟨tv,rfl⟩:=Ej g4;refine kat_lt h1 h3 g1 g3 ?_;show KatLex prog w A b _ Q [(_,_),(_,_)] 0 s;refine kat_cons (Qu ?_);unfold pL at h;by_cases e:x.1=y.1
  ·rw[if_pos e]at h;rw[beq_iff_eq.mpr e];refine kat_yes (kat_cons ((Mx (Fg prog w)).eqBool (show A.units<cLine by lia) h5 g5 ?_));by_cases e2:x.2=y.2
   ·rw[decide_eq_true e2];refine kat_yes (kat_nil ?_);rw[e2,aAt]at h;exact h
   ·rw[decide_eq_false e2];refine kat_no ?_;rw[show(b && (0+1==0))=false by cases b<;>rfl];exact kat_one _ _ (LtN.tups (n:=A.units) h5 g5 ∅ A (Am _) prog w _ _ h)
  ·rw[if_neg e]at h;rw[beq_eq_false_iff_ne.mpr e];refine kat_no ?_;rw[show(b && (0==0))=b by cases b<;>rfl];cases b with
   |true=>exact oneLt_int h
   |false=>exact kat_one _ _ (Pj (Q:=PySem.W.BoolBack Q) h)
def xU(l:Bool)(zs:List Nat):SetTable:={mask:=7,place:=zs.toArray,dummies:= #[],finger:=0,led:=l,moves:=0,plain:=true}
def gB(zs:List Nat)(tk:Nat->Tok):Array (Int×Value):=(zs.map λz:Nat=>((z:Int),Df (z:Int) (tk z))).toArray
def fO:List (List Nat):=[[],[1],[2],[3],[1,2],[1,3],[2,3],[1,2,3]]
def pK(x:Nat)(zs:List Nat):List Nat:=[1,2,3].filter λz=>decide (z=x∨z∈zs)
def uZ(x:Nat)(zs:List Nat):pK x zs∈fO:=by
 unfold pK;by_cases h1:1=x∨1∈zs<;>by_cases h2:2=x∨2∈zs<;>by_cases h3:3=x∨3∈zs<;>simp[List.filter,h1,h2,h3,fO]
def aMm{x z:Nat}(hz:zs∈fO)(hx:x∈[1,2,3]):z∈pK x zs↔z=x∨z∈zs:=by
 unfold pK;rw[Pk,decide_eq_true_iff];refine⟨λh=>h.2,λh=>⟨?_,h⟩⟩;rcases h with rfl|h
 ·exact hx
 ·simp only[fO,Ao,Ck,or_false]at hz;rcases hz with rfl|rfl|rfl|rfl|rfl|rfl|rfl|rfl<;>simp at h⊢ <;>lia
def aY4{l:Bool}{t:Tok}(hz:zs∈fO)(hx:x∈[1,2,3])(hn:x∉zs):
  layNew (xU l zs) (gB zs tk) (x:Int) (.int x t)=(gB (pK x zs) (λz=>if z=x then t else tk z),xU l (pK x zs),false,false):=by
 simp only[fO,Ao,Ck,or_false]at hz hx;rcases hz with rfl|rfl|rfl|rfl|rfl|rfl|rfl|rfl<;>rcases hx with rfl|rfl|rfl<;>first|(exact absurd ⋯ hn)|(cases l<;>kernel_rfl)
def aGl(s:Ae)(a:Addr)(l:Bool)(zs:List Nat):Prop:=∃o ep tk,s.heap.get? a=some o/\o.ExactSet/\o.data=.set (gB zs tk) ep (xU l zs)/\zs∈fO
def aOg(zs:List Nat)(tk:Nat->Tok):(gB zs tk).size=zs.length:=by simp[gB]
def aTy:∀zs∈fO,zs.length<=3:=by decide
def aMb{l:Bool}(hz:zs∈fO):(xU l zs).fits (gB zs tk).size=true:=by
 simp only[fO,Ao,Ck,or_false]at hz;rcases hz with rfl|rfl|rfl|rfl|rfl|rfl|rfl|rfl<;>rfl
def aMj(hx:x∈[1,2,3]):(Fg prog w).hash (x:Int)=(x:Int):=by
 simp only[Ao,Ck,or_false]at hx;rcases hx with rfl|rfl|rfl<;>rfl
def aTk(hz:zs∈fO):ElemsOf (Fg prog w) (gB zs tk).toList:=by
 intro e he;obtain⟨z,hm,rfl⟩:=Az.mp (show e∈zs.map _ from he);have:z∈[1,2,3]:=by
  simp only[fO,Ao,Ck,or_false]at hz;rcases hz with rfl|rfl|rfl|rfl|rfl|rfl|rfl|rfl<;>simp at hm⊢ <;>lia
 exact⟨⟨(z:Int),Pw _ _ _ _,(aMj this).symm⟩,rfl⟩
def aBz{a:Addr}{l:Bool}{t:Tok}{Q:Bool->Ae->Prop}(hx:x∈[1,2,3])(S:aGl s a l zs)(h:∀(b:Bool) h',Dm a s.heap h'->aGl {s with heap:=h'} a l (pK x zs)->Q b {s with heap:=h'}):
  Au #v[c] A (Qi a (.int x t) (x:Int)) Q E s:=by
 obtain⟨o,ep,tk,ho,hex,hd,hz⟩:=S;have hel:=aTk (prog:=prog) (w:=w) (tk:=tk) hz;have hsz:(gB zs tk).size<=3:=by rw[aOg];exact aTy zs hz
 unfold Qi setAddHashedIn;refine Cg (Aa (En ho hd (aMb hz) ?_));dsimp only;rw[byScan_of (knd:=Fg prog w) rfl (by unfold scanBound;lia) hel];simp only[↓reduceIte];unfold setAddByScan;refine Aa ?_;refine Aa (Nk ?_);have hkey:(Fg prog w).is (x:Int) (.int x t)=true:=Pw _ _ _ _;have e1:Au #v[c] A (setScan a (.int x t) (x:Int) true (gB zs tk)) (λr s'=>s'=s/\r=(match (gB zs tk).toList.findIdx? (λe=>(Fg prog w).is (x:Int) e.2)with|some j=> .found (0+j)|none=> .absent)) E s:=by
  have:=wpAny_setScan_of (knd:=Fg prog w) (adding:=true) (A:=A) (E:=E) (Q:=λr s'=>s'=s/\r=(match (gB zs tk).toList.findIdx? (λe=>(Fg prog w).is (x:Int) e.2)with|some j=> .found (0+j)|none=> .absent)) hkey ho hd (aMb hz) hel ⟨rfl,rfl⟩;rw[aMj hx]at this;exact this
 refine Aa (Dc e1 (λr s' hr=>?_) λ_ _ z=>z);obtain⟨rfl,rfl⟩:=hr;have mem:(∃e∈(gB zs tk).toList,(Fg prog w).is (x:Int) e.2=true)↔x∈zs:=by
  constructor
  ·rintro⟨e,he,hk⟩;obtain⟨z,hm,rfl⟩:=Az.mp (show e∈zs.map _ from he);have:(x:Int)=(z:Int):=(Fg prog w).inj _ _ _ hk (Pw _ _ _ _);have:x=z:=by lia
   rw[this];exact hm
  ·intro hm;exact⟨_,Az.mpr ⟨x,hm,rfl⟩,Pw _ _ _ _⟩
 cases hr:List.findIdx? (λe=>(Fg prog w).is (x:Int) e.2) (gB zs tk).toList with
 |some j=>
  dsimp only;obtain⟨hj,hpj,_⟩:=List.findIdx?_eq_some_iff_getElem.mp hr;have hin:=mem.mp ⟨_,Ew hj,hpj⟩;refine Ad (Ad ?_);have same:pK x zs=zs:=by
   simp only[fO,Ao,Ck,or_false]at hz hx;rcases hz with rfl|rfl|rfl|rfl|rfl|rfl|rfl|rfl<;>rcases hx with rfl|rfl|rfl<;>first|(exact absurd hin ⋯)|rfl
  have:=h false s'.heap (Yt a s'.heap) (by rw[same];exact⟨o,ep,tk,ho,hex,hd,hz⟩);exact this
 |none=>
  dsimp only;have hn:x∉zs:=λhm=>by
   obtain⟨e,he,hp⟩:=mem.mpr hm;have:=List.findIdx?_eq_none_iff.mp hr e he;rw[hp]at this;exact Bool.noConfusion this
  rw[aY4 hz hx hn];dsimp only;refine Aa (Ad ?_);rw[if_pos (show(xU l (pK x zs)).plain=true from rfl)];refine Aa ?_;rw[hashByValue_scannable 8 (show(Df x t).scannable=true from rfl)];refine Ad ?_;rw[if_pos (show plainKind (Df x t)=true from rfl)];have hsz2:(gB (pK x zs) (λz=>if z=x then t else tk z)).size<=3:=by rw[aOg];exact aTy _ (uZ x zs)
  refine Aa (Pp ho hd ?_ (by rw[Dv];lia));have nf:(!false && (xU l (pK x zs)).tooFull)=false:=by
   have:=uZ x zs;generalize pK x zs=ys at this;simp only[fO,Ao,Ck,or_false]at this;rcases this with rfl|rfl|rfl|rfl|rfl|rfl|rfl|rfl<;>rfl
  rw[nf]
  ac_rfl
  refine Ad (Ad ?_);have hg:(s'.heap.update a (Hv (gB (pK x zs) (λz=>if z=x then t else tk z)) (xU l (pK x zs)))).get? a=some {o with data:=.set (gB (pK x zs) (λz=>if z=x then t else tk z)) (ep+1) (xU l (pK x zs))}:=by
   have:=Bn (Hv (gB (pK x zs) (λz=>if z=x then t else tk z)) (xU l (pK x zs))) ho (by rw[Mz _ _ hd];rfl);rw[Mz _ _ hd]at this;exact this
  exact h true _ (Cw s'.heap a (Hv _ _)) ⟨_,_,_,hg,hex,rfl,uZ x zs⟩
def wX(val:Nat->Nat):Nat->List Nat
 |0=>[]
 |i+1=>pK (val i) (wX val i)
def aFj(val:Nat->Nat):∀i,wX val i∈fO
 |0=>by simp[wX,fO]
 |i+1=>uZ _ _
theorem aFi{val:Nat->Nat}{n:Nat}(hv:∀i,i<n->val i∈[1,2,3]):∀i,i<=n->∀z,z∈wX val i↔ ∃j,j<i/\val j=z
 |0,_,z=>by simp[wX]
 |i+1,h,z=>by
  rw[wX,aMm (aFj val i) (hv i ∅),aFi hv i ∅ z];constructor
  ·rintro(rfl|⟨j,h1,h2⟩)
   ·exact⟨i,∅,rfl⟩
   ·exact⟨j,∅,h2⟩
  ·rintro⟨j,h1,h2⟩;by_cases e:j=i
   ·subst e;exact .inl h2.symm
   ·exact .inr ⟨j,∅,h2⟩
def nU{R:Mg->Ae->Prop}{I:Addr}{G:Array Hl->Array Hl->Prop}{n:Nat}{St:Nat->Ae->Prop}
  (W:WalksS prog w A.in1 I fp wr G n P St) (S:Addr) (hSf:S∉fp) (l:Bool)
  (val:Nat->Nat) (hval:∀i v,P i v->∃t,v=.int (val i) t) (h3:∀i,i<n->val i∈[1,2,3]):
  ∀(k i:Nat)(s:Ae),n-i=k->i<=n->St i s->aGl s S l (wX val i)->
   (∀s',Moved (S::wr) G s s'->aGl s' S l (wX val n)->R (.ok (.ret .none)) s')->
   Gr #v[c] A (.builtin "set.update.loop" ⟨[.ref S,.ref I],[]⟩) R s:=by
 have hSw:S∉wr:=λh=>hSf (W.sub _ h);have hsub:∀b∈wr,b∈S::wr:=λb hb=>Ag _ hb;intro k;induction k with
 |zero=>
  intro i s hk hi hst hS hR;have hin:i=n:=by lia
  subst hin;refine Ee Ek ?_;rw[Di Ca _];show Au _ A.in1 (Ox (.ref I)>>=_) _ _ s;refine Aa (W.done s _ _ hst λs' hm=>?_);show Au _ A.in1 (ret Cb) _ _ s';exact Ad (hR s' (hm.mono hsub) (by
   obtain⟨o,ep,tk,ho,rest⟩:=hS;exact⟨o,ep,tk,hm.heap S _ hSw ho,rest⟩))
 |succ k ih=>
  intro i s hk hi hst hS hR;have hlt:i<n:=by lia
  refine Ee Ek ?_;rw[Di Ca _];show Au _ A.in1 (Ox (.ref I)>>=_) _ _ s;refine Aa (W.item i s _ _ hlt hst λv s' hP hst' hm=>?_);obtain⟨t,rfl⟩:=hval i v hP;have hS':aGl {s' with toks:=s'.toks+1} S l (wX val i):=by
   obtain⟨o,ep,tk,ho,rest⟩:=hS;exact⟨o,ep,tk,hm.heap S _ hSw ho,rest⟩
  show Au _ A.in1 (holding [Df (val i) t] (setAdd S (.int (val i) t))>>=_) _ _ s';refine Aa (Cg ?_);unfold setAdd;refine Cg ?_;refine Aa ((Fg prog w).pyHash (k:=(val i:Int)) (Pw _ _ _ _) ?_);rw[aMj (h3 i hlt)];refine aBz (s:={s' with toks:=s'.toks+1}) (h3 i hlt) hS' λb h' hsb hS2=>?_;refine Ad ⟨Gb Ca _,ih (i+1) _ ∅ hlt (W.frame _ s' _ _ hst' (Gp _) λb hb o e=>?_) hS2 λs'' hm'' hS''=>?_⟩
  ·rw[hsb.2 b (λh:b=S=>hSf (by rw[<-h];exact hb))];exact e
  ·refine hR s'' (Sq W.gtrans ((hm.mono hsub).then_heap (Gp _) λb o hb e=>?_) hm'') hS'';rw[hsb.2 b (λh:b=S=>hb (by rw[h];exact Ah))];exact e
def aAc{val:Nat->Nat}{Q:#v[a]}(hh:A.handled=none)(hl:s.heap.IsList l items)(hi:∀(i:Nat)(v:Value),items[i]? =some v->∃t,v=.int (val i) t)(h3:∀j,j<items.size->val j∈[1,2,3])
  (h:∀(h':Heap)(tk:Nat),aGl {s with heap:=h',toks:=tk} #v[0] (!w.params.followText "set-order") (wX val items.size)->(∀b o,b<#v[0]->s.heap.get? b=some o->h'.get? b=some o)->Q (.ref #v[0]) {s with heap:=h',toks:=tk}):
  Au #v[c] A (call (.type "set") [.ref l]) Q E s:=
 uU (λs'=>aGl s' #v[0] (!w.params.followText "set-order") (wX val items.size)) hh hl
  (λs1 W hSf hA hnt st kp hS hR=>nU W #v[0] hSf _ val hi h3 (items.size-0) 0 s1 ∅ (Bt _) st ⟨_,0,λ_=>0,hS,⟨rfl,rfl,rfl⟩,rfl,by simp[wX,fO]⟩ λs' hm S=>hR s' hm S)
  λh' tk S kp=>h h' tk S kp
variable {d it:Addr}{es:Array Zk}{ep i:Nat}
variable {d it r:Addr}
namespace F
end F
section
variable {prog:Ap}{w:Bh}{K:Type} [DecidableEq K]{knd:Ii prog w K}
variable {A:Bl}{R:Mg->Ae->Prop}{I:Addr}{fp wr:List Addr}{G:Array Hl->Array Hl->Prop}{n:Nat}{P:Nat->Value->Prop}{St:Nat->Ae->Prop}
end
section
variable {prog:Ap}{w:Bh}{K:Type} [DecidableEq K]{knd:Ii prog w K}{A:Bl}{E:#v[a]}{s:Ae}
end
end PySem
namespace L2
variable {pos:Pos}{scope:Scope}{cl:List (Str×Addr)}{i:Nat}{k:Nat}{p:Addr}{xs:List V}{ps:List Str}{g:TG}{v:V}{rest:List Stmt}{te:TE}{vs:Array Value}{ns:List Str}{C:Addr}{wi:TI}{body:List Stmt}{fp:List Addr}{f:Str}{r:List V->Hp->VK->Prop}{y:V}{sl:Array (#v[8])}{m:Nat}{base:Heap}{S:Addr->Prop}{a:Addr}{icap:#v[9]}{oe:Obj}{tn:Nat->Heap->Prop}{cs:List (Str×Addr)}{CT:Addr}{b₀:Stmt}{Q:VK}{E:XK}{ox:Obj}{tk:Tok}{h:Heap}{e:Addr}{old:Option Addr}{tc:TT}{pos':Pos}{us:List Value}{W:Addr->Prop}{R:Bool->Prop}{t:TE}
open PySem PySem.Spec PyProof.Rows
theorem gC{env:Env}(hk:env.scope.kind=.function):∀{names:List (Str×Ja)}{x:Str},names.lookup x=some .free->env.kindOf x=some .cell->
  (names.map λ(n,k)=>if(k==Dg && env.scope.kind== .function && env.kindOf n==some .cell)then(n,Dn)else(n,k)).lookup x=some .cell
 | [],_,h,_=>by simp at h
 |(n,k)::r,x,h,hc=>by
  have ih:=@gC env hk r x;show Eu x ((if(k==Dg && env.scope.kind== .function && env.kindOf n==some .cell)=true then(n,Dn)else(n,k))::_)=_;cases hx:x==n with
  |true=>
   have e:x=n:=eq_of_beq hx;subst e;simp only[Bi,hx]at h;cases h;rw[if_pos (by rw[hk,hc];rfl)];simp[Bi]
  |false=>
   simp only[Bi,hx]at h;by_cases hcc:(k==Dg && env.scope.kind== .function && env.kindOf n==some .cell)=true
   ·rw[if_pos hcc];simp only[Bi,hx];exact ih h hc
   ·rw[if_neg hcc];simp only[Bi,hx];exact ih h hc
theorem lY{env:Env}:∀{names:List (Str×Ja)}{x:Str},((names.map λ(n,k)=>if(k==Dg && env.scope.kind== .function && env.kindOf n==some .cell)then(n,Dn)else(n,k)).lookup x=some .cell∨
  (names.map λ(n,k)=>if(k==Dg && env.scope.kind== .function && env.kindOf n==some .cell)then(n,Dn)else(n,k)).lookup x=some .free)->names.lookup x=some .free∨names.lookup x=some .cell
 | [],_,h=>by simp at h
 |(n,k)::r,x,h=>by
  have ih:=@lY env r x
  replace h:Eu x ((if(k==Dg && env.scope.kind== .function && env.kindOf n==some .cell)=true then(n,Dn)else(n,k))::_)=_∨Eu x ((if(k==Dg && env.scope.kind== .function && env.kindOf n==some .cell)=true then(n,Dn)else(n,k))::_)=_:=h
  cases hx:x==n with
  |true=>
   simp only[Bi,hx];by_cases hcc:(k==Dg && env.scope.kind== .function && env.kindOf n==some .cell)=true
   ·have:k=.free:=by
     have:=(Dp _ _▸(Dp _ _▸hcc).1).1;exact eq_of_beq this
    exact .inl (by rw[this])
   ·rw[if_neg hcc]at h;simp only[Bi,hx]at h;rcases h with h|h
    ·exact .inr h
    ·exact .inl h
  |false=>
   simp only[Bi,hx];by_cases hcc:(k==Dg && env.scope.kind== .function && env.kindOf n==some .cell)=true
   ·rw[if_pos hcc]at h;simp only[Bi,hx]at h;exact ih h
   ·rw[if_neg hcc]at h;simp only[Bi,hx]at h;exact ih h
def gM{a b c:Nat}(h1:a<b)(h2:b<=c):a≠c:=Be (Bf h1 h2)
abbrev bU(X:Cx)(Nc:List Str)(scope:Scope)(cl:List (Str×Addr))(C:Addr)(s2:Ae)(H2:Hp)(fp:List Addr):Cx:=
 {prog:=X.prog,w:=X.w,K:=X.K,mg:=X.mg,base:=X.base,A:=X.A,N:=Nc,s₀:=s2,H₀:=H2,env:=Wq scope cl C X.env,outer:=X.stack,stack:=X.stack,ex:=fp,fn:=λ_=>false,calm:=X.calm,pn:=[],xe:=λ_ _=>False}
abbrev dM(own:List Str)(cap:#v[9]):List Str:=own++cap.map (·.1)
def mW(no:Nat)(cap:#v[9])(σ:St):St:=Al no none++cap.map λp=>(σ[p.2]?).join
structure cZ(X:Cx)(scope:Scope)(cap:#v[9])(cl:List (Str×Addr)):Prop where
 clos:Nl scope X.env=pure cl
 kind:scope.kind=.function
 nocell:∀y∈scope.names,y.2≠.cell
 names:∀y∈scope.names,y.2=.local->scope.names.lookup y.1=some .local
 sub:∀x c,cl.lookup x=some c->X.env.cells.lookup x=some c
 has:∀x,scope.names.lookup x=some .free->∃c,cl.lookup x=some c
 cap:∀p∈cap,X.N[p.2]? =some p.1/\scope.names.lookup p.1=some .free/\X.env.scope.names.lookup p.1=some .cell
def aV0(J:It)(D:Addr)(g:TG)(te:TE)(Q:VK)(σ:St)(H:Hp):Prop:=∃W:Nat->Nat->St->Hp->Prop,
 (∃m,W 0 m σ H)/\∀i m σc H2,W i m σc H2->
  (J.stop i H2/\Q (.ref D) H2)∨(J.go i H2/\∀x H3,J.yld i H2 x H3->g x σc H3 λσ4 H4=>te σ4 H4 λy H5=>∃ys,H5 D=some (.lst ys)/\ys.length<sizeLine/\∃m',m'<m/\W (i+1) m' σ4 (upd H5 D (.lst (ys++[y]))))
def vU(no:Nat)(cap:#v[9])(wi:TI)(g:TG)(te:TE):TE:=λσ H Q=>wi σ H λJ H1=>∀D,H1 D=none->aV0 J D g te Q (mW no cap σ) (upd H1 D (.lst []))
variable {X:Cx}{pins:#v[4]}{σ:St}{s2:Ae}{H2:Hp}
def aS4(J:It)(D:Addr)(g:TG)(tc:TT)(te:TE)(Q:VK)(σ:St)(H:Hp):Prop:=∃W:Nat->Nat->St->Hp->Prop,
 (∃m,W 0 m σ H)/\∀i m σc H2,W i m σc H2->
  (J.stop i H2/\Q (.ref D) H2)∨(J.go i H2/\∀x H3,J.yld i H2 x H3->g x σc H3 λσ4 H4=>tc σ4 H4 λok H4'=>if ok=true then te σ4 H4' λy H5=>∃ys,H5 D=some (.lst ys)/\ys.length<sizeLine/\∃m',m'<m/\W (i+1) m' σ4 (upd H5 D (.lst (ys++[y])))else∃m',m'<m/\W (i+1) m' σ4 H4')
def aOl(no:Nat)(cap:#v[9])(wi:TI)(g:TG)(tc:TT)(te:TE):TE:=λσ H Q=>wi σ H λJ H1=>∀D,H1 D=none->aS4 J D g tc te Q (mW no cap σ) (upd H1 D (.lst []))
def aJj{no:Nat}{cap:#v[9]}{own:List Str}(hno:own.length=no){x:Str}(h1:(dM own cap)[i]? =some x)(h2:(mW no cap σ)[i]? =some (some v)):
  ∃p∈cap,p.1=x/\σ[p.2]? =some (some v):=by
 subst hno;unfold mW at h2;by_cases hi:i<own.length
 ·rw[Cq (by simpa using hi),Bk]at h2;rw[if_pos hi]at h2;cases h2
 ·rw[Fm (by simpa using hi)]at h2;unfold dM at h1;rw[Fm (by simpa using hi)]at h1;rw[Cy,Ay]at h2;rw[Ay]at h1;cases e:cap[i-own.length]? with
  |none=>rw[e]at h1;cases h1
  |some p=>
   rw[e]at h1 h2;refine⟨p,Cf e,Bq h1,?_⟩;have q:(σ[p.2]?).join=some v:=Bq h2;cases e2:σ[p.2]? with
   |none=>rw[e2]at q;cases q
   |some o=>rw[e2]at q;exact congrArg some q
def zX(scope:Scope):Prop:=∀y∈scope.names,y.2≠.cell
theorem qK:∀{names:List (Str×Ja)}{n:Nat},(∀y∈names,y.2≠.cell)->Ef n names []=[]
 | [],_,_=>rfl
 |(y,k)::r,n,h=>by
  unfold Ef;rw[if_neg (λz=>h _ Ah (eq_of_beq z))];exact qK λz hz=>h z (Ag _ hz)
def aAg{n:Nat}(h:zX scope):Ef n scope.names []=[]:=qK h
structure pA(X:Cx)(scope:Scope)(cap:#v[9])(cl:List (Str×Addr)):Prop where
 clos:Nl scope X.env=pure cl
 kind:scope.kind=.function
 names:∀y∈scope.names,y.2=.local->scope.names.lookup y.1=some .local
 sub:∀x c,cl.lookup x=some c->X.env.cells.lookup x=some c
 has:∀x,scope.names.lookup x=some .free->∃c,cl.lookup x=some c
 capn:∀p∈cap,¬(p.1,Dn)∈scope.names
 cap:∀p∈cap,X.N[p.2]? =some p.1/\scope.names.lookup p.1=some .free/\X.env.scope.names.lookup p.1=some .cell
def fG(X:Cx)(scope:Scope)(cs:List (Str×Addr)):Prop:=∀x,(scope.names.lookup x=some .cell∨(scope.names.lookup x=some .free/\X.env.scope.names.lookup x=some .cell))->∃c,cs.lookup x=some c
abbrev cF(X:Cx)(Nc:List Str)(scope:Scope)(cs:List (Str×Addr))(C:Addr)(s2:Ae)(H2:Hp)(fp:List Addr):Cx:=
 {prog:=X.prog,w:=X.w,K:=X.K,mg:=X.mg,base:=X.base,A:=X.A,N:=Nc,s₀:=s2,H₀:=H2,env:={Wq scope [] C X.env with cells:=cs},outer:=X.stack,stack:=X.stack,ex:=fp,fn:=λx=>decide (scope.names.lookup x=some .cell),calm:=X.calm,pn:=[],xe:=λ_ _=>False}
theorem jG:∀(names:List (Str×Ja))(n:Nat)(acc:List (Str×Addr)),Ef n names acc=Ef n names []++acc
 | [],_,_=>rfl
 |(y,k)::r,n,acc=>by
  unfold Ef;split
  ·rw[jG r (n+1) ((y,n)::acc),jG r (n+1) [(y,n)],Cv];rfl
  ·exact jG r n acc
theorem lX:∀(names:List (Str×Ja))(n:Nat)(acc:List (Str×Addr)){x:Str}{c:Addr},(x,c)∈Ef n names acc->(x,Dn)∈names∨(x,c)∈acc
 | [],_,_,_,_,h=> .inr h
 |(y,k)::r,n,acc,x,c,h=>by
  unfold Ef at h;split at h
  ·rename_i hk;rcases lX r _ _ h with z|z
   ·exact .inl (Ag _ z)
   ·rcases Ao.mp z with e|z
    ·cases e;rw[show k=.cell from eq_of_beq hk];exact .inl Ah
    ·exact .inr z
  ·rcases lX r _ _ h with z|z
   ·exact .inl (Ag _ z)
   ·exact .inr z
def aBk{names:List (Str×Ja)}{n:Nat}{x:Str}{c:Addr}(h:(x,c)∈Ef n names []):(x,Dn)∈names:=(lX names n [] h).elim id λz=>nomatch z
variable {α:Type}{A B:List (Str×α)}{x:Str}{c:α}
def oA:(A++B).lookup x=(A.lookup x).or (B.lookup x):=Tw ..
def aG7(h:(A++B).lookup x=some c):A.lookup x=some c∨(A.lookup x=none/\B.lookup x=some c):=by
 rw[oA]at h;cases q:A.lookup x with
 |none=>rw[q]at h;exact .inr ⟨rfl,h⟩
 |some d=>rw[q]at h;exact .inl h
def lF(h:A.lookup x=some c):(A++B).lookup x=some c:=by rw[oA,h];rfl
def vD(h:A.lookup x=none)(h':B.lookup x=some c):(A++B).lookup x=some c:=by rw[oA,h];exact h'
def vG(h:B.lookup x=some c):∃d,(A++B).lookup x=some d:=by
 cases q:A.lookup x with
 |none=>exact⟨c,vD q h⟩
 |some d=>exact⟨d,lF q⟩
def aHb{M:Tt}{A:Bl}{E:#v[a]}{s:Ae}{globals:Addr}{qual:Str}{env0:Env}{Q:Env->Ae->Prop}(_hk:scope.kind=.function)
  (h:Q {scope:=scope,locals:=#v[0],globals:=globals,cells:=Ef (#v[0]+1) scope.names cl,qual:=qual,func:=none,code:=env0.code,frame:=env0.frame,builtins:=env0.builtins}
   {s with heap:=Na (s.heap.push #v[7]) scope.names}):
  Au M A (Oc scope globals cl [] qual none .none (some env0)) Q E s:=by
 simp only[Oc,Sm,if_true];refine Aa (wpAny_alloc (Aa (wpAny_layCells _ (λnm kd cs=>by cases hq:kd==Dn<;>simp[hq]) _ _ _ _ ?_)));have e:({s with heap:=s.heap.push #v[7]}:Ae).heap.objs.size=#v[0]+1:=Dd ..;rw[e];exact Aa (Ad (Ad h))
section
variable {prog:Ap}{w:Bh}{A:Bl}{R:Mg->Ae->Prop}{s:Ae}
def PTs(X:Cx)(cis:List Bw)(t:TT):Prop:=
 ∀(pins:#v[4])(s:Ae)(σ:St)(H:Hp)(Q:Bool->Hp->Prop),#v[1]->t σ H Q->Au #v[b] X.A (forIn cis true λc r=>if r=true then do let ok<-Wp c X.env (eval c X.env);pure (Hm ok)else pure (Hm r)) (TP X pins σ Q) X.xe s
def aYs{X:Cx}{c:Bw}{t:TT}(h:PT X c t):PTs X [c] t:=λpins s σ H Q I q=>wpAny_tests_one (h pins s σ H Q I q)
def aQ4:TT:=λ_ H Q=>Q true H
def aD9{X:Cx}:PTs X [] aQ4:=λpins s σ H Q I q=>wpAny_tests_nil ⟨H,I,q⟩
def aBn{elt target iter:Bw}{cis:List Bw}{it acc:Value}{env:Env}(I:Nat->Ae->Prop)
  (turn:∀n s,I n s->Au #v[c] A (Ox it) (λr s₁=>match r with
   |none=>R (.ok .next) s₁
   |some v=>Au #v[c] A (Nb target it v) (λ_ s₁'=>Au #v[c] A (assign target env v) (λ_ s₂=>Au #v[c] A (forIn cis true λc r=>if r=true then do let ok<-Wp c env (eval c env);pure (Hm ok)else pure (Hm r)) (λok s₂'=>if ok=true then Au #v[c] A (eval elt env) (λx s₃=>
     Au #v[c] A (call (.builtin "list.append") [acc,x]) (λ_ s₄=>∃m,m<n/\I m s₄) (λ_ _=>False) s₃) (λ_ _=>False) s₂' else∃m,m<n/\I m s₂') (λ_ _=>False) s₂) (λ_ _=>False) s₁') (λ_ _=>False) s₁) (λ_ _=>False) s)
  (n:Nat) (h:I n s):
  Gr #v[c] A (.compLoop (.ListComp elt [⟨target,iter,cis,0⟩] scope pos) 0 it acc env) R s:=by
 refine codeAny_loop rfl I (λn s hI=>?_) n h;show Au _ _ ((compTurn (.ListComp elt [⟨target,iter,cis,0⟩] scope pos) 0 it acc env).onRaise (λx=>do Uw x env;theTreesLotGoes x)) _ _ s;refine wpAny_noted ?_;rw[compTurn_list];refine Aa (Iy (Aa (Dc (turn n s hI) (λr s₁ h₁=>?_) λ_ _ h'=>h'.elim)));cases r with
 |none=>exact Ad h₁
 |some v=>
  refine Aa (Dc h₁ (λ_ s₁' h₁'=>?_) λ_ _ h'=>h'.elim);refine Aa (Dc h₁' (λ_ s₂ h₂=>?_) λ_ _ h'=>h'.elim);refine Aa (Dc h₂ (λokb s₃ h₃=>?_) λ_ _ h'=>h'.elim);cases okb with
  |false=>exact Ad ⟨rfl,h₃⟩
  |true=>exact Aa (Aa (Dc h₃ (λx s₄ h₄=>Aa (Dc h₄ (λ_ s₅ h₅=>Ad (Ad ⟨rfl,h₅⟩)) λ_ _ h'=>h'.elim)) λ_ _ h'=>h'.elim))
end
def yD{elt iter tg:Bw}{cis:List Bw}{own:List Str}{cap:#v[9]}{J:It}{it:Addr}
  (S:pA X scope cap cl) (hc:X.calm=true) (I:Inv X pins σ H2 s2) (T:Turn X.prog X.w X.K tg J fp it tn) (st:tn 0 s2.heap) (hf:∀b∈fp,aC5 X pins H2 b)
  (hg:∀cs,fG X scope cs->(zX scope->cs=cl)->∀C s2 H2 fp,PG (cF X (dM own cap) scope cs C s2 H2 fp) tg g) (htc:∀cs,fG X scope cs->(zX scope->cs=cl)->∀C s2 H2 fp,PTs (cF X (dM own cap) scope cs C s2 H2 fp) cis tc) (he:∀cs,fG X scope cs->(zX scope->cs=cl)->∀C s2 H2 fp,PE (cF X (dM own cap) scope cs C s2 H2 fp) elt te)
  (W:Nat->Nat->St->Hp->Prop) (w0:∃m,W 0 m (mW own.length cap σ) (upd H2 s2.heap.objs.size (.lst [])))
  (turn:∀i m σc H3,W i m σc H3->(J.stop i H3/\Q (.ref s2.heap.objs.size) H3)∨(J.go i H3/\∀x H4,J.yld i H3 x H4->g x σc H4 λσ5 H5=>tc σ5 H5 λok H5'=>if ok=true then te σ5 H5' λy H6=>∃ys,H6 s2.heap.objs.size=some (.lst ys)/\ys.length<sizeLine/\∃m',m'<m/\W (i+1) m' σ5 (upd H6 s2.heap.objs.size (.lst (ys++[y])))else∃m',m'<m/\W (i+1) m' σ5 H5'))
  {RR:Value->Addr->Mg->Ae->Prop}
  (hRR:∀C H' s' m,s2.heap.objs.size<=C->s'.heap.Ns C m->H' C=none->Inv X pins σ H' s'->(∀h',Dm C s'.heap h'->Inv X pins σ H' {s' with heap:=h'})->Q (.ref s2.heap.objs.size) H'->RR (.ref s2.heap.objs.size) C (.ok .next) s')
  {E:#v[a]}:
  Au #v[b] X.A (We []) (λacc s₃=>Au #v[b] X.A (Oc scope X.env.globals cl [] X.env.qual none .none (some X.env)) (λcenv s₄=>
   Gr #v[b] X.A (.compStart #v[10] 0 (.ref it) acc {cenv with scope:=relabel scope X.env}) (RR acc cenv.locals) s₄) E s₃) E s2:=by
 refine Dj (aHb S.kind ?_);dsimp only;generalize hH2:s2.heap.push {cls:=.type "list",dict:=none,data:=.seq ([]:List Value).toArray}=G2;have hC:G2.objs.size=s2.heap.objs.size+1:=by rw[<-hH2,Dd]
 have hDC:s2.heap.objs.size≠G2.objs.size:=by rw[hC];exact Be (Fs _)
 have hCle:s2.heap.objs.size<=G2.objs.size:=by rw[hC];exact Gp _
 have below:∀b,b<s2.heap.objs.size->b≠G2.objs.size/\b≠s2.heap.objs.size:=λb hb=>⟨by rw[hC];exact Be (Hi hb),Be hb⟩;have hG1:(G2.push #v[7]).objs.size=G2.objs.size+1:=Dd ..;have okA:=cellsFrom_ok scope.names (G2.push #v[7]) (G2.objs.size+1) [] ⟨λ_ _ z=>(nomatch z),Jl⟩ (by rw[hG1];exact Am _);rw[hG1]at okA;have app:Ef (G2.objs.size+1) scope.names cl=Ef (G2.objs.size+1) scope.names []++cl:=jG _ _ _;have kept:∀b o,G2.get? b=some o->(Na (G2.push #v[7]) scope.names).get? b=some o:=λb o e=>Zc _ _ b o (Af _ e);have hns₁:(Na (G2.push #v[7]) scope.names).Ns G2.objs.size (λ_=>none):=(Heap.Ns.new G2 (.type "dict")).keeps (Zc _ _);have old:∀b o,s2.heap.get? b=some o->(Na (G2.push #v[7]) scope.names).get? b=some o:=λb o e=>kept b o (hH2▸Af _ e);have hacc:(Na (G2.push #v[7]) scope.names).get? s2.heap.objs.size=some {cls:=.type "list",dict:=none,data:=.seq ([]:List Value).toArray}:=kept _ _ (hH2▸Ba _ rfl);have newc:∀x c,(Ef (G2.objs.size+1) scope.names []).lookup x=some c->(Na (G2.push #v[7]) scope.names).IsCell c none/\G2.objs.size+1<=c:=λx c e=>okA.empty x c (Bz e);have newinj:∀x y c,(Ef (G2.objs.size+1) scope.names []).lookup x=some c->(Ef (G2.objs.size+1) scope.names []).lookup y=some c->x=y:=λx y c e1 e2=>name_of_addr okA.apart (Bz e1) (Bz e2);have ownc:∀x,scope.names.lookup x=some .cell->∃c,(Ef (G2.objs.size+1) scope.names []).lookup x=some c:=λx hx=>Qc.mp (Kv scope.names _ [] (.inl hx));generalize hh₁:Na (G2.push #v[7]) scope.names=h₁ at hns₁ old hacc newc⊢;generalize hcA:Ef (G2.objs.size+1) scope.names []=cA at app newc newinj ownc;generalize hcs:Ef (G2.objs.size+1) scope.names cl=cs at app⊢;subst app;have both:∀x c,(cA++cl).lookup x=some c->(cA.lookup x=some c∨(cA.lookup x=none/\cl.lookup x=some c)):=λx c e=>aG7 e;have hfps:∀b∈fp,b<s2.heap.objs.size:=λb hb=>by
  obtain⟨o,e,_⟩:=T.obj _ _ st b hb;exact Ar e
 have hfree:∀b,s2.heap.objs.size<=b->H2 b=none:=λb hb=>I.hok.fresh hb;have old2:∀x c,cl.lookup x=some c->c<s2.heap.objs.size:=λx c e=>by
  obtain⟨v,o,ho,_⟩:=I.cell x c (S.sub x c e);exact Ar ho
 have clash:∀c,G2.objs.size+1<=c->c<s2.heap.objs.size->False:=λc h1 h2=>Dr _ (Bf h2 (Bd hCle (Oi h1)));have ceq:zX scope->cA++cl=cl:=λn=>by rw[<-hcA,aAg n];rfl
 have cfor:fG X scope (cA++cl):=λx hx=>by
  rcases hx with h|⟨h,_⟩
  ·obtain⟨c,e⟩:=ownc x h;exact⟨c,lF e⟩
  ·obtain⟨c,e⟩:=S.has x h;exact vG e
 generalize hX:cF X (dM own cap) scope (cA++cl) G2.objs.size s2 H2 fp=X';have hOk:X'.Ok:=by
  subst hX;refine⟨I.ok.mod,S.kind,I.ok.glob,I.ok.blt,hCle,λx y c e1 e2=>?_,λx hx=>?_,λx c z e=>?_,I.ok.hd,I.ok.frames,.inl rfl,
   λb hb=>⟨(below b (hfps b hb)).1,λx c e=>?_⟩,I.bs,Bd I.ok.bsz I.sz,λb o e hb=>?_,λb hb z=>?_,I.stack,I.stkFree⟩
  ·rcases both x c e1 with a1|⟨_,a1⟩
   ·rcases both y c e2 with a2|⟨_,a2⟩
    ·exact newinj x y c a1 a2
    ·exact(clash c (newc x c a1).2 (old2 y c a2)).elim
   ·rcases both y c e2 with a2|⟨_,a2⟩
    ·exact(clash c (newc y c a2).2 (old2 x c a1)).elim
    ·exact I.ok.inj x y c (S.sub x c a1) (S.sub y c a2)
  ·rcases lY (env:=X.env) (names:=scope.names) (x:=x) hx with h|h
   ·obtain⟨c,e⟩:=S.has x h;exact vG e
   ·obtain⟨c,e⟩:=ownc x h;exact⟨c,lF e⟩
  ·obtain⟨c',e'⟩:=ownc x (of_decide_eq_true z);have q:(cA++cl).lookup x=some c':=lF e';have q2:some c'=some c:=q.symm.trans e;cases q2;exact Bd hCle (Bd (Gp _) (newc x c e').2)
  ·rcases both x c e with a1|⟨_,a1⟩
   ·exactλz=>clash c (newc x c a1).2 (z.symm▸hfps b hb)
   ·exact(hf b hb).2.2.2.2.1 x c (S.sub x c a1)
  ·rcases (hf b hb).2.2.2.1 with z|z
   ·exact I.ok.noex b o e z
   ·exact absurd (Bf (Ar e) (Bd I.ok.bsz z)) (Dr _)
  ·rcases Ao.mp (I.stkSub b z)with z|z
   ·exact(hf b hb).2.1 z
   ·exact(hf b hb).2.2.1 z
 have hI0:Inv X' [] (mW own.length cap σ) (upd H2 s2.heap.objs.size (.lst [])) {s2 with heap:=h₁}:=by
  subst hX;refine⟨hOk,rfl,I.bare,Un.laid old (Am _) (hfree _ (Am _)),⟨_,hns₁,λi x v e1 e2 e3=>?_⟩,λx c e=>?_,?_,λx c e=>?_,λp hp=>absurd (show p∈([]:#v[4])from hp) (by simp),?_,?_⟩
  ·obtain⟨p,hp,rfl,hσ⟩:=aJj rfl e1 e2;obtain⟨c1,c2,c3⟩:=S.cap p hp;obtain⟨m,hn,hl⟩:=I.loc;obtain⟨u,r,l⟩:=hl p.2 p.1 v c1 hσ (.inr (.inl c3));refine⟨u,r,.inr ⟨.inl (gC I.ok.kind c2 c3),?_⟩⟩;obtain⟨c,hcl⟩:=S.has _ c2;have nA:cA.lookup p.1=none:=by
    cases q:cA.lookup p.1 with
    |none=>rfl
    |some c0=>
     have z:=Bz q;rw[<-hcA]at z;exact absurd (aBk z) (S.capn p hp)
   refine⟨c,vD nA hcl,?_⟩;rcases l with ⟨k,_⟩|⟨_,c',e,z⟩
   ·have k':X.env.scope.names.lookup p.1=some .local:=k;rw[c3]at k';cases k'
   ·have:=S.sub _ _ hcl;rw[e]at this;cases this;obtain⟨o,ho,hd⟩:=z;exact⟨o,old _ _ ho,hd⟩
  ·rcases both x c e with a1|⟨_,a1⟩
   ·exact⟨none,(newc x c a1).1⟩
   ·obtain⟨v,o,ho,hd⟩:=I.cell x c (S.sub x c a1);exact⟨v,o,old _ _ ho,hd⟩
  ·show upd H2 s2.heap.objs.size (.lst []) G2.objs.size=none;rw[aL (Ci hDC)];exact hfree _ hCle
  ·rcases both x c e with a1|⟨_,a1⟩
   ·have h1:=(newc x c a1).2;have h2:s2.heap.objs.size<=c:=Bd hCle (Oi h1);have h3:c≠s2.heap.objs.size:=λz=>by
     rw[z]at h1;exact hDC (Nat.le_antisymm hCle (Oi h1))
    rw[aL h3];exact hfree c h2
   ·have e':=S.sub x c a1;obtain⟨v,o,ho,hd⟩:=I.cell x c e';rw[aL (below c (Ar ho)).2];exact I.freeC x c e'
  ·exact I.hok.laid old (Am _) ⟨Bt _,[],_,.nil,hacc⟩
  ·show(mW own.length cap σ).length=(dM own cap).length;unfold mW dM;simp
 have hP:X'.prog=X.prog:=by subst hX;rfl
 have hw:X'.w=X.w:=by subst hX;rfl
 have hK:X'.K=X.K:=by subst hX;rfl
 have hA:X'.A=X.A:=by subst hX;rfl
 have hcalm:X'.calm=true:=by subst hX;exact hc
 have hxe:X'.xe=λ_ _=>False:=by subst hX;rfl
 have henv:X'.env={Wq scope cl G2.objs.size X.env with cells:=cA++cl}:=by subst hX;rfl
 have hbase:∀{σ' H' s'},Inv X' [] σ' H' s'->Un (frs X.stack) fp H2 H' s2.heap s'.heap/\s'.os=s2.os:=λ{σ' H' s'} J=>by subst hX;exact⟨J.base,J.os⟩
 have hg':PG X' tg g:=by subst hX;exact hg _ cfor ceq _ _ _ _
 have he':PE X' elt te:=by subst hX;exact he _ cfor ceq _ _ _ _
 have htc':PTs X' cis tc:=by subst hX;exact htc _ cfor ceq _ _ _ _
 have stat:∀{H':Hp},(∀b∈fp,H' b=none)->∀b∈fp,aC5 X' [] H' b:=λ{H'} hn b hb=>by
  subst hX;refine⟨hn b hb,(below b (hfps b hb)).1,λz=>?_,.inl hb,λx c e=>?_,λp hp=>absurd (show p∈([]:#v[4])from hp) (by simp)⟩;rcases Ao.mp (I.stkSub b z)with z|z
  ·exact(hf b hb).2.1 z
  ·exact(hf b hb).2.2.1 z
  rcases both x c e with a1|⟨_,a1⟩
  ·exactλz=>clash c (newc x c a1).2 (z.symm▸hfps b hb)
  ·exact(hf b hb).2.2.2.2.1 x c (S.sub x c a1)
 have back:∀{σ' H' s'},Inv X' [] σ' H' s'->Q (.ref s2.heap.objs.size) H'->RR (.ref s2.heap.objs.size) G2.objs.size (.ok .next) s':=λ{σ' H' s'} J q=>by
  obtain⟨u,ho⟩:=hbase J;have hcf:∀b∈fp,(b∈X.ex∨X.s₀.heap.objs.size<=b)/\b≠X.env.locals/\(∀x c,X.env.cells.lookup x=some c->c≠b)/\∀p∈X.pn++pins,p.1≠b:=λb hb=>by
   obtain⟨f0,f1,f2,f3,f4,f5⟩:=hf b hb;exact⟨f3,f1,f4,f5⟩
  have hCn:H' G2.objs.size=none:=by have:=J.free;rw[henv]at this;exact this
  have hok':HOk X.prog X.w H' s'.heap:=by have:=J.hok;rw[hP,hw]at this;exact this
  obtain⟨m,hm,_⟩:=J.loc;rw[henv]at hm;refine hRR _ H' s' m hCle hm hCn (I.call' ho u hok' J.bare hcf) (λh' hs=>?_) q;have kn:∀b o,s2.heap.get? b=some o->h'.get? b=s'.heap.get? b:=λb o e=>hs.2 b (below b (Ar e)).1;refine I.call' (s':={s' with heap:=h'}) ho ⟨λb o e n hb hx=>(kn b o e).trans (u.keep b o e n hb hx),λb o e n hb hx=>?_,u.free,λb o e hx=>?_,u.tups,u.frzs,u.tbls⟩ (λb ob e=>?_) J.bare hcf
  ·obtain⟨sl,e1⟩:=u.slot b o e n hb hx;exact⟨sl,(kn b o e).trans e1⟩
  ·obtain⟨o',e1⟩:=u.there b o e hx;exact⟨o',(kn b o e).trans e1⟩
  ·refine(hok' b ob e).stay (λc w' hc q=>(hs.2 c ?_).trans q) (λ_ q=>q) λ_ _ q=>q;rintro rfl;rcases hc with rfl|hc
   ·rw[hCn]at e;cases e
   ·rw[hCn]at hc;cases hc
 have loop:∀s₃:Ae,s₃={s2 with heap:=h₁}->
   Gr #v[b] X.A (.compLoop #v[10] 0 (.ref it) (.ref s2.heap.objs.size) {Wq scope cl G2.objs.size X.env with cells:=cA++cl})
    (RR (.ref s2.heap.objs.size) G2.objs.size) s₃:=by
  rintro s₃ rfl;obtain⟨m0,w0⟩:=w0;refine aBn (λn s'=>∃i σ' H',Inv X' [] σ' H' s'/\tn i s'.heap/\(∀b∈fp,H' b=none)/\W i n σ' H') ?_ m0
   ⟨0,_,_,hI0,T.keep _ _ _ st λb hb o e=>old b o e,λb hb=>?_,w0⟩
  ·rintro n s3 ⟨i,σ3,H3,I3,st3,fr3,w3⟩;rcases turn i n σ3 H3 w3 with ⟨stop,qn⟩|⟨go,step⟩
   ·have d:=T.done X' hP hw hK hcalm i [] s3 σ3 H3 (λ_ _=>False) I3 (stat fr3) st3 stop;rw[hA]at d;refine thn d λr s4 ⟨hr,I4⟩=>?_;subst hr;exact back I4 qn
   ·have d:=T.item X' hP hw hK hcalm i [] s3 σ3 H3 (λ_ _=>False) I3 (stat fr3) st3 go;rw[hA]at d;refine thn d λr s4 ⟨u,hr,h4⟩=>?_;subst hr;refine thn h4 λ_ s5 ⟨x,H5,I5,r5,y5,st5,fr5⟩=>?_;have I5':=I5.pinned (stat fr5) (T.obj _ _ st5);have d2:=hg' _ s5 σ3 H5 x u _ I5' r5 (step x H5 y5);rw[hP,hw,hA,hxe,henv]at d2;refine thn d2 λ_ s6 ⟨σ6,H6,I6,q6⟩=>?_;have dt:=htc' _ s6 σ6 H6 _ I6 q6;rw[hP,hw,hA,hxe,henv]at dt;refine thn dt λokb s6' ⟨H6',I6',q6'⟩=>?_;cases okb with
    |false=>
     obtain⟨m',hm,w7⟩:=q6';refine⟨m',hm,i+1,σ6,H6',I6'.unpinned,T.keep _ _ _ st5 λb hb o e=>(I6'.pin (b,o) (Bg _ (Bg _ (jC hb e)))).1,λb hb=>?_,w7⟩;obtain⟨o,e,d⟩:=T.obj _ _ st5 b hb;exact(I6'.pin (b,o) (Bg _ (Bg _ (jC hb e)))).2.1
    |true=>
    have d3:=he' _ s6' σ6 H6' _ I6' q6';rw[hP,hw,hA,hxe,henv]at d3;refine thn d3 λy7 s7 ⟨v7,H7,I7,r7,ys,e7,l7,m',hm,w7⟩=>?_;have d4:=wY (X:=X') _ s7 σ6 H7 (.ref s2.heap.objs.size) [v7] (.ref s2.heap.objs.size) [y7] (λ_ H8=>W (i+1) m' σ6 H8) I7 rfl (.cons r7 .nil) ⟨_,ys,v7,rfl,rfl,e7,l7,w7⟩;rw[hP,hw,hA,hxe]at d4;refine thn d4 λ_ s8 ⟨v8,H8,I8,_,w8⟩=>?_;refine⟨m',hm,i+1,σ6,H8,I8.unpinned,T.keep _ _ _ st5 λb hb o e=>(I8.pin (b,o) (Bg _ (Bg _ (jC hb e)))).1,λb hb=>?_,w8⟩;obtain⟨o,e,d⟩:=T.obj _ _ st5 b hb;exact(I8.pin (b,o) (Bg _ (Bg _ (jC hb e)))).2.1
  ·rw[aL (below b (hfps b hb)).2];exact(hf b hb).1
 exact codeAny_compStart_list (loop _ rfl) (T.self _ 0 _ _ _ (T.keep _ _ _ st λb hb o e=>old b o e) (loop _ rfl))
def cZ.noC{cap:#v[9]}(S:cZ X scope cap cl):pA X scope cap cl:=⟨S.clos,S.kind,S.names,S.sub,S.has,λp _ h=>S.nocell _ h rfl,S.cap⟩
def cZ.cx{cap:#v[9]}(S:cZ X scope cap cl)(Nc:List Str)(C:Addr)(s2:Ae)(H2:Hp)(fp:List Addr):cF X Nc scope cl C s2 H2 fp=bU X Nc scope cl C s2 H2 fp:=by
 have e:(λx=>decide (scope.names.lookup x=some Dn))=λ_=>false:=funext λx=>decide_eq_false λh=>S.nocell _ (Bz h) rfl;unfold cF bU;rw[e];rfl
def yE{elt iter tg:Bw}{cis:List Bw}{own:List Str}{cap:#v[9]}{J:It}{it:Addr}
  (S:cZ X scope cap cl) (hc:X.calm=true) (I:Inv X pins σ H2 s2) (T:Turn X.prog X.w X.K tg J fp it tn) (st:tn 0 s2.heap) (hf:∀b∈fp,aC5 X pins H2 b)
  (hg:∀C s2 H2 fp,PG #v[6] tg g) (htc:∀C s2 H2 fp,PTs #v[6] cis tc) (he:∀C s2 H2 fp,PE #v[6] elt te)
  (W:Nat->Nat->St->Hp->Prop) (w0:∃m,W 0 m (mW own.length cap σ) (upd H2 s2.heap.objs.size (.lst [])))
  (turn:∀i m σc H3,W i m σc H3->(J.stop i H3/\Q (.ref s2.heap.objs.size) H3)∨(J.go i H3/\∀x H4,J.yld i H3 x H4->g x σc H4 λσ5 H5=>tc σ5 H5 λok H5'=>if ok=true then te σ5 H5' λy H6=>∃ys,H6 s2.heap.objs.size=some (.lst ys)/\ys.length<sizeLine/\∃m',m'<m/\W (i+1) m' σ5 (upd H6 s2.heap.objs.size (.lst (ys++[y])))else∃m',m'<m/\W (i+1) m' σ5 H5'))
  {RR:Value->Addr->Mg->Ae->Prop}
  (hRR:∀C H' s' m,s2.heap.objs.size<=C->s'.heap.Ns C m->H' C=none->Inv X pins σ H' s'->(∀h',Dm C s'.heap h'->Inv X pins σ H' {s' with heap:=h'})->Q (.ref s2.heap.objs.size) H'->RR (.ref s2.heap.objs.size) C (.ok .next) s')
  {E:#v[a]}:
  Au #v[b] X.A (We []) (λacc s₃=>Au #v[b] X.A (Oc scope X.env.globals cl [] X.env.qual none .none (some X.env)) (λcenv s₄=>
   Gr #v[b] X.A (.compStart #v[10] 0 (.ref it) acc {cenv with scope:=relabel scope X.env}) (RR acc cenv.locals) s₄) E s₃) E s2:=
 yD S.noC hc I T st hf (λcs _ e C s2 H2 fp=>by rw[e S.nocell,S.cx];exact hg C s2 H2 fp) (λcs _ e C s2 H2 fp=>by rw[e S.nocell,S.cx];exact htc C s2 H2 fp) (λcs _ e C s2 H2 fp=>by rw[e S.nocell,S.cx];exact he C s2 H2 fp) W w0 turn hRR
def aNo{elt iter tg:Bw}{cis:List Bw}{own:List Str}{cap:#v[9]}
  (S:cZ X scope cap cl) (hc:X.calm=true) (hi:PI X tg iter wi)
  (hg:∀C s2 H2 fp,PG #v[6] tg g) (htc:∀C s2 H2 fp,PTs #v[6] cis tc) (he:∀C s2 H2 fp,PE #v[6] elt te)
  (hs:FS X iter):PE X #v[10] (aOl own.length cap wi g tc te):=by
 intro pins s σ H Q I h;rw[eval_ListComp];refine Ld (use:=none) rfl hs S.clos S.kind S.names (thn (hi pins s σ H _ I h) λv s1 h1=>thn h1 λitv s2 h2=>?_);obtain⟨it,fp,tn,J,H2,e,I2,T,st2,f2,rd⟩:=h2;subst e;obtain⟨W,w0,turn⟩:=rd _ (I2.hok.fresh (Am _));exact yE (RR:=λacc C=>compPost #v[b] X.A X.xe none (EP X pins σ Q) acc C) S hc I2 T st2 f2 hg htc he W w0 turn
  λC H' s' m _ hm _ _ hback q=>⟨m,hm,λh' hs'=>⟨.ref s2.heap.objs.size,H',hback h' hs',rfl,q⟩⟩
def aFp{x:Str}{elt iter tg:Bw}{cis:List Bw}{own:List Str}{cap:#v[9]}{pos spos py:Pos}
  (hN:X.N.Nodup) (hi':X.N[i]? =some x) (hx:Loc X.env.scope x) (S:cZ X scope cap cl) (hc:X.calm=true) (hi:PI X tg iter wi)
  (hg:∀C s2 H2 fp,PG #v[6] tg g) (htc:∀C s2 H2 fp,PTs #v[6] cis tc) (he:∀C s2 H2 fp,PE #v[6] elt te)
  (hsw:Dt #v[10] (some (.Name x py)) spos.line X.env=pure true)
  (hs:FS X iter) (hf:FL X x):
  PS X (.Assign [.Name x py] #v[10] spos) (aKw (aOl own.length cap wi g tc te) (rA i)):=by
 intro pins s σ H D I h;rw[Uz _ _ _ _ hsw];refine Aa (Iy (Aa ?_));show Au _ X.A (do let _<-comprehension #v[10] scope X.env _ (We []) false (eval iter X.env) (some (assign (.Name x py) X.env))) _ _ s;refine Aa (Dc (Ld (use:=some (assign (.Name x py) X.env)) (Q:=λ_ s'=>SP X pins D .next s') rfl hs S.clos S.kind S.names
  (thn (hi pins s σ H _ I h) λv s1 h1=>thn h1 λitv s2 h2=>?_)) (λ_ s' hq=>Ad (Ad hq)) λ_ _ e=>e)
 obtain⟨it,fp,tn,J,H2,e,I2,T,st2,f2,rd⟩:=h2;subst e;obtain⟨W,w0,turn⟩:=rd _ (I2.hok.fresh (Am _));refine yE (Q:=λx H1=>rA i x σ H1 D.nx) (RR:=λacc C=>compPost #v[b] X.A X.xe (some (assign (.Name x py) X.env)) (λ_ s'=>SP X pins D .next s') acc C) S hc I2 T st2 f2 hg htc he W w0 turn
  λC H' s' m hCle hm hCn I' hback q=>?_
 refine Pr (xT (v:=.ref s2.heap.objs.size) I' hN hi' hx rfl (λs'' I'' ⟨a,hsa,ha⟩=>?_) hf);have hCa:C≠a:=by
  rcases ha with z|z
  ·rw[z];exact Ci (gM I2.lt hCle)
  ·obtain⟨v,q'⟩:=I2.cell x a z;exact Ci (gM q'.lt hCle)
 refine⟨m,hm.sameBut hsa hCa,λh' hs'=>⟨_,H',?_,q⟩⟩;have hC0:X.s₀.heap.objs.size<=C:=Bd I2.sz hCle;have hnp:∀p∈X.pn++pins,p.1≠C:=λp hp=>gM (Ar (I2.pin p hp).1) hCle;have hcl:∀y c,X.env.cells.lookup y=some c->c≠C:=λy c e=>by
  obtain⟨v,q'⟩:=I2.cell y c e;exact gM q'.lt hCle
 have hL:C≠X.env.locals:=Ci (gM I2.lt hCle);exact I''.turned (t':=s''.toks) (it:=C) (λb o hb e=>(hs'.2 b hb).trans e) hCn hL (.inr hC0) hcl hnp
def aD2{elt iter tg:Bw}{own:List Str}{cap:#v[9]}
  (S:cZ X scope cap cl) (hc:X.calm=true) (hi:PI X tg iter wi)
  (hg:∀C s2 H2 fp,PG #v[6] tg g) (he:∀C s2 H2 fp,PE #v[6] elt te)
  (hs:FS X iter:=by intro _;rfl):PE X #v[5] (vU own.length cap wi g te):=
 aNo (tc:=aQ4) S hc hi hg (λ_ _ _ _=>aD9) he hs
def aHh{x:Str}{elt iter tg:Bw}{own:List Str}{cap:#v[9]}{pos spos py:Pos}
  (hN:X.N.Nodup) (hi':X.N[i]? =some x) (hx:Loc X.env.scope x) (S:cZ X scope cap cl) (hc:X.calm=true) (hi:PI X tg iter wi)
  (hg:∀C s2 H2 fp,PG #v[6] tg g) (he:∀C s2 H2 fp,PE #v[6] elt te)
  (hsw:Dt #v[5] (some (.Name x py)) spos.line X.env=pure true:=by rfl)
  (hs:FS X iter:=by intro _;rfl) (hf:FL X x:=by trivial):
  PS X (.Assign [.Name x py] #v[5] spos) (aKw (vU own.length cap wi g te) (rA i)):=
 aFp (tc:=aQ4) hN hi' hx S hc hi hg (λ_ _ _ _=>aD9) he hsw hs hf
def Ite(K:Ab)(a:Addr):It:=
 ⟨λi H=>∃xs x,SqL K H a xs/\xs[i]? =some x,λi H y H'=>∃p x,H p=none/\y=.ref p/\H'=upd H p (.tup [.int i,x])/\∀xs,SqL K H a xs->xs[i]? =some x,λi H=>∃xs,SqL K H a xs/\xs.length<=i⟩
def aK0{P:Ap}{w:Bh}{K:Ab}{es:List Bw}(a e it:Addr)(hei:e≠it):
  Turn P w K (.Tuple es k pos) (Ite K a) [e,it] e (λi h=>(∃old,IsEnum h e it ((i:Nat):Int) old)/\h.IsListIter it a i) where
 mem:=by simp
 obj:=λi h st b hb=>by
  obtain⟨⟨old,he⟩,⟨o,e1,c,d⟩⟩:=st;rcases Ao.mp hb with rfl|hb
  ·exact⟨_,he,λv z=>by
    have z':Yu _=Data.cell v:=z;cases z'⟩
  ·have e2:b=it:=by simpa using hb
   subst e2;exact⟨o,e1,λv z=>by rw[d]at z;cases z⟩
 keep:=λi h h' st k=>by
  obtain⟨⟨old,he⟩,hit⟩:=st;exact⟨⟨old,k e (by simp) _ he⟩,hit.at λo e'=>k it (by simp) o e'⟩
 item:=by
  intro X hP hw hK hc i pins s σ H E I hf st hg;subst hP hw hK;obtain⟨⟨old,he⟩,hit⟩:=st;obtain⟨xs,x,hq,hx⟩:=hg;obtain⟨its,rv,p,hz⟩:=I.list hq;obtain⟨u,hu,ru⟩:=rv.get hx;refine wpAny_pyNext_enum_item he hit p.isList (x:=u) (by simpa using hu) hei λh' heo hit' ht hz' hk=>?_;refine⟨_,rfl,wpAny_letOwnedTupleGo_enum heo λh'' he'' hs''=>?_⟩;have hT:H #v[0]=none:=I.hok.fresh (Am _);have heT:e≠#v[0]:=Be (Ar he);have hfe:=hf e (by simp);have hfi:=hf it (by simp);have keep:∀b o,b≠e->b≠it->s.heap.get? b=some o->h''.get? b=some o:=λb o h1 h2 h3=>(hs''.2 b h1).trans (hk b o h1 h2 h3);have keepc:∀b o,b∉[e,it]->s.heap.get? b=some o->h''.get? b=some o:=λb o h1 h3=>keep b o (λz=>h1 (by simp[z])) (λz=>h1 (by simp[z])) h3;have tup:=(hs''.2 _ (Ci heT)).trans ht;have nf:∀b u,H b=some u->b≠e/\b≠it:=λb u q=>⟨λz=>(by rw[z,hfe.1]at q;cases q),λz=>(by rw[z,hfi.1]at q;cases q)⟩;have nT:∀b u,H b=some u->b≠#v[0]:=λb u q=>aR q hT;have iti:it≠#v[0]:=by obtain⟨o,e1,_⟩:=hit;exact Be (Ar e1)
  refine⟨.ref #v[0],upd H #v[0] (.tup [.int i,x]),?_,rfl,⟨_,x,hT,rfl,rfl,λys hy=>by rw[I.list_inj hy hq];exact hx⟩,⟨⟨_,he''⟩,?_⟩,λb hb=>?_⟩
  ·show Inv X pins σ (upd H #v[0] (.tup [.int i,x])) {s with heap:=h'',gens:=s.gens,drawn:=s.drawn,toks:=s.toks+1};refine Inv.step (s:=s) (h':=h'') (t':=s.toks+1) (g':=s.gens) (d':=s.drawn) (ch:=[e,it]) I (λb hb=>?_) (λb o _ _ hc' q _=>keepc b o hc' q) (λb o _ _ hc' q _=>⟨o.slots,keepc b o hc' q⟩) (λb o _ q n=>by rw[aL (Be (Ar q))];exact n)
    (λb o hc' q=>⟨o,keepc b o hc' q⟩) (λb ys q=>by rw[aL (nT b _ q)];exact q) (λb o' ys q=>by rw[aL (nT b _ q)];exact q) (λb ps q=>⟨#[],by rw[aL (nT b _ q),q];simp⟩) (λm hm=>?_) (λb ob q=>?_) I.bare
   ·rcases Ao.mp hb with rfl|hb
    ·exact⟨hfe.2.2.2.1,hfe.2.1,hfe.2.2.2.2.1,hfe.2.2.2.2.2⟩
    ·have e2:b=it:=by simpa using hb
     subst e2;exact⟨hfi.2.2.2.1,hfi.2.1,hfi.2.2.2.2.1,hfi.2.2.2.2.2⟩
   ·obtain⟨o,es,ep,ho,r⟩:=hm;exact⟨o,es,ep,keep _ o (Ci hfe.2.1) (Ci hfi.2.1) ho,r⟩
   ·by_cases hb:b=#v[0]
    ·subst hb;rw[aM]at q;cases q;exact⟨show 2<=sizeLine by decide,[.int i s.toks,u],.cons ⟨_,rfl⟩ (.cons ru .nil),⟨_,tup,rfl,_,rfl⟩⟩
    ·rw[aL hb]at q;refine(I.hok b ob q).stay (λc w' hc' q'=>?_) (λc q'=>by rw[aL (nT c _ q')];exact q') (λc ys q'=>by rw[aL (nT c _ q')];exact q');have hne:c≠e/\c≠it:=by
      rcases hc' with rfl|hc'
      ·exact nf _ _ q
      ·exact nf _ _ hc'
     exact keep c w' hne.1 hne.2 q'
  ·exact hit'.at λo e'=>(hs''.2 it (Ci hei)).trans e'
  ·rcases Ao.mp hb with rfl|hb
   ·rw[aL heT];exact hfe.1
   ·have e2:b=it:=by simpa using hb
    subst e2;rw[aL iti];exact hfi.1
 done:=by
  intro X hP hw hK hc i pins s σ H E I hf st hg;subst hP hw hK;obtain⟨⟨old,he⟩,hit⟩:=st;obtain⟨xs,hq,hx⟩:=hg;obtain⟨its,rv,p,hz⟩:=I.list hq;obtain⟨f0,f1,f2,f3,f4,f5⟩:=hf it (by simp);have hl:=rv.length;exact wpAny_pyNext_enum_end (I.ok.hd hc) he hit p.isList (by simp;lia) λh' eb=>⟨rfl,I.turned (t':=s.toks) (λb o hb q=>eb b o hb q) f0 f1 f3 f4 f5⟩
 self:=λ_ _ _ _ _ st h=>by
  obtain⟨⟨old,he⟩,hit⟩:=st;exact Xh he h
def aWn(K:Ab)(ta:TA):TI:=λσ H R=>ta σ H λvs H1=>∃a,vs=[.ref a]/\(∃xs,SqL K H1 a xs)/\R (Ite K a) H1
def aQh{es:List Bw}{a:Bw}{ta:TA}{p pos:Pos}(hg:Gl X "enumerate")(hm:X.mg "enumerate"=none)(ha:PA X [a] ta)(hs:Bc [a] X.env=[(false,eval a X.env)]:=by rfl):
  PI X (.Tuple es k pos') (.Call (.Name "enumerate" p) [a] [] pos) (aWn X.K ta):=by
 intro pins s σ H R I h;refine Call_ (wV I hg hm boot_enumerate (Iq (thn (ha pos pins s σ H _ I h) λus s1 ⟨vs,H1,I1,r1,q1⟩=>?_) hs rfl));obtain⟨l,e,⟨xs,hq⟩,q⟩:=q1;subst e;cases r1 with
 |cons r rr=>
  cases rr;cases r;obtain⟨its,rv,pl,hz⟩:=I1.list hq;refine call_enumerate_list pl.isList λh' he hit hz' hk=>Xh he ?_;have I2:Inv X pins σ H1 {s1 with heap:=h'}:=I1.kept (t':=s1.toks) λb o e=>hk b o e;have hne:s1.heap.objs.size+1≠s1.heap.objs.size:=Nat.succ_ne_self _;refine⟨s1.heap.objs.size+1,[s1.heap.objs.size+1,s1.heap.objs.size],_,_,H1,rfl,I2,aK0 l _ _ hne,⟨⟨_,he⟩,hit⟩,λb hb=>?_,q⟩;rcases Ao.mp hb with rfl|hb
  ·exact I1.fpOk (Gp _) (I1.hok.fresh (Gp _))
  ·have e2:b=s1.heap.objs.size:=by simpa using hb
   subst e2;exact I1.fpOk (Am _) (I1.hok.fresh (Am _))
def aEz:gF X (.builtin "isinstance") (λxs H Q=>∃x n t b,xs=[x,.ty n]/\uP X.K H x t/\Dk X.K t (.type n)=some b/\Q (.bl b) H):=by
 intro pins s σ H xs us Q I r h;obtain⟨x,n,t,b,rfl,ty,e,q⟩:=h;obtain⟨u,w',rfl,ru,rw'⟩:=vals2 r;cases rw';exact aJt I ru ty e λtk=>⟨.bl b,H,I.tok tk,rfl,q⟩
def aNg:OpR X (Gs .Add) (λx y H Q=>∃a b ys,x=.ref a/\y=.ref b/\SqT X.K H a []/\SqT X.K H b ys/\Q (.ref b) H):=by
 intro pins s σ H x y v u Q I rx ry h;obtain⟨a,b,ys,rfl,rfl,ha,hb,q⟩:=h;cases rx;cases ry;obtain⟨its,r1,p1,_⟩:=I.tuple ha;obtain⟨its2,r2,p2,_⟩:=I.tuple hb;cases r1;obtain⟨⟨cls,dd,data,sl⟩,ho,hc,n,hd⟩:=id p1;obtain⟨⟨cls2,dd2,data2,sl2⟩,ho2,hc2,n2,hd2⟩:=id p2;simp only at hc hd hc2 hd2;subst hc hd hc2 hd2;exact Vb ⟨_,ho,rfl⟩ ⟨_,ho2,rfl⟩ Qw Th Kw Kq (Kf _ _)
   (tuple_addW0 a b _ _ n n2 dd dd2 sl sl2 (by simp)) ⟨ho,ho2,⟨.ref b,H,I,rfl,q⟩⟩
def aQb:OpR X (Gs .Mult) (λx y H Q=>∃l k xs,x=.ref l/\y=.int k/\SqT X.K H l xs/\xs≠[]/\0<=k/\k<1000/\xs.length<=1000/\
  (k=1->Q (.ref l) H)/\(k≠1->∀p,H p=none->Q (.ref p) (upd H p (.tup (Al k.toNat xs).flatten)))):=by
 intro pins s σ H x y v u Q I rx ry h;obtain⟨l,k,xs,rfl,rfl,ha,hx,h0,h1,hz,q1,q2⟩:=h;cases rx;obtain⟨t,rfl⟩:=ry;obtain⟨its,r,p,_⟩:=I.tuple ha;obtain⟨⟨cls,dd,data,sl⟩,ho,hc,n,hd⟩:=id p;simp only at hc hd;subst hc hd;have hl:=r.length;have hne:its.toArray.isEmpty=false:=by
  cases its with
  |nil=>cases r;exact absurd rfl hx
  |cons a b=>simp
 refine wpAny_binaryOp_repeat_ref (T:="tuple") (U:="int") ⋯ ⟨_,ho,rfl⟩ (λs'=>Xk s' k t) wZ F.fills_int_mul Xx aEb F.slot_int_index.lookup
  (Nm Xx (Xk s k t) F.entry_int_rmul (F.args_int_rmul_2 _ _) (aAo k t l its.toArray n dd sl) ⟨ho,rfl,⟨_,ho,rfl⟩,?_⟩)
 by_cases hk1:k=1
 ·exact Nm Qg ⟨_,ho,rfl⟩ Pe (On _ _) (aHp l its.toArray n dd sl k t hk1) ⟨ho,⟨.ref l,H,I,rfl,q1 hk1⟩⟩
 ·by_cases hk0:k=0
  ·subst hk0;refine Nm Qg ⟨_,ho,rfl⟩ Pe (On _ _) (aHo l its.toArray n dd sl 0 t hne ⋯ ⋯) ⟨ho,?_⟩;exact⟨.ref #v[0],_,I.laid (t':=s.toks) (o:=.tup []) (λb ob q=>Af _ q) (Am _) ⟨Bt _,[],.nil,Pc _ _⟩,rfl,q2 hk1 _ (I.hok.fresh (Am _))⟩
  ·refine Nm Qg ⟨_,ho,rfl⟩ Pe (On _ _) (aHq l its.toArray n dd sl k t hne ∅ h1 (by rw[Ai, <-hl];exact hz)) ⟨ho,?_⟩;have f0:Rf (λx1 x2=>x1++x2) #[] (Al k.toNat its.toArray)=(Al k.toNat its).flatten.toArray:=by
    have:=foldl_rep its k.toNat [];rw[Jx]at this;exact this
   rw[f0];refine⟨.ref #v[0],_,I.laid (t':=s.toks) (o:=.tup (Al k.toNat xs).flatten) (λb ob q=>Af _ q) (Am _) ⟨?_,_,r.rep k.toNat,Pc _ _⟩,rfl,q2 hk1 _ (I.hok.fresh (Am _))⟩;rw[len_rep];have h2:(1000000:Nat)<=sizeLine:=by decide
   have h3:k.toNat*xs.length<=1000*1000:=Nat.mul_le_mul ∅ hz
   lia
def aE6{x:V}(h:lC x=true):eqV x x=true:=by
 cases x<;>first|rfl|exact beq_self_eq_true _|(exact(As h).elim)
def qT(e:Nat->Bool)(n:Nat):(Cj (n+1)).all e=(e 0 && (Cj n).all λj=>e (j+1)):=by
 rw[List.range_succ_eq_map,Nr,Oj];rfl
section
variable {X:Cx}{pins:#v[4]}{σ:St}{H:Hp}{s:Ae}{A:Bl}
end
theorem lR(env:Env):∀(names:List (Str×Ja))(acc:List (Str×Addr)),(∀y∈names,y.2=.free->∃c,env.cells.lookup y.1=some c)->(∀x c,acc.lookup x=some c->env.cells.lookup x=some c)->
  ∃cl,(forIn names acc (λ(x:Str×Ja)(cs:List (Str×Addr))=>(if(x.2==Dg)=true then(do let a<-cellOf env x.1;pure (Hm ((x.1,a)::cs)):Sem _)else pure (Hm cs))):Sem (List (Str×Addr)))=pure cl/\
   (∀x c,cl.lookup x=some c->env.cells.lookup x=some c)/\(∀x,(∃c,acc.lookup x=some c)∨(x,Dg)∈names->∃c,cl.lookup x=some c)
 | [],acc,_,h2=>⟨acc,rfl,h2,λx hx=>hx.elim id λz=>(by cases z)⟩
 |(n,k)::r,acc,h1,h2=>by
  by_cases hk:k=.free
  ·subst hk;obtain⟨c,hc⟩:=h1 (n,.free) Ah rfl;obtain⟨cl,e,a,b⟩:=lR env r ((n,c)::acc) (λy hy=>h1 y (Ag _ hy)) (λx c' hx=>by
    cases hxn:x==n with
    |true=>
     simp only[Bi,hxn]at hx;have:x=n:=eq_of_beq hxn;subst this;cases hx;exact hc
    |false=>
     simp only[Bi,hxn]at hx;exact h2 x c' hx)
   refine⟨cl,?_,a,λx hx=>b x ?_⟩
   ·rw[<-e,Pn];have ec:cellOf env n=pure c:=by unfold cellOf;rw[hc]
    simp only[beq_self_eq_true,if_true,ec];rfl
   ·rcases hx with ⟨c',hx⟩|hx
    ·refine .inl ?_;cases hxn:x==n with
     |true=>exact⟨c,by simp only[Bi,hxn]⟩
     |false=>exact⟨c',by simp only[Bi,hxn];exact hx⟩
    ·rcases Ao.mp hx with z|z
     ·cases z;exact .inl ⟨c,by simp[Bi]⟩
     ·exact .inr z
  ·obtain⟨cl,e,a,b⟩:=lR env r acc (λy hy=>h1 y (Ag _ hy)) h2;refine⟨cl,?_,a,λx hx=>b x ?_⟩
   ·rw[<-e,Pn];have hb:(k==Dg)=false:=by simpa using hk
    simp only[hb,Dx,if_false];rfl
   ·rcases hx with hx|hx
    ·exact .inl hx
    ·rcases Ao.mp hx with z|z
     ·cases z;exact absurd rfl hk
     ·exact .inr z
def aGu{X:Cx}{cap:#v[9]}(hcell:HC X)(kind:scope.kind=.function)(nocell:∀y∈scope.names,y.2≠.cell)
  (names:∀y∈scope.names,y.2=.local->scope.names.lookup y.1=some .local) (free:∀y∈scope.names,y.2=.free->X.env.scope.names.lookup y.1=some .cell)
  (hcap:∀p∈cap,X.N[p.2]? =some p.1/\scope.names.lookup p.1=some .free/\X.env.scope.names.lookup p.1=some .cell):∃cl,cZ X scope cap cl:=by
 obtain⟨cl,e,a,b⟩:=lR X.env scope.names [] (λy hy hf=>hcell _ (free y hy hf)) (λx c h=>by simp at h);refine⟨cl,?_,kind,nocell,names,a,λx hx=>b x (.inr (Bz hx)),hcap⟩;unfold Nl;refine Vo ?_ e;simp only[bind_pure]
def uT:gF X (.builtin "all") (λxs H Q=>∃(p:Addr)(bs:List Bool),xs=[.ref p]/\SqL X.K H p (bs.map V.bl)/\X.calm=true/\Q (.bl (bs.all id)) H):=by
 intro pins s σ H xs us Q I r h;obtain⟨p,bs,rfl,hq,hc,q⟩:=h;obtain⟨u,rfl,ru⟩:=vals1 r;cases ru;obtain⟨its,rv,pl,hz⟩:=I.list hq;have hl:=rv.length;rw[Ac]at hl;refine call_all_walk (Pq pl.isList ?_);have hlt:p<#v[0]:=by obtain⟨o,e,_⟩:=pl.isList;exact Ar e
 have hne:p≠#v[0]:=Be hlt;have hd:X.A.in1.handled=none:=I.ok.hd hc;refine⟨#v[0],_,_,_,_,_,λi=>bs.getD i true,rfl,Tn hd #v[0] p hne its.toArray,⟨⟨_,Ba _ rfl,rfl,rfl⟩,pl.isList.push _⟩,λi v s' Q' E' hv hQ=>?_,λh' tk hk=>?_⟩
 ·have hv':its[i]? =some v:=by simpa using hv
  have hi:i<its.length:=(Ax.mp hv').1;have hi':i<bs.length:=by lia
  have e1:(bs.map V.bl)[i]? =some (V.bl bs[i]):=by simp[hi']
  obtain⟨u,hu,ru⟩:=rv.get e1;rw[hv']at hu;cases hu;have ru':v=Hn bs[i]:=ru;subst ru';have e2:bs.getD i true=bs[i]:=by simp[hi']
  have hQ':Q' (bs.getD i true) s':=hQ;rw[e2]at hQ';exact De hQ'
 ·refine⟨.bl (bs.all id),H,?_,?_,q⟩
  ·exact I.kept (t':=tk) λb o e=>hk b o (by simp;exact Be (Ar e)) (Af _ e)
  ·show Hn _=Hn _;congr 1;have e:its.toArray.size=bs.length:=by rw[Ai];lia
   rw[e];have:∀l:List Bool,(Cj l.length).all (λi=>l.getD i true)=l.all id:=by
    intro l;induction l with
    |nil=>rfl
    |cons b l ih=>
     rw[Aq,qT,Nr, <-ih];congr 1
   exact this bs
theorem aBf:∀{us:List Value}{ns:List Int},Ni us ns->Vals (ns.map V.int) us
 |_,_,.nil=> .nil
 |_,_,.cons i t r=> .cons ⟨t,rfl⟩ (aBf r)
theorem aA3(f:Nat->Int)(ns:List Int)(h:∀j,j<ns.length->f j=ns.getD j 0):∀n,n<=ns.length->preSum f n=(ns.take n).sum
 |0,_=>by simp[preSum]
 |n+1,hn=>by
  show preSum f n+f n=_;rw[aA3 f ns h n ∅,h n hn,List.take_succ];have e:ns[n]? =some (ns.getD n 0):=by simp[show n<ns.length from hn]
  rw[e,List.sum_append];simp
theorem yR:∀(ns:List Int)(b:Int),(∀n∈ns,0<=n/\n<=b)->0<=b->∀j,0<=(ns.take j).sum/\(ns.take j).sum<=ns.length*b
 | [],b,_,hb,j=>by simp
 |n::ns,b,h,hb,0=>by
  simp;exact Int.mul_nonneg ∅ hb
 |n::ns,b,h,hb,j+1=>by
  have ih:=yR ns b (λm hm=>h m (Ag _ hm)) hb j;have hn:=h n Ah;rw[List.take_succ_cons,List.sum_cons,Aq];have:((ns.length+1:Nat):Int)*b=ns.length*b+b:=by rw[Int.natCast_add,Int.add_mul];simp
  rw[this]
  lia
inductive aR5(K:Ab)(xs:List V)(H:Hp)(Q:VK):Prop
 |mk (p:Addr) (ns:List Int) (q0_:xs=[.ref p]) (q1_:SqL K H p (ns.map V.int)) (q2_:ns.length<=1000) (q3_:(∀n∈ns,0<=n/\n<=1000)) (q4_:Q (.int ns.sum) H):aR5 K xs H Q
def aXf(K:Ab):List V->Hp->VK->Prop:=λxs H Q=>aR5 K xs H Q
def aLq(hc:X.calm=true):gF X (.builtin "sum") (aXf X.K):=by
 intro pins s σ H xs us Q I r h;obtain⟨p,ns,rfl,hq,hln,hb,q⟩:=h;obtain⟨u,rfl,ru⟩:=vals1 r;cases ru;obtain⟨its,rv,pl,hz⟩:=I.list hq;have hi:Ni its ns:=intsAre_of rv;obtain⟨ys,e⟩:=hi.allInts.items;have hns:ns=ys.toList.map (·.1):=by
  rw[<-hi.numsOf, <-nums_intItems, <-e]
 have hsz:ys.size=ns.length:=by rw[hns,Ac,Aw]
 have hl:=pl.isList;rw[e]at hl;have hat:∀j,j<ns.length->numAt ys j=ns.getD j 0:=λj hj=>by
  rw[numAt_eq,hns]
 have hps:∀n,n<=ns.length->preSum (numAt ys) n=(ns.take n).sum:=aA3 _ _ hat;have hsum:=yR ns 1000 hb ⋯;have hbig:(ns.length:Int)*1000<=1000000:=by lia
 refine sum_intList (I.ok.hd hc) hl (λj hj=>⟨?_,?_⟩) λh' tk t' hk=>?_
 ·have hj':j<ns.length:=by lia
  rw[hat j hj'];have:=hb (ns.getD j 0) (by simp[hj']);exact⟨∅,∅⟩
 ·rw[hps (j+1) ∅];have:=hsum (j+1);exact⟨∅,∅⟩
 ·refine⟨.int _,H,I.kept (t':=tk) hk,⟨t',rfl⟩,?_⟩;rw[hsz,hps _ (Am _),Vk];exact q
section
variable {prog:Ap}{w:Bh}{A:Bl}
def aJc(x d:Value):Wt "max" ⟨[x],[(Ht "default",d)]⟩:=by
 unfold Wt
 kernel_rfl
def aTa(num:Nat->Int)(P:Nat->Value->Prop)(j:Nat):Option (Nat×Value)->Prop
 |none=>j=0
 |some (i,v)=>i<j/\P i v/\∀t,t<j->num t<=num i
def aIe(o:Option (Nat×Value)):Array Value:=match o with
 |none=> #[]
 |some (_,v)=> #[v,v]
theorem aAw{It Bx:Addr}{fp wr:List Addr}{n:Nat}{P:Nat->Value->Prop}{St:Nat->Heap->Prop}{R:Mg->Ae->Prop}{d:Value}{num:Nat->Int}(W:Walks prog w A.in1 It fp wr n P St)(cm:CmpOf prog w A.in1 .Gt P (λi j=>decide (num i>num j)))(apart:Bx∉fp):
  ∀(k j:Nat)(s:Ae)(o:Option (Nat×Value))(c:Nat),n=j+k->St j s.heap->aTa num P j o->s.heap.get? Bx=some {cls:=.type "list",dict:=none,data:=.seq (aIe o) c,slots:= #[]}->
   (∀v h' tk,(n=0/\v=d∨∃o',o'=some v/\∃i,aTa num P n (some (i,v)))->(∀b ob,b∉wr->b≠Bx->s.heap.get? b=some ob->h'.get? b=some ob)->R (.ok (.ret v)) {s with heap:=h',toks:=tk})->
   Gr #v[c] A (.builtin "max.loop" ⟨[.ref It,.none,.ref Bx],[("default",d)]⟩) R s
 |0,j,s,o,c,en,at_,top,hS,fin=>by
  have outw:Bx∉wr:=λz=>apart (W.sub _ z);cases en;refine Ee Xb ?_;rw[Di Hw _];show Au _ A.in1 (Ut (.ref Bx)>>=_) _ _ s;refine Aa (Gz hS rfl ?_);show Au _ A.in1 (tryCatch (Ox (.ref It)) _>>=_) _ _ s;refine Aa (Sa (W.done s _ _ at_ λh' tk kept=>?_));have hS2:=kept Bx _ outw hS;cases o with
  |none=>
   have z:j=0:=top;show Au _ A.in1 (rule _>>=_) _ _ _;exact Aa (Nk (Ad (fin d h' tk (.inl ⟨z,rfl⟩) λb ob h1 _ h3=>kept b ob h1 h3)))
  |some q=>
   show Au _ A.in1 (Us Bx (λ_=> #[])>>=_) _ _ _;refine Aa (Kl (hz:=by show 2<=sizeLine;decide) hS2 rfl (Aa (Oe (Ad (fin q.2 _ tk (.inr ⟨_,rfl,q.1,top⟩) λb ob h1 h2 h3=>?_)))));exact(Bj _ _ (Ci h2)).trans (kept b ob h1 h3)
 |k+1,j,s,o,c,en,at_,top,hS,fin=>by
  have outw:Bx∉wr:=λz=>apart (W.sub _ z);have more:j<n:=by lia
  have nm:(toString "max"++toString ".loop":String)="max.loop":=by decide
  refine Ee Xb ?_;rw[Di Hw _];show Au _ A.in1 (Ut (.ref Bx)>>=_) _ _ s;refine Aa (Gz hS rfl ?_);show Au _ A.in1 (tryCatch (Ox (.ref It)) _>>=_) _ _ s;refine Aa (Sa (W.item j s _ _ more at_ λv h' tk pv at2 kept=>?_));have hS2:=kept Bx _ outw hS;have step:∀(o2:Option (Nat×Value))(c2:Nat)(h2:Heap)(t2:Nat),aTa num P (j+1) o2->h2.get? Bx=some {cls:=.type "list",dict:=none,data:=.seq (aIe o2) c2,slots:= #[]}->(∀b ob,b≠Bx->h'.get? b=some ob->h2.get? b=some ob)->
    Gr #v[c] A (.builtin "max.loop" ⟨[.ref It,.none,.ref Bx],[("default",d)]⟩) R {s with heap:=h2,toks:=t2}:=λo2 c2 h2 t2 top2 hS3 k2=>by
   refine aAw W cm apart k (j+1) {s with heap:=h2,toks:=t2} o2 c2 ∅ (W.frame _ _ _ at2 λb hb ob e=>k2 b ob (λz=>apart (z▸hb)) e) top2 hS3 λv3 h3 t3 r3 k3=>?_;exact fin v3 h3 t3 r3 λb ob a1 a2 a3=>k3 b ob a1 a2 (k2 b ob a2 (kept b ob a1 a3))
  cases o with
  |none=>
   have z:j=0:=top;subst z;show Au _ A.in1 (Us Bx (λ_=> #[v,v])>>=_) _ _ _;refine Aa (Kl hS2 rfl ?_);rw[nm];refine Ad ⟨Gb Hw _,step (some (0,v)) _ _ _ ⟨Nat.one_pos,pv,λt ht=>?_⟩ (Bn _ hS2 rfl) λb ob hb e=>(Bj _ _ (Ci hb)).trans e⟩;have:t=0:=by lia
   subst this;exact Ua _
  |some q=>
   obtain⟨i,vb⟩:=q;obtain⟨hi,pb,best⟩:=top;show Au _ A.in1 (tryCatch (holding [v,v] (richCompare .Gt v vb>>=_)) _>>=_) _ _ _;refine Aa (Sa (Cg (Aa (cm j i v vb _ _ _ pv pb ?_))));refine Aa (Cg (De (Aa (Oe (Ad ?_)))));dsimp only;by_cases hb:num j>num i
   ·rw[decide_eq_true hb,if_pos rfl];refine Aa (Kl (hz:=by show 2<=sizeLine;decide) hS2 rfl (Aa (Oe ?_)));rw[nm];refine Ad ⟨Gb Hw _,step (some (j,v)) _ _ _ ⟨Fs j,pv,λt ht=>?_⟩ (Bn _ hS2 rfl) λb ob hb e=>(Bj _ _ (Ci hb)).trans e⟩;by_cases ht2:t<j
    ·have:=best t ht2;lia
    ·have:t=j:=by lia
     subst this;exact Ua _
   ·rw[decide_eq_false hb,if_neg As];refine Aa (Oe ?_);rw[nm];refine Ad ⟨Gb Hw _,step (some (i,vb)) _ _ _ ⟨∅,pb,λt ht=>?_⟩ hS2 λb ob _ e=>e⟩;by_cases ht2:t<j
    ·exact best t ht2
    ·have:t=j:=by lia
     subst this
     lia
end
section
variable {prog:Ap}{w:Bh}{A:Bl}
end
def aK5(X:Cx)(f:Value)(ks:List Str)(r:List V->List V->Hp->VK->Prop):Prop:=
 ∀(pins:#v[4])(s:Ae)(σ:St)(H:Hp)(xs ys:List V)(us ws:List Value)(Q:VK),#v[1]->Vals xs us->Vals ys ws->r xs ys H Q->Au #v[b] X.A (call f us (ks.zip ws)) (EP X pins σ Q) X.xe s
def aZc(r:List V->List V->Hp->VK->Prop)(t tk:TA):TE:=λσ H Q=>t σ H λxs H1=>tk σ H1 λys H2=>r xs ys H2 Q
def aKm{X:Cx}{x:Str}{id:String}{ks:List Str}{r:List V->List V->Hp->VK->Prop}{e:Bw}{es:List Bw}{kws:List Jm}{t tk:TA}{p pos:Pos}(hc:aK5 X (.builtin id) ks r)(hg:Gl X x)(hm:X.mg x=none)(hv:Gc x=some (.builtin id))(ha:PA X (e::es) t)(hkw:PK X kws tk)
  (hall:(Gh pos (Do kws X.env)).all (·.1.isSome)=true:=by rfl) (hks:(Gh pos (Do kws X.env)).filterMap (·.1)=ks:=by rfl) (hn:x≠"__name__":=by decide) (hdb:ND x:=by decide)
  (he:SE X e es:=by rfl) (hpl:(Ju pos (Bc (e::es) X.env)).any (·.1)=false:=by rfl) (hpk:(Gh pos (Do kws X.env)).any (·.1.isNone)=false:=by rfl):PE X (.Call (.Name x p) (e::es) kws pos) (aZc r t tk):=by
 intro pins s σ H Q I h;refine Hh (wV I hg hm hv ?_ hn hdb);refine Ym (thn (ha pos pins s σ H _ I h) λus s1 ⟨vs,H1,I1,r1,q1⟩=>?_) (by rw[he];rfl) hpl hall hpk;refine thn (hkw pos pins s1 σ H1 _ I1 q1) λws s2 ⟨zs,H2,I2,rz,q2⟩=>?_;rw[hks];exact hc pins s2 σ H2 vs zs us ws Q I2 r1 rz q2
def aXa(K:Ab):List V->List V->Hp->VK->Prop:=λxs ys H Q=>∃p ns d,xs=[.ref p]/\ys=[d]/\SqL K H p (ns.map V.int)/\(ns=[]->Q d H)/\∀m:Int,m∈ns->(∀a∈ns,a<=m)->Q (.int m) H
def aJe{X:Cx}(hc:X.calm=true):aK5 X (.builtin "max") ["default"] (aXa X.K):=by
 intro pins s σ H xs ys us ws Q I r rk h;obtain⟨p,ns,d,rfl,rfl,hq,q0,q1⟩:=h;obtain⟨u,rfl,ru⟩:=vals1 r;obtain⟨dv,rfl,rd⟩:=vals1 rk;cases ru;obtain⟨its,rv,pl,hz⟩:=I.list hq;have hi:Ni its ns:=intsAre_of rv;obtain⟨ys,e⟩:=hi.allInts.items;have hns:ns=ys.toList.map (·.1):=by rw[<-hi.numsOf, <-nums_intItems, <-e]
 have hl:=pl.isList;rw[e]at hl;have nm:(toString "max"++toString ".loop":String)="max.loop":=by decide
 refine kmb_tree F.kind_max F.plain_max F.entry_max (aJc _ _) ?_;show Au _ X.A.in1 (Lq "max" ["key","default"] 0 ⟨[],[(Ht "default",dv)]⟩>>=_) _ _ s;refine Aa (Wb (show Lq "max" ["key","default"] 0 ⟨[],[(Ht "default",dv)]⟩=pure [none,some dv] by rfl) (Aa (Ad ?_)));refine Aa (iter_intList hl λs₂ es st hfp hlI=>?_);refine Aa (Dj ?_);have apart:s₂.heap.objs.size∉[#v[0],p]:=λz=>Dr _ (hfp _ z);rw[nm];have W:=Tn (prog:=X.prog) (w:=X.w) (A:=X.A.in1) (I.ok.hd hc) #v[0] p hlI (Tj ys);refine Ad ⟨Gb Hw _,aAw W (CmpOf.ints_gt (numAt ys) (λ_ _=>intItems_at)) apart _ 0 _ none _ (by rw[Kj]) (W.frame _ _ _ st λb _ o eb=>Af _ eb) rfl (Ba _ rfl) λv h' tk res kept=>?_⟩;subst es;have old:∀b o,s.heap.get? b=some o->h'.get? b=some o:=λb o eb=>by
  have lt:=Ar eb;refine kept b o (λz=>?_) (λz=>?_) (Af _ (Af _ eb))
  ·have z':=Br.mp z;exact absurd lt (by rw[z'];exact Dr _)
  ·rw[Dd]at z;exact absurd lt (by rw[z];exact Nat.not_lt.mpr (Gp _))
 rcases res with ⟨n0,rfl⟩|⟨_,_,i,hin,pv,best⟩
 ·refine⟨d,H,I.kept (t':=tk) old,rd,q0 ?_⟩;rw[hns];have:ys.size=0:=by simpa[Tj]using n0
  rw[Cz, <-Aw]at*;exact List.eq_nil_of_length_eq_zero (by rw[Aw];exact this)
 ·obtain⟨t,rfl⟩:=intItems_at (by simpa[Tj]using pv);have hin':i<ys.size:=by simpa[Tj]using hin
  refine⟨.int _,H,I.kept (t':=tk) old,⟨t,rfl⟩,q1 _ ?_ λa ha=>?_⟩
  ·rw[hns,numAt_eq];exact getD_mem (by rw[Ac,Aw];lia)
  ·rw[hns]at ha;obtain⟨j,hj,rfl⟩:=mem_getD ha;rw[Ac,Aw]at hj;have:=best j (by simpa[Tj]using hj);rw[<-numAt_eq];exact this
inductive D where
 |fl (x:V)
 |tp (l:List D)
 |ls (l:List D)
mutual
def Den(K:Ab)(H:Hp):D->V->Prop
 |.fl x,v=>v=x/\lC x=true
 |.tp l,v=>∃a xs,v=.ref a/\SqT K H a xs/\wI K H l xs
 |.ls l,v=>∃a xs,v=.ref a/\SqL K H a xs/\wI K H l xs
def wI(K:Ab)(H:Hp):List D->List V->Prop
 | [],xs=>xs=[]
 |d::l,xs=>∃x r,xs=x::r/\Den K H d x/\wI K H l r
end
mutual
def D.eq:D->D->Bool
 |.fl x,.fl y=>eqV x y
 |.tp l,.tp m=>D.eqs l m
 |.ls l,.ls m=>D.eqs l m
 |_,_=>false
def D.eqs:List D->List D->Bool
 | [],[]=>true
 |x::l,y::m=>D.eq x y && D.eqs l m
 |_,_=>false
end
mutual
def D.dep:D->Nat
 |.fl _=>0
 |.tp l=>D.deps l+1
 |.ls l=>D.deps l+1
def D.deps:List D->Nat
 | []=>0
 |x::l=>max (D.dep x) (D.deps l)
end
section
variable {X:Cx}{pins:#v[4]}{σ:St}{H:Hp}{s:Ae}
def Inv.not_both{xs ys:List V}(I:#v[1])(h:SqL X.K H a xs)(h':SqT X.K H a ys):False:=by
 obtain⟨its,r1,p1,_⟩:=I.list h;obtain⟨its2,r2,p2,_⟩:=I.tuple h';obtain⟨o,ho,hc,_⟩:=p1.isList;obtain⟨o2,ho2,hc2,_⟩:=p2;rw[ho]at ho2;cases ho2;rw[hc]at hc2;simp at hc2
mutual
theorem aAk(I:#v[1]):∀(d e:D){v:V},Den X.K H d v->Den X.K H e v->d.eq e=true
 |.fl x,.fl y,v,h,h'=>by
  obtain⟨rfl,f⟩:=h;obtain⟨rfl,_⟩:=h';rw[D.eq];exact aE6 f
 |.fl x,.tp m,v,h,h'=>by
  obtain⟨rfl,f⟩:=h;obtain⟨a,xs,rfl,_⟩:=h';exact(As f).elim
 |.fl x,.ls m,v,h,h'=>by
  obtain⟨rfl,f⟩:=h;obtain⟨a,xs,rfl,_⟩:=h';exact(As f).elim
 |.tp l,.fl x,v,h',h=>by
  obtain⟨rfl,f⟩:=h;obtain⟨a,xs,rfl,_⟩:=h';exact(As f).elim
 |.ls l,.fl x,v,h',h=>by
  obtain⟨rfl,f⟩:=h;obtain⟨a,xs,rfl,_⟩:=h';exact(As f).elim
 |.tp l,.tp m,v,h,h'=>by
  obtain⟨a,xs,rfl,h1,h2⟩:=h;obtain⟨b,ys,e,h3,h4⟩:=h';cases e;rw[I.tuple_inj h3 h1]at h4;rw[D.eq];exact wN I l m h2 h4
 |.ls l,.ls m,v,h,h'=>by
  obtain⟨a,xs,rfl,h1,h2⟩:=h;obtain⟨b,ys,e,h3,h4⟩:=h';cases e;rw[I.list_inj h3 h1]at h4;rw[D.eq];exact wN I l m h2 h4
 |.tp l,.ls m,v,h,h'=>by
  obtain⟨a,xs,rfl,h1,h2⟩:=h;obtain⟨b,ys,e,h3,h4⟩:=h';cases e;exact(I.not_both h3 h1).elim
 |.ls l,.tp m,v,h,h'=>by
  obtain⟨a,xs,rfl,h1,h2⟩:=h;obtain⟨b,ys,e,h3,h4⟩:=h';cases e;exact(I.not_both h1 h3).elim
theorem wN(I:#v[1]):∀(l m:List D){xs:List V},wI X.K H l xs->wI X.K H m xs->D.eqs l m=true
 | [],[],xs,h,h'=>by rw[D.eqs]
 | [],_::_,xs,h,h'=>by
  obtain⟨x,r,rfl,_⟩:=h';cases (show(x::r)=[]from h)
 |_::_,[],xs,h',h=>by
  obtain⟨x,r,rfl,_⟩:=h';cases (show(x::r)=[]from h)
 |d::l,e::m,xs,h,h'=>by
  obtain⟨x,r,rfl,h1,h2⟩:=h;obtain⟨y,r',q,h3,h4⟩:=h';cases q;rw[D.eqs,aAk I d e h1 h3,wN I l m h2 h4];rfl
end
mutual
theorem aLv(I:#v[1]):∀(d e:D){v v':V}{u u':Value}{A:Bl},RelV v u->RelV v' u'->Den X.K H d v->Den X.K H e v'->A.units+d.dep+e.dep<cLine->Li A s u u' (d.eq e)
 |.fl x,.fl y,v,v',u,u',A,r,r',h,h',hu=>by
  obtain⟨rfl,f⟩:=h;obtain⟨rfl,f'⟩:=h';rw[D.eq];exact aTl r r' f f'
 |.fl x,.tp m,v,v',u,u',A,r,r',h,h',hu=>by
  obtain⟨rfl,f⟩:=h;obtain⟨a,xs,rfl,hb,_⟩:=h';cases r';obtain⟨its2,r2,p2,_⟩:=I.tuple hb;rw[show D.eq (.fl v) (.tp m)=false by simp[D.eq]];have hu':A.units<cLine:=by lia
  cases v with
  |non=>cases r;exact SeqAt.EqAt.none_tuple p2 hu'
  |bl c=>cases r;exact SeqAt.EqAt.bool_tuple c p2 hu'
  |int c=>obtain⟨t,rfl⟩:=r;exact SeqAt.EqAt.int_tuple c t p2 hu'
  |str c=>obtain⟨t,rfl⟩:=r;exact SeqAt.EqAt.str_tuple c t p2 hu'
  |_=>exact(As f).elim
 |.fl x,.ls m,v,v',u,u',A,r,r',h,h',hu=>by
  obtain⟨rfl,f⟩:=h;obtain⟨a,xs,rfl,hb,_⟩:=h';cases r';obtain⟨its2,r2,p2,_⟩:=I.list hb;rw[show D.eq (.fl v) (.ls m)=false by simp[D.eq]];have hu':A.units<cLine:=by lia
  cases v with
  |non=>cases r;exact SeqAt.EqAt.none_list p2.isList hu'
  |bl c=>cases r;exact SeqAt.EqAt.bool_list c p2.isList hu'
  |int c=>obtain⟨t,rfl⟩:=r;exact SeqAt.EqAt.int_list c t p2.isList hu'
  |str c=>obtain⟨t,rfl⟩:=r;exact SeqAt.EqAt.str_list c t p2.isList hu'
  |_=>exact(As f).elim
 |.tp l,.fl x,v',v,u',u,A,r',r,h',h,hu=>by
  obtain⟨rfl,f⟩:=h;obtain⟨a,xs,rfl,hb,_⟩:=h';cases r';obtain⟨its2,r2,p2,_⟩:=I.tuple hb;rw[show D.eq (.tp l) (.fl v)=false by simp[D.eq]];have hu':A.units<cLine:=by lia
  cases v with
  |non=>cases r;exact SeqAt.EqAt.tuple_none p2 hu'
  |bl c=>cases r;exact SeqAt.EqAt.tuple_bool c p2 hu'
  |int c=>obtain⟨t,rfl⟩:=r;exact SeqAt.EqAt.tuple_int c t p2 hu'
  |str c=>obtain⟨t,rfl⟩:=r;exact SeqAt.EqAt.tuple_str c t p2 hu'
  |_=>exact(As f).elim
 |.ls l,.fl x,v',v,u',u,A,r',r,h',h,hu=>by
  obtain⟨rfl,f⟩:=h;obtain⟨a,xs,rfl,hb,_⟩:=h';cases r';obtain⟨its2,r2,p2,_⟩:=I.list hb;rw[show D.eq (.ls l) (.fl v)=false by simp[D.eq]];have hu':A.units<cLine:=by lia
  cases v with
  |non=>cases r;exact SeqAt.EqAt.list_none p2.isList hu'
  |bl c=>cases r;exact SeqAt.EqAt.list_bool c p2.isList hu'
  |int c=>obtain⟨t,rfl⟩:=r;exact SeqAt.EqAt.list_int c t p2.isList hu'
  |str c=>obtain⟨t,rfl⟩:=r;exact SeqAt.EqAt.list_str c t p2.isList hu'
  |_=>exact(As f).elim
 |.tp l,.ls m,v,v',u,u',A,r,r',h,h',hu=>by
  obtain⟨a,xs,rfl,h1,_⟩:=h;obtain⟨b,ys,rfl,h3,_⟩:=h';cases r;cases r';obtain⟨its,r1,p1,_⟩:=I.tuple h1;obtain⟨its2,r2,p2,_⟩:=I.list h3;rw[show D.eq (.tp l) (.ls m)=false by simp[D.eq]];exact SeqAt.EqAt.tuple_list p1 p2.isList ∅
 |.ls l,.tp m,v,v',u,u',A,r,r',h,h',hu=>by
  obtain⟨a,xs,rfl,h1,_⟩:=h;obtain⟨b,ys,rfl,h3,_⟩:=h';cases r;cases r';obtain⟨its,r1,p1,_⟩:=I.list h1;obtain⟨its2,r2,p2,_⟩:=I.tuple h3;rw[show D.eq (.ls l) (.tp m)=false by simp[D.eq]];exact SeqAt.EqAt.list_tuple p1.isList p2 ∅
 |.tp l,.tp m,v,v',u,u',A,r,r',h,h',hu=>by
  by_cases hab:v=v'
  ·subst hab;rw[aAk I _ _ h h'];rw[show u'=u from by obtain⟨a,xs,rfl,_⟩:=h;cases r;cases r';rfl];exact Np _
  ·obtain⟨a,xs,rfl,h1,h2⟩:=h;obtain⟨b,ys,rfl,h3,h4⟩:=h';cases r;cases r';obtain⟨its,r1,p1,_⟩:=I.tuple h1;obtain⟨its2,r2,p2,_⟩:=I.tuple h3;rw[D.dep,D.dep]at hu;obtain⟨e,he,ee⟩:=uX (A:=A.in1) I l m r1 r2 h2 h4 (by show A.units+1+_+_<_;lia);have key:=Rh (A:=A) (s:=s) (l:=a) (b:=b) (items:=its.toArray) (items2:=its2.toArray) (e:=e) p1 p2 ∅ (λj g1 g2=>by
    have:=he j (by simpa using g1) (by simpa using g2);simpa using this)
   rw[Ai,Ai,ee]at key;rw[D.eq];exact Qy (λz=>hab (by rw[z])) key
 |.ls l,.ls m,v,v',u,u',A,r,r',h,h',hu=>by
  by_cases hab:v=v'
  ·subst hab;rw[aAk I _ _ h h'];rw[show u'=u from by obtain⟨a,xs,rfl,_⟩:=h;cases r;cases r';rfl];exact Np _
  ·obtain⟨a,xs,rfl,h1,h2⟩:=h;obtain⟨b,ys,rfl,h3,h4⟩:=h';cases r;cases r';obtain⟨its,r1,p1,_⟩:=I.list h1;obtain⟨its2,r2,p2,_⟩:=I.list h3;rw[D.dep,D.dep]at hu;obtain⟨e,he,ee⟩:=uX (A:=A.in1) I l m r1 r2 h2 h4 (by show A.units+1+_+_<_;lia);rw[D.eq];refine Qy (λz=>hab (by rw[z])) ?_;by_cases hz:its.toArray.size=its2.toArray.size
   ·have key:=Rq (A:=A) (s:=s) (l:=a) (b:=b) (items:=its.toArray) (items2:=its2.toArray) (e:=e) p1.isList p2.isList hz ∅ (λj g1 g2=>by
     have:=he j (by simpa using g1) (by simpa using g2);simpa using this)
    rw[Ai,Ai]at hz;rw[<-hz,Ys,beq_self_eq_true,Xd]at ee;rw[Ai,ee]at key;exact key
   ·have hb':(its.length==its2.length)=false:=by simpa using hz
    rw[hb',Jc]at ee;rw[<-ee];exact SeqAt.RcAt.lists_lengths p1.isList p2.isList (by simpa using hz) ∅
theorem uX(I:#v[1]){A:Bl}:∀(l m:List D){xs ys:List V}{us ws:List Value},Vals xs us->Vals ys ws->wI X.K H l xs->wI X.K H m ys->A.units+D.deps l+D.deps m<cLine->
  ∃e:Nat->Bool,(∀j(h1:j<us.length)(h2:j<ws.length),Li A s us[j] ws[j] (e j))/\((Cj (min us.length ws.length)).all e && us.length==ws.length)=D.eqs l m
 | [],m,xs,ys,us,ws,r,r',h,h',hu=>by
  cases (show xs=[]from h);cases r;refine⟨λ_=>true,λj h1 _=>absurd h1 (Dz j),?_⟩;cases m with
  |nil=>cases (show ys=[]from h');cases r';rw[D.eqs];rfl
  |cons e m=>
   obtain⟨y,t,rfl,_⟩:=h';cases r';simp[D.eqs]
 |d::l,[],xs,ys,us,ws,r,r',h,h',hu=>by
  obtain⟨x,t,rfl,_⟩:=h;cases (show ys=[]from h');cases r;cases r';exact⟨λ_=>true,λj _ h1=>absurd h1 (Dz j),by simp[D.eqs]⟩
 |d::l,e::m,xs,ys,us,ws,r,r',h,h',hu=>by
  obtain⟨x,t,rfl,h1,h2⟩:=h;obtain⟨y,t',rfl,h3,h4⟩:=h';cases r with
  |@cons _ u0 _ us0 ru rus=>
  cases r' with
  |@cons _ w0 _ ws0 rw0 rws=>
  have hu1:A.units+d.dep+e.dep<cLine:=by
   rw[D.deps,D.deps]at hu;have:=Md d.dep (D.deps l);have:=Md e.dep (D.deps m)
   lia
  have hu2:A.units+D.deps l+D.deps m<cLine:=by
   rw[D.deps,D.deps]at hu;have:=Lb d.dep (D.deps l);have:=Lb e.dep (D.deps m)
   lia
  have E0:=aLv I d e (A:=A) ru rw0 h1 h3 hu1;obtain⟨e',he,ee⟩:=uX I l m rus rws h2 h4 hu2;refine⟨λj=>match j with|0=>d.eq e|j+1=>e' j,λj g1 g2=>?_,?_⟩
  ·cases j with
   |zero=>exact E0
   |succ j=>exact he j (by simpa using g1) (by simpa using g2)
  ·have hmin:min (u0::us0).length (w0::ws0).length=min us0.length ws0.length+1:=by
    rw[Aq,Aq]
    lia
   rw[hmin,qT,D.eqs, <-ee];show(d.eq e && (Cj (min us0.length ws0.length)).all e' && _)=_;rw[Bool.and_assoc];congr 2;rw[Bool.eq_iff_iff];simp
end
end
def aUr{A:Bl}{s:Ae}{y x:V}{u v:Value}(ry:RelV y u)(rx:RelV x v)(fy:lC y=true)(fx:lC x=true):Yk A s u v (eqV y x)/\Wu A s u v (!eqV y x):=by
 cases y<;>first|exact(As fy).elim|(cases x<;>first|exact(As fx).elim|skip)
 all_goals first|obtain⟨t1,rfl⟩:=ry|cases ry
 all_goals first|obtain⟨t2,rfl⟩:=rx|cases rx
 ·exact⟨.none_none,.none_none⟩
 ·exact⟨.none_bool _,.none_bool _⟩
 ·exact⟨.none_int _ _,.none_int _ _⟩
 ·exact⟨.none_str _ _,.none_str _ _⟩
 ·exact⟨.bool_none _,.bool_none _⟩
 ·exact⟨.bool_bool _ _,.bool_bool _ _⟩
 ·exact⟨.bool_int _ _ _,.bool_int _ _ _⟩
 ·exact⟨.bool_str _ _ _,.bool_str _ _ _⟩
 ·exact⟨.int_none _ _,.int_none _ _⟩
 ·exact⟨.int_bool _ _ _,.int_bool _ _ _⟩
 ·exact⟨.int_int _ _ _ _,.int_int _ _ _ _⟩
 ·exact⟨.int_str _ _ _ _,.int_str _ _ _ _⟩
 ·exact⟨.str_none _ _,.str_none _ _⟩
 ·exact⟨.str_bool _ _ _,.str_bool _ _ _⟩
 ·exact⟨.str_int _ _ _ _,.str_int _ _ _ _⟩
 ·exact⟨.str_str _ _ _ _,.str_str _ _ _ _⟩
section
variable {X:Cx}{pins:#v[4]}{σ:St}{H:Hp}{s:Ae}
def aN4(I:#v[1])(d e:D){v v':V}{u u':Value}{A:Bl}(r:RelV v u)(r':RelV v' u')(h:Den X.K H d v)(h':Den X.K H e v')(hu:A.units+d.dep+e.dep<cLine):
  Yk A s u u' (d.eq e)/\Wu A s u u' (!d.eq e):=by
 have hu':A.units<cLine:=by lia
 match d,e,h,h',hu with
 |.fl x,.fl y,h,h',hu=>
  obtain⟨rfl,f⟩:=h;obtain⟨rfl,f'⟩:=h';rw[D.eq];exact aUr r r' f f'
 |.fl x,.tp m,h,h',hu=>
  obtain⟨rfl,f⟩:=h;obtain⟨a,xs,rfl,hb,_⟩:=h';cases r';obtain⟨its2,r2,p2,_⟩:=I.tuple hb;rw[show D.eq (.fl v) (.tp m)=false by simp[D.eq]];cases v with
  |non=>cases r;exact⟨.none_tuple p2 hu',.none_tuple p2 hu'⟩
  |bl c=>cases r;exact⟨.bool_tuple c p2 hu',.bool_tuple c p2 hu'⟩
  |int c=>obtain⟨t,rfl⟩:=r;exact⟨.int_tuple c t p2 hu',.int_tuple c t p2 hu'⟩
  |str c=>obtain⟨t,rfl⟩:=r;exact⟨.str_tuple c t p2 hu',.str_tuple c t p2 hu'⟩
  |_=>exact(As f).elim
 |.fl x,.ls m,h,h',hu=>
  obtain⟨rfl,f⟩:=h;obtain⟨a,xs,rfl,hb,_⟩:=h';cases r';obtain⟨its2,r2,p2,_⟩:=I.list hb;rw[show D.eq (.fl v) (.ls m)=false by simp[D.eq]];have p2:=p2.isList;cases v with
  |non=>cases r;exact⟨.none_list p2 hu',.none_list p2 hu'⟩
  |bl c=>cases r;exact⟨.bool_list c p2 hu',.bool_list c p2 hu'⟩
  |int c=>obtain⟨t,rfl⟩:=r;exact⟨.int_list c t p2 hu',.int_list c t p2 hu'⟩
  |str c=>obtain⟨t,rfl⟩:=r;exact⟨.str_list c t p2 hu',.str_list c t p2 hu'⟩
  |_=>exact(As f).elim
 |.tp m,.fl x,h',h,hu=>
  obtain⟨rfl,f⟩:=h;obtain⟨a,xs,rfl,hb,_⟩:=h';cases r;obtain⟨its2,r2,p2,_⟩:=I.tuple hb;rw[show D.eq (.tp m) (.fl v')=false by simp[D.eq]];cases v' with
  |non=>cases r';exact⟨.tuple_none p2 hu',.tuple_none p2 hu'⟩
  |bl c=>cases r';exact⟨.tuple_bool c p2 hu',.tuple_bool c p2 hu'⟩
  |int c=>obtain⟨t,rfl⟩:=r';exact⟨.tuple_int c t p2 hu',.tuple_int c t p2 hu'⟩
  |str c=>obtain⟨t,rfl⟩:=r';exact⟨.tuple_str c t p2 hu',.tuple_str c t p2 hu'⟩
  |_=>exact(As f).elim
 |.ls m,.fl x,h',h,hu=>
  obtain⟨rfl,f⟩:=h;obtain⟨a,xs,rfl,hb,_⟩:=h';cases r;obtain⟨its2,r2,p2,_⟩:=I.list hb;rw[show D.eq (.ls m) (.fl v')=false by simp[D.eq]];have p2:=p2.isList;cases v' with
  |non=>cases r';exact⟨.list_none p2 hu',.list_none p2 hu'⟩
  |bl c=>cases r';exact⟨.list_bool c p2 hu',.list_bool c p2 hu'⟩
  |int c=>obtain⟨t,rfl⟩:=r';exact⟨.list_int c t p2 hu',.list_int c t p2 hu'⟩
  |str c=>obtain⟨t,rfl⟩:=r';exact⟨.list_str c t p2 hu',.list_str c t p2 hu'⟩
  |_=>exact(As f).elim
 |.tp l,.ls m,h,h',hu=>
  obtain⟨a,xs,rfl,h1,_⟩:=h;obtain⟨b,ys,rfl,h3,_⟩:=h';cases r;cases r';obtain⟨its,r1,p1,_⟩:=I.tuple h1;obtain⟨its2,r2,p2,_⟩:=I.list h3;rw[show D.eq (.tp l) (.ls m)=false by simp[D.eq]];exact⟨.tuple_list p1 p2.isList hu',.tuple_list p1 p2.isList hu'⟩
 |.ls l,.tp m,h,h',hu=>
  obtain⟨a,xs,rfl,h1,_⟩:=h;obtain⟨b,ys,rfl,h3,_⟩:=h';cases r;cases r';obtain⟨its,r1,p1,_⟩:=I.list h1;obtain⟨its2,r2,p2,_⟩:=I.tuple h3;rw[show D.eq (.ls l) (.tp m)=false by simp[D.eq]];exact⟨.list_tuple p1.isList p2 hu',.list_tuple p1.isList p2 hu'⟩
 |.tp l,.tp m,h,h',hu=>
  obtain⟨a,xs,rfl,h1,h2⟩:=h;obtain⟨b,ys,rfl,h3,h4⟩:=h';cases r;cases r';obtain⟨its,r1,p1,_⟩:=I.tuple h1;obtain⟨its2,r2,p2,_⟩:=I.tuple h3;rw[D.dep,D.dep]at hu;obtain⟨e,he,ee⟩:=uX (A:=A.in1) I l m r1 r2 h2 h4 (by show A.units+1+_+_<_;lia);have hj:∀j(g1:j<its.toArray.size)(g2:j<its2.toArray.size),Li A.in1 s its.toArray[j] its2.toArray[j] (e j):=λj g1 g2=>by
   have:=he j (by simpa using g1) (by simpa using g2);simpa using this
  have k1:=Rh p1 p2 hu' hj;have k2:=Yi p1 p2 hu' hj;rw[Ai,Ai,ee]at k1 k2;rw[D.eq];exact⟨k1,k2⟩
 |.ls l,.ls m,h,h',hu=>
  obtain⟨a,xs,rfl,h1,h2⟩:=h;obtain⟨b,ys,rfl,h3,h4⟩:=h';cases r;cases r';obtain⟨its,r1,p1,_⟩:=I.list h1;obtain⟨its2,r2,p2,_⟩:=I.list h3;rw[D.dep,D.dep]at hu;obtain⟨e,he,ee⟩:=uX (A:=A.in1) I l m r1 r2 h2 h4 (by show A.units+1+_+_<_;lia);have hj:∀j(g1:j<its.toArray.size)(g2:j<its2.toArray.size),Li A.in1 s its.toArray[j] its2.toArray[j] (e j):=λj g1 g2=>by
   have:=he j (by simpa using g1) (by simpa using g2);simpa using this
  rw[D.eq];by_cases hz:its.toArray.size=its2.toArray.size
  ·have k1:=Rq p1.isList p2.isList hz hu' hj;have k2:=Yj p1.isList p2.isList hz hu' hj;rw[Ai,Ai]at hz;rw[<-hz,Ys,beq_self_eq_true,Xd]at ee;rw[Ai,ee]at k1 k2;exact⟨k1,k2⟩
  ·have hb':(its.length==its2.length)=false:=by simpa using hz
   rw[hb',Jc]at ee;rw[<-ee];exact⟨.lists_lengths p1.isList p2.isList (by simpa using hz) hu',.lists_lengths p1.isList p2.isList (by simpa using hz) hu'⟩
def Den.inj(I:#v[1]):∀(d:D)(e:D){v:V},Den X.K H d v->Den X.K H e v->d=e:=by
 have key:∀(n:Nat)(d e:D){v:V},d.dep<=n->Den X.K H d v->Den X.K H e v->d=e:=by
  intro n;induction n with
  |zero=>
   intro d e v hn h h';match d,e,h,h',hn with
   |.fl x,.fl y,h,h',_=>rw[<-h.1, <-h'.1]
   |.fl x,.tp m,h,h',_=>obtain⟨rfl,f⟩:=h;obtain⟨a,xs,rfl,_⟩:=h';exact(As f).elim
   |.fl x,.ls m,h,h',_=>obtain⟨rfl,f⟩:=h;obtain⟨a,xs,rfl,_⟩:=h';exact(As f).elim
   |.tp l,_,_,_,hn=>rw[D.dep]at hn;lia
   |.ls l,_,_,_,hn=>rw[D.dep]at hn;lia
  |succ n ih=>
   have items:∀(l m:List D){xs:List V},D.deps l<=n->wI X.K H l xs->wI X.K H m xs->l=m:=by
    intro l;induction l with
    |nil=>
     intro m xs _ h h';cases (show xs=[]from h);cases m with
     |nil=>rfl
     |cons e m=>obtain⟨y,t,q,_⟩:=h';cases q
    |cons d l il=>
     intro m xs hn h h';obtain⟨x,t,rfl,h1,h2⟩:=h;cases m with
     |nil=>cases (show(x::t)=[]from h')
     |cons e m=>
      obtain⟨y,t',q,h3,h4⟩:=h';cases q;rw[D.deps]at hn;have a1:=Md d.dep (D.deps l);have a2:=Lb d.dep (D.deps l);rw[ih d e ∅ h1 h3,il m ∅ h2 h4]
   intro d e v hn h h';match d,e,h,h',hn with
   |.fl x,.fl y,h,h',_=>rw[<-h.1, <-h'.1]
   |.fl x,.tp m,h,h',_=>obtain⟨rfl,f⟩:=h;obtain⟨a,xs,rfl,_⟩:=h';exact(As f).elim
   |.fl x,.ls m,h,h',_=>obtain⟨rfl,f⟩:=h;obtain⟨a,xs,rfl,_⟩:=h';exact(As f).elim
   |.tp m,.fl x,h',h,_=>obtain⟨rfl,f⟩:=h;obtain⟨a,xs,rfl,_⟩:=h';exact(As f).elim
   |.ls m,.fl x,h',h,_=>obtain⟨rfl,f⟩:=h;obtain⟨a,xs,rfl,_⟩:=h';exact(As f).elim
   |.tp l,.ls m,h,h',_=>obtain⟨a,xs,rfl,h1,_⟩:=h;obtain⟨b,ys,e,h3,_⟩:=h';cases e;exact(I.not_both h3 h1).elim
   |.ls l,.tp m,h,h',_=>obtain⟨a,xs,rfl,h1,_⟩:=h;obtain⟨b,ys,e,h3,_⟩:=h';cases e;exact(I.not_both h1 h3).elim
   |.tp l,.tp m,h,h',hn=>
    obtain⟨a,xs,rfl,h1,h2⟩:=h;obtain⟨b,ys,e,h3,h4⟩:=h';cases e;rw[I.tuple_inj h3 h1]at h4;rw[D.dep]at hn;rw[items l m ∅ h2 h4]
   |.ls l,.ls m,h,h',hn=>
    obtain⟨a,xs,rfl,h1,h2⟩:=h;obtain⟨b,ys,e,h3,h4⟩:=h';cases e;rw[I.list_inj h3 h1]at h4;rw[D.dep]at hn;rw[items l m ∅ h2 h4]
 exactλd e v h h'=>key _ d e (Am _) h h'
inductive aRw(K:Ab)(neg:Bool)(x:V)(y:V)(H:Hp)(Q:VK):Prop
 |mk (d e:_) (q0_:Den K H d x) (q1_:Den K H e y) (q2_:d.dep+e.dep<=100) (q3_:Q (.bl (if neg then !d.eq e else d.eq e)) H):aRw K neg x y H Q
def aUn(K:Ab)(neg:Bool):R2:=λx y H Q=>aRw K neg x y H Q
def bM(hu:X.A.units+101<cLine):OpR X (Ed .Eq) (aUn X.K false):=by
 intro pins s σ H x y v u Q I rx ry h;obtain⟨d,e,h1,h2,hd,q⟩:=h;exact(aN4 (A:=X.A) I d e rx ry h1 h2 ∅).1 _ _ _ _ ⟨.bl _,H,I,rfl,q⟩
def jZ(hu:X.A.units+101<cLine):OpR X (Ed .NotEq) (aUn X.K true):=by
 intro pins s σ H x y v u Q I rx ry h;obtain⟨d,e,h1,h2,hd,q⟩:=h;exact(aN4 (A:=X.A) I d e rx ry h1 h2 ∅).2 _ _ _ _ ⟨.bl _,H,I,rfl,q⟩
inductive aRx(K:Ab)(neg:Bool)(x:V)(y:V)(H:Hp)(Q:VK):Prop
 |mk (d p xs l:_) (q0_:Den K H d x) (q1_:y=.ref p) (q2_:(SqL K H p xs∨SqT K H p xs)) (q3_:wI K H l xs) (q4_:d.dep+D.deps l<=99) (q5_:Q (.bl (if neg then !(l.any λe=>e.eq d)else l.any λe=>e.eq d)) H):aRx K neg x y H Q
def aUo(K:Ab)(neg:Bool):R2:=λx y H Q=>aRx K neg x y H Q
open Classical in
def sJ(I:#v[1]){d:D}{x:V}{v:Value}(rx:RelV x v)(hx:Den X.K H d x){A:Bl}:∀{l:List D}{xs:List V}{us:List Value},Vals xs us->wI X.K H l xs->A.units+d.dep+D.deps l<cLine->
  ∃e:Value->Bool,(e=λw=>decide (∃d' x',RelV x' w/\Den X.K H d' x'/\d'.eq d=true))/\(∀w∈us,Li A s w v (e w))/\us.any e=l.any λe=>e.eq d:=by
 intro l;induction l with
 |nil=>
  intro xs us r h hu;cases (show xs=[]from h);cases r;exact⟨_,rfl,λw hw=>(by cases hw),rfl⟩
 |cons d0 l ih=>
  intro xs us r h hu;obtain⟨x0,t,rfl,h1,h2⟩:=h;cases r with
  |@cons _ u0 _ us0 r0 rr=>
  rw[D.deps]at hu;have a1:=Md d0.dep (D.deps l);have a2:=Lb d0.dep (D.deps l);obtain⟨e,ee,i1,i2⟩:=ih rr h2 ∅;have e0:e u0=d0.eq d:=by
   rw[ee];by_cases hq:d0.eq d=true
   ·rw[hq];exact decide_eq_true ⟨d0,x0,r0,h1,hq⟩
   ·rw[Bool.not_eq_true]at hq;rw[hq];refine decide_eq_false ?_;rintro⟨d',x',r',h',q'⟩;cases RelV.inj r' r0;rw[Den.inj I d' d0 h' h1,hq]at q';cases q'
  refine⟨e,ee,λw hw=>?_,?_⟩
  ·rcases Ao.mp hw with rfl|hw
   ·rw[e0];exact aLv I d0 d r0 rx h1 hx ∅
   ·exact i1 w hw
  ·rw[Ig,Ig,i2,e0]
def aT8(hu:X.A.units+101<cLine):OpR X (Ed .In) (aUo X.K false):=by
 intro pins s σ H x y v u Q I rx ry h;obtain⟨d,p,xs,l,h1,rfl,hq,h2,hd,q⟩:=h;cases ry;rcases hq with hq|hq
 ·obtain⟨its,r,pl,hz⟩:=I.list hq;obtain⟨e,_,i1,i2⟩:=sJ (A:=X.A.in1) I rx h1 r h2 (by show X.A.units+1+_+_<_;lia);refine SeqAt.in_listAt e pl.isList (λw hw=>i1 w (by simpa using hw)) ⟨.bl _,H,I,rfl,?_⟩;rw[show its.toArray.any e=its.any e by simp,i2];exact q
 ·obtain⟨its,r,pl,hz⟩:=I.tuple hq;obtain⟨e,_,i1,i2⟩:=sJ (A:=X.A.in1) I rx h1 r h2 (by show X.A.units+1+_+_<_;lia);refine SeqAt.in_tupleAt e pl (λw hw=>i1 w (by simpa using hw)) ⟨.bl _,H,I,rfl,?_⟩;rw[show its.toArray.any e=its.any e by simp,i2];exact q
def aKl(hu:X.A.units+101<cLine):OpR X (Ed .NotIn) (aUo X.K true):=by
 intro pins s σ H x y v u Q I rx ry h;obtain⟨d,p,xs,l,h1,rfl,hq,h2,hd,q⟩:=h;cases ry;rcases hq with hq|hq
 ·obtain⟨its,r,pl,hz⟩:=I.list hq;obtain⟨e,_,i1,i2⟩:=sJ (A:=X.A.in1) I rx h1 r h2 (by show X.A.units+1+_+_<_;lia);refine SeqAt.notIn_listAt e pl.isList (λw hw=>i1 w (by simpa using hw)) ⟨.bl _,H,I,rfl,?_⟩;rw[show its.toArray.any e=its.any e by simp,i2];exact q
 ·obtain⟨its,r,pl,hz⟩:=I.tuple hq;obtain⟨e,_,i1,i2⟩:=sJ (A:=X.A.in1) I rx h1 r h2 (by show X.A.units+1+_+_<_;lia);refine SeqAt.notIn_tupleAt e pl (λw hw=>i1 w (by simpa using hw)) ⟨.bl _,H,I,rfl,?_⟩;rw[show its.toArray.any e=its.any e by simp,i2];exact q
end
mutual
def tQ(Av:Addr->Prop)(H:Hp):D->V->Prop
 |.fl x,v=>v=x/\lC x=true
 |.tp l,v=>∃p xs,v=.ref p/\H p=some (.tup xs)/\eF Av H l xs
 |.ls l,v=>∃p xs,v=.ref p/\¬Av p/\H p=some (.lst xs)/\eF Av H l xs
def eF(Av:Addr->Prop)(H:Hp):List D->List V->Prop
 | [],xs=>xs=[]
 |d::l,xs=>∃x r,xs=x::r/\tQ Av H d x/\eF Av H l r
end
variable {Av:Addr->Prop}{H H':Hp}
mutual
theorem tQ.mono(k1:∀b xs,H b=some (.tup xs)->H' b=some (.tup xs))(k2:∀b xs,¬Av b->H b=some (.lst xs)->H' b=some (.lst xs)):∀(d:D){v:V},tQ Av H d v->tQ Av H' d v
 |.fl x,v,h=>h
 |.tp l,v,h=>by
  obtain⟨p,xs,e,hp,t⟩:=h;exact⟨p,xs,e,k1 _ _ hp,eF.mono k1 k2 l t⟩
 |.ls l,v,h=>by
  obtain⟨p,xs,e,n,hp,t⟩:=h;exact⟨p,xs,e,n,k2 _ _ n hp,eF.mono k1 k2 l t⟩
theorem eF.mono(k1:∀b xs,H b=some (.tup xs)->H' b=some (.tup xs))(k2:∀b xs,¬Av b->H b=some (.lst xs)->H' b=some (.lst xs)):∀(l:List D){xs:List V},eF Av H l xs->eF Av H' l xs
 | [],xs,h=>h
 |d::l,xs,h=>by
  obtain⟨x,r,e,h1,h2⟩:=h;exact⟨x,r,e,tQ.mono k1 k2 d h1,eF.mono k1 k2 l h2⟩
end
mutual
theorem tQ.den(K:Ab):∀(d:D){v:V},tQ Av H d v->Den K H d v
 |.fl x,v,h=>h
 |.tp l,v,h=>by
  obtain⟨p,xs,e,hp,t⟩:=h;exact⟨p,xs,e,SqT.of hp,eF.dens K l t⟩
 |.ls l,v,h=>by
  obtain⟨p,xs,e,n,hp,t⟩:=h;exact⟨p,xs,e,SqL.of hp,eF.dens K l t⟩
theorem eF.dens(K:Ab):∀(l:List D){xs:List V},eF Av H l xs->wI K H l xs
 | [],xs,h=>h
 |d::l,xs,h=>by
  obtain⟨x,r,e,h1,h2⟩:=h;exact⟨x,r,e,tQ.den K d h1,eF.dens K l h2⟩
end
mutual
theorem tQ.weak{Bv:Addr->Prop}(k:∀b,Bv b->Av b):∀(d:D){v:V},tQ Av H d v->tQ Bv H d v
 |.fl x,v,h=>h
 |.tp l,v,h=>by
  obtain⟨p,xs,e,hp,t⟩:=h;exact⟨p,xs,e,hp,eF.weak k l t⟩
 |.ls l,v,h=>by
  obtain⟨p,xs,e,n,hp,t⟩:=h;exact⟨p,xs,e,λz=>n (k p z),hp,eF.weak k l t⟩
theorem eF.weak{Bv:Addr->Prop}(k:∀b,Bv b->Av b):∀(l:List D){xs:List V},eF Av H l xs->eF Bv H l xs
 | [],xs,h=>h
 |d::l,xs,h=>by
  obtain⟨x,r,e,h1,h2⟩:=h;exact⟨x,r,e,tQ.weak k d h1,eF.weak k l h2⟩
end
mutual
theorem tQ.refl:∀(d:D){v:V},tQ Av H d v->d.eq d=true
 |.fl x,v,h=>by
  rw[D.eq];exact aE6 h.2
 |.tp l,v,h=>by
  obtain⟨p,xs,e,hp,t⟩:=h;rw[D.eq];exact eF.refl l t
 |.ls l,v,h=>by
  obtain⟨p,xs,e,n,hp,t⟩:=h;rw[D.eq];exact eF.refl l t
theorem eF.refl:∀(l:List D){xs:List V},eF Av H l xs->D.eqs l l=true
 | [],xs,h=>by rw[D.eqs]
 |d::l,xs,h=>by
  obtain⟨x,r,e,h1,h2⟩:=h;rw[D.eqs,tQ.refl d h1,eF.refl l h2];rfl
end
structure Cal(P:Ap)(w:Bh)(K:Ab)(mg:Str->#v[8])(base:Heap)(CX:CXT)(k:Nat)(x:Str)(ps:List Str)(sp:Sp):Prop where
 ex:∃f fd,bG P w K mg base CX k f fd ps sp/\mg x=some (.ref f)/\Gi K (.ref f)=true/\Binds K fd ps []
def aNm{X:Cx}{CX:CXT}{x:Str}{sp:Sp}{e:Bw}{es:List Bw}{t:TA}{p pos:Pos}(C:Cal X.prog X.w X.K X.mg X.base CX k x ps sp)(hr:cO k X.A)(hg:Gl X x)(hx:jX CX X E)
  (ha:PA X (e::es) t) (hdb:ND x:=by decide) (he:SE X e es:=by rfl) (hpl:BT X pos es:=by rfl):
  PE X (.Call (.Name x p) (e::es) [] pos) (aSv sp [] E t):=by
 obtain⟨f,fd,F,hm,hk,hb⟩:=C.ex;exact aIn F hr hg hm hk hb .nil hx ha hdb he hpl
abbrev wH(scope sc0:Scope)(cap:#v[9])(N:List Str):Prop:=scope.kind=.function/\(∀y∈scope.names,y.2≠.cell)/\(∀y∈scope.names,y.2=.local->scope.names.lookup y.1=some .local)/\
 (∀y∈scope.names,y.2=.free->sc0.names.lookup y.1=some .cell)/\(∀p∈cap,N[p.2]? =some p.1/\scope.names.lookup p.1=some .free/\sc0.names.lookup p.1=some .cell)
def aSa{cap:#v[9]}{sc0:Scope}{N0:List Str}(hs:X.env.scope=sc0)(hN:X.N=N0)(hcell:HC X)(ok:wH scope sc0 cap N0):∃cl,cZ X scope cap cl:=by
 subst hs hN;exact aGu hcell ok.1 ok.2.1 ok.2.2.1 ok.2.2.2.1 ok.2.2.2.2
def aW1{elt iter tg:Bw}{own:List Str}{cap:#v[9]}(sc0:Scope)(N0:List Str)(hsc:X.env.scope=sc0)(hN:X.N=N0)(hcell:HC X)
  (ok:wH scope sc0 cap N0) (hc:X.calm=true) (hi:PI X tg iter wi)
  (hg:∀cl C s2 H2 fp,PG #v[6] tg g) (he:∀cl C s2 H2 fp,PE #v[6] elt te)
  (hs:FS X iter:=by intro _;rfl):PE X #v[5] (vU own.length cap wi g te):=by
 obtain⟨cl,S⟩:=aSa hsc hN hcell ok;exact aD2 S hc hi (hg cl) (he cl) hs
def aSq{x:Str}{elt iter tg:Bw}{own:List Str}{cap:#v[9]}{pos spos py:Pos}(hnd:X.N.Nodup)(hi':X.N[i]? =some x)(hx:Loc X.env.scope x)
  (sc0:Scope) (N0:List Str) (hsc:X.env.scope=sc0) (hN:X.N=N0) (hcell:HC X)
  (ok:wH scope sc0 cap N0) (hc:X.calm=true) (hi:PI X tg iter wi)
  (hg:∀cl C s2 H2 fp,PG #v[6] tg g) (he:∀cl C s2 H2 fp,PE #v[6] elt te)
  (hsw:Dt #v[5] (some (.Name x py)) spos.line X.env=pure true:=by rfl)
  (hs:FS X iter:=by intro _;rfl) (hf:FL X x:=by trivial):
  PS X (.Assign [.Name x py] #v[5] spos) (aKw (vU own.length cap wi g te) (rA i)):=by
 obtain⟨cl,S⟩:=aSa hsc hN hcell ok;exact aHh hnd hi' hx S hc hi (hg cl) (he cl) hsw hs hf
abbrev aHw(scope sc0:Scope)(cap:#v[9])(N:List Str):Prop:=scope.kind=.function/\(∀y∈scope.names,y.2=.local->scope.names.lookup y.1=some .local)/\
 (∀y∈scope.names,y.2=.free->sc0.names.lookup y.1=some .cell)/\(∀p∈cap,¬(p.1,Dn)∈scope.names)/\(∀p∈cap,N[p.2]? =some p.1/\scope.names.lookup p.1=some .free/\sc0.names.lookup p.1=some .cell)
abbrev aS6(scope fsc:Scope)(x:Str):Prop:=scope.names.lookup x=some .cell∨(scope.names.lookup x=some .free/\fsc.names.lookup x=some .cell)
abbrev aGj(isc scope fsc:Scope)(icap:#v[9])(N:List Str):Prop:=isc.kind=.function/\(∀y∈isc.names,y.2≠.cell)/\(∀y∈isc.names,y.2=.local->isc.names.lookup y.1=some .local)/\
 (∀y∈isc.names,y.2=.free->aS6 scope fsc y.1)/\(∀p∈icap,N[p.2]? =some p.1/\isc.names.lookup p.1=some .free/\aS6 scope fsc p.1)
theorem vL{env:Env}:∀{names:List (Str×Ja)}{x:Str},names.lookup x=some .cell->
  (names.map λ(n,k)=>if(k==Dg && env.scope.kind== .function && env.kindOf n==some .cell)then(n,Dn)else(n,k)).lookup x=some .cell
 | [],_,h=>by simp at h
 |(n,k)::r,x,h=>by
  have ih:=@vL env r x;show Eu x ((if(k==Dg && env.scope.kind== .function && env.kindOf n==some .cell)=true then(n,Dn)else(n,k))::_)=_;cases hx:x==n with
  |true=>
   simp only[Bi,hx]at h;cases h;rw[if_neg (by simp)];simp[Bi,hx]
  |false=>
   simp only[Bi,hx]at h;by_cases hcc:(k==Dg && env.scope.kind== .function && env.kindOf n==some .cell)=true
   ·rw[if_pos hcc];simp only[Bi,hx];exact ih h
   ·rw[if_neg hcc];simp only[Bi,hx];exact ih h
def aTi{cap:#v[9]}{sc0:Scope}{N0:List Str}(hs:X.env.scope=sc0)(hN:X.N=N0)(hcell:HC X)(ok:aHw scope sc0 cap N0):∃cl,pA X scope cap cl:=by
 subst hs hN;obtain⟨k,nm,fr,cn,cp⟩:=ok;obtain⟨cl,e,a,b⟩:=lR X.env scope.names [] (λy hy hf=>hcell _ (fr y hy hf)) (λx c h=>by simp at h);refine⟨cl,?_,k,nm,a,λx hx=>b x (.inr (Bz hx)),cn,cp⟩;unfold Nl;refine Vo ?_ e;simp only[bind_pure]
def aPo{Nc:List Str}{scope isc fsc:Scope}{s2:Ae}{H2:Hp}(cf:fG X scope cs)(hfs:X.env.scope=fsc)(hk:fsc.kind=.function)(ok:aGj isc scope fsc icap Nc):
  ∃cl,cZ (cF X Nc scope cs C s2 H2 fp) isc icap cl:=by
 subst hfs;obtain⟨k,nc,nm,fr,cp⟩:=ok;have up:∀x,aS6 scope X.env.scope x->(relabel scope X.env).names.lookup x=some .cell:=λx h=>by
  rcases h with h|⟨h,h'⟩
  ·exact vL h
  ·exact gC hk h h'
 obtain⟨cl,e,a,b⟩:=lR (cF X Nc scope cs C s2 H2 fp).env isc.names [] (λy hy hf=>cf _ (fr y hy hf)) (λx c h=>by simp at h);refine⟨cl,?_,k,nc,nm,a,λx hx=>b x (.inr (Bz hx)),λp hp=>⟨(cp p hp).1,(cp p hp).2.1,up _ (cp p hp).2.2⟩⟩;unfold Nl;refine Vo ?_ e;simp only[bind_pure]
abbrev aC1(scope:Scope):Prop:=scope.kind=.function/\∀y∈scope.names,y.2≠.cell/\y.2≠.free/\(y.2=.local->scope.names.lookup y.1=some .local)
def aTh(ok:aC1 scope):∃cl,cZ X scope [] cl:=by
 obtain⟨k,nm⟩:=ok;obtain⟨cl,e,a,b⟩:=lR X.env scope.names [] (λy hy hf=>((nm y hy).2.1 hf).elim) (λx c h=>by simp at h);refine⟨cl,?_,k,λy hy=>(nm y hy).1,λy hy=>(nm y hy).2.2,a,λx hx=>b x (.inr (Bz hx)),λp hp=>nomatch hp⟩;unfold Nl;refine Vo ?_ e;simp only[bind_pure]
def aUa{elt iter tg:Bw}{own:List Str}(ok:aC1 scope)(hc:X.calm=true)(hi:PI X tg iter wi)
  (hg:∀cl C s2 H2 fp,PG (bU X (dM own []) scope cl C s2 H2 fp) tg g) (he:∀cl C s2 H2 fp,PE (bU X (dM own []) scope cl C s2 H2 fp) elt te)
  (hs:FS X iter:=by intro _;rfl):PE X #v[5] (vU own.length [] wi g te):=by
 obtain⟨cl,S⟩:=aTh ok;exact aD2 S hc hi (hg cl) (he cl) hs
section
variable {X:Cx}{B:St->Hp->Prop}{R:Hp->V->Prop}
end
def aN0(K:Ab):List V->Hp->VK->Prop:=λxs H Q=>∃p ys,xs=[.ref p]/\(SqL K H p ys∨SqT K H p ys)/\∀l,H l=none->Q (.ref l) (upd H l (.lst ys))
def aIu(K:Ab):List V->Hp->VK->Prop:=λxs H Q=>∃p ys,xs=[.ref p]/\((SqL K H p ys/\∀l,H l=none->Q (.ref l) (upd H l (.tup ys)))∨(SqT K H p ys/\Q (.ref p) H))
def jB{X:Cx}{K:Ab}(h:X.K=K):gF X (.type "list") (aN0 K):=by
 subst h;exact aDi
def qW{X:Cx}{K:Ab}(h:X.K=K):gF X (.type "tuple") (aIu K):=by
 subst h;exact aBj
def aVy(_ j:Int):Prop:=0<j/\j<2 ^ 62
def vI:OpR X (Gs .FloorDiv) (rI aVy λi j=> .int (i / j)):=opI λi j _ _ _ _ _ hc q=>by
 have h1:(0:Int)<j:=hc.1;have h2:j<2 ^ 62:=hc.2;refine floordiv_int ∅ (by rw[Qs i ∅];exact q) (.inl (PyProof.noPylong_of_log2 ?_));have h3:j.natAbs<2 ^ 62:=by lia
 have:=(Zg ∅).mpr h3
 lia
variable {K:Ab}
def aUb{elt iter tg:Bw}{Nc:List Str}{scope isc:Scope}{s2:Ae}{H2:Hp}{own:List Str}(fsc:Scope)(cf:fG X scope cs)(hfs:X.env.scope=fsc)(hk:fsc.kind=.function)
  (ok:aGj isc scope fsc icap Nc) (hc:X.calm=true) (hi:PI (cF X Nc scope cs C s2 H2 fp) tg iter wi)
  (hg:∀cl C' s3 H3 fp',PG (bU (cF X Nc scope cs C s2 H2 fp) (dM own icap) isc cl C' s3 H3 fp') tg g) (he:∀cl C' s3 H3 fp',PE (bU (cF X Nc scope cs C s2 H2 fp) (dM own icap) isc cl C' s3 H3 fp') elt te)
  (hs:∀x,Lg iter (cF X Nc scope cs C s2 H2 fp).env x=pure x:=by intro _;rfl):PE (cF X Nc scope cs C s2 H2 fp) (.ListComp elt [⟨tg,iter,[],0⟩] isc pos) (vU own.length icap wi g te):=by
 obtain⟨cl,S⟩:=aPo (C:=C) (s2:=s2) (H2:=H2) (fp:=fp) cf hfs hk ok;exact aD2 S hc hi (hg cl) (he cl) hs
def aFo{x:Str}{elt iter tg:Bw}{own:List Str}{cap:#v[9]}{pos spos py:Pos}
  (hN:X.N.Nodup) (hi':X.N[i]? =some x) (hx:Loc X.env.scope x) (S:pA X scope cap cl) (hc:X.calm=true) (hi:PI X tg iter wi) (gm:∀x σ H(Q Q':St->Hp->Prop),(∀σ H,Q σ H->Q' σ H)->g x σ H Q->g x σ H Q')
  (hg:∀cs,fG X scope cs->∀C s2 H2 fp,PG (cF X (dM own cap) scope cs C s2 H2 fp) tg g) (he:∀cs,fG X scope cs->∀C s2 H2 fp,PE (cF X (dM own cap) scope cs C s2 H2 fp) elt te)
  (hsw:Dt #v[5] (some (.Name x py)) spos.line X.env=pure true:=by rfl)
  (hs:FS X iter:=by intro _;rfl) (hf:FL X x:=by trivial):
  PS X (.Assign [.Name x py] #v[5] spos) (aKw (vU own.length cap wi g te) (rA i)):=by
 intro pins s σ H D I h;rw[Uz _ _ _ _ hsw];refine Aa (Iy (Aa ?_));show Au _ X.A (do let _<-comprehension #v[5] scope X.env _ (We []) false (eval iter X.env) (some (assign (.Name x py) X.env))) _ _ s;refine Aa (Dc (Ld (use:=some (assign (.Name x py) X.env)) (Q:=λ_ s'=>SP X pins D .next s') rfl hs S.clos S.kind S.names
  (thn (hi pins s σ H _ I h) λv s1 h1=>thn h1 λitv s2 h2=>?_)) (λ_ s' hq=>Ad (Ad hq)) λ_ _ e=>e)
 obtain⟨it,fp,tn,J,H2,e,I2,T,st2,f2,rd⟩:=h2;subst e;obtain⟨W,w0,turn⟩:=rd _ (I2.hok.fresh (Am _));refine yD (Q:=λx H1=>rA i x σ H1 D.nx) (RR:=λacc C=>compPost #v[b] X.A X.xe (some (assign (.Name x py) X.env)) (λ_ s'=>SP X pins D .next s') acc C) S hc I2 T st2 f2 (λcs cf _=>hg cs cf) (λ_ _ _ _ _ _ _=>aD9) (λcs cf _=>he cs cf) W w0 (λi m σc H3 h3=>(turn i m σc H3 h3).imp id λ⟨go,step⟩=>⟨go,λx H4 y=>gm _ _ _ _ _ (λσ5 H5 q=>by unfold aQ4;dsimp only;rw[if_pos rfl];exact q) (step x H4 y)⟩)
  λC H' s' m hCle hm hCn I' hback q=>?_
 refine Pr (xT (v:=.ref s2.heap.objs.size) I' hN hi' hx rfl (λs'' I'' ⟨a,hsa,ha⟩=>?_) hf);have hCa:C≠a:=by
  rcases ha with z|z
  ·rw[z];exact Ci (gM I2.lt hCle)
  ·obtain⟨v,q'⟩:=I2.cell x a z;exact Ci (gM q'.lt hCle)
 refine⟨m,hm.sameBut hsa hCa,λh' hs'=>⟨_,H',?_,q⟩⟩;have hC0:X.s₀.heap.objs.size<=C:=Bd I2.sz hCle;have hnp:∀p∈X.pn++pins,p.1≠C:=λp hp=>gM (Ar (I2.pin p hp).1) hCle;have hcl:∀y c,X.env.cells.lookup y=some c->c≠C:=λy c e=>by
  obtain⟨v,q'⟩:=I2.cell y c e;exact gM q'.lt hCle
 have hL:C≠X.env.locals:=Ci (gM I2.lt hCle);exact I''.turned (t':=s''.toks) (it:=C) (λb o hb e=>(hs'.2 b hb).trans e) hCn hL (.inr hC0) hcl hnp
section
variable {prog:Ap}{w:Bh}{A:Bl}{E:#v[a]}{s:Ae}{K:Ab}{x C:Addr}
def cH:List Value:=[.type "ValueError",.type "Exception",.type "BaseException",.type "object"]
def aHe:List Value->Bool
 |.ref _::r=>aHe r
 |l=>l==cH
theorem yL(self:Value):∀{l:List Value},aHe l=true->refuseLoop self "__setattr__" l=pure ()/\l.contains (.type "object")=true/\l.isEmpty=false
 | [],e=>by cases (show([]==cH)=true from e)
 |v::r,e=>by
  cases v with
  |ref c=>
   have ih:=yL self (l:=r) e;refine⟨by rw[refuseLoop_ref];exact ih.1,?_,rfl⟩;rw[Es,ih.2.1,Kh]
  |type n=>
   have q:(Fc n::r)=cH:=beq_iff_eq.mp (show((Fc n::r)==cH)=true from e);rw[q];exact⟨PySem.F.store_ValueError.passes self,⋯,rfl⟩
  |none=>have q:(Cb::r)=cH:=beq_iff_eq.mp (show((Cb::r)==cH)=true from e);cases q
  |ellipsis=>have q:(Vw::r)=cH:=beq_iff_eq.mp (show((Vw::r)==cH)=true from e);cases q
  |notImplemented=>have q:(Lw::r)=cH:=beq_iff_eq.mp (show((Lw::r)==cH)=true from e);cases q
  |bool z=>have q:(Hn z::r)=cH:=beq_iff_eq.mp (show((Hn z::r)==cH)=true from e);cases q
  |int z u=>have q:(Df z u::r)=cH:=beq_iff_eq.mp (show((Df z u::r)==cH)=true from e);cases q
  |float z u=>have q:(Ml z u::r)=cH:=beq_iff_eq.mp (show((Ml z u::r)==cH)=true from e);cases q
  |str z u=>have q:(Ko z u::r)=cH:=beq_iff_eq.mp (show((Ko z u::r)==cH)=true from e);cases q
  |bytes z u=>have q:(Oy z u::r)=cH:=beq_iff_eq.mp (show((Oy z u::r)==cH)=true from e);cases q
  |builtin z=>have q:(Hg z::r)=cH:=beq_iff_eq.mp (show((Hg z::r)==cH)=true from e);cases q
def aNi(K:Ab)(C:Addr):Bool:=(PySem.W.clsIn K C).any λcd=>aHe cd.mro
def aQc{od:Option Obj}{name:Str}{v:Value}{R:Mg->Ae->Prop}(X:K.In s.heap)(I:Pa s.heap x ox C od)(hp:aNi K C=true)(ht:Fd K C name=some none)
  (h:∀b,Au #v[c] A.in1 (Uo (.ref x) (.ref C) (.str name tk) name v b)
   (λfin s'=>match fin with|.done f=>R (.ok f) s'|.again c'=>c'.quiet=true/\Gr #v[c] A c' R s') (λe s'=>R (.error e) s') s):
  Gr #v[c] A (.call (.builtin "object.__setattr__") ⟨[.ref x,.str name tk,v],[]⟩) R s:=by
 have SF:=PySem.F.store_object;obtain⟨cd,hc,ho⟩:=Nx hp;obtain⟨pass,has,ne⟩:=yL (.ref x) ho;have sub:Jf #v[c] s.heap (Ki (.ref x) (.type "object")) true:=I.type.andThen (PySem.W.looks_mroIn X (by unfold Vf;rw[hc,Option.bind_some,if_neg (by rw[ne];decide),has]));refine Gg SF.slot.plain SF.entry (@PySem.W.check_slot #v[c] _ _ s "object.__setattr__" "object" "__setattr__" (.ref x) [.str name tk,v] [] _ SF.kind SF.split sub (SF.args (.ref x) (.str name tk) v) ?_);obtain⟨attr,ha,hr⟩:=Qo.mp ht;have hm:Jf #v[c] s.heap (mroOf (.ref C)) cd.mro:=(Lz X hc).andThen .now;have L3:Jf #v[c] s.heap (Um attr) none:=by
  cases attr with
  |none=>exact .now
  |some a=>
   obtain⟨b,hb,e⟩:=Ff.mp hr;refine(PySem.W.looks_takesIn X hb).andThen ?_;cases b
   ·exact .now
   ·cases e
 rw[PySem.W.osa_eq,refuse_eq];refine Aa (Aa (I.type.here (Aa (hm.here ?_))));rw[pass];refine Ad (Aa (I.type.here (Aa ((Jd X ha).here (Aa (L3.here ?_))))));exact h _
def aQy{name:Str}{v:Value}{Q:Unit->Ae->Prop}(X:K.In s.heap)(hx:s.heap.get? x=some ox)(hcl:ox.cls=.ref C)(hnc:∀c,ox.data≠.cls c)(hdn:ox.dict=none)
  (hs:Bo K (.ref C) "__setattr__"=some (some (.builtin "object.__setattr__"))) (hp:aNi K C=true) (ht:Fd K C name=some none) (hh:Dq K C=true)
  (h:∀h',h'.get? x=some {ox with dict:=some #v[0]}->h'.Ns1 #v[0] (λy=>if y=name then some v else none)->#v[0]<h'.objs.size->(∀b o,b≠x->s.heap.get? b=some o->h'.get? b=some o)->Q () {s with heap:=h',toks:=s.toks+2}):
  Au #v[c] A (setAttr (.ref x) name v) Q E s:=by
 have hno:Ug ox=true:=by
  unfold Ug;cases e:ox.data with
  |cls c=>exact absurd e (hnc c)
  |_=>rfl
 have I:Pa s.heap x ox C none:=⟨hx,hcl,hno,by rw[hdn];trivial⟩;obtain⟨hp0,gg,dw,tt,oo⟩:=s;refine Sh X I hs (aQc (s:=⟨hp0,gg,dw,tt+1,oo⟩) X I hp ht λb=>?_);obtain⟨cd,hc,hd'⟩:=Nx hh;obtain⟨oc,odi,oda,osl⟩:=ox;have e1:oc=.ref C:=hcl;have e2:odi=none:=hdn;subst e1 e2;refine Aa (Ad (Aa (Aa (Sb hx ?_))));refine Aa (Pf (s:=⟨hp0,gg,dw,tt+1,oo⟩) (Lz X hc) ?_);rw[hd'];have hx1:(hp0.push #v[7]).get? x=some ⟨.ref C,none,oda,osl⟩:=Af _ hx;have hxs:x≠hp0.objs.size:=Be (Ar hx);have go:Au #v[c] A.in1 (do let d<-alloc {cls:=Fc "dict",data:=Vy #[]};update x λo=>{cls:=o.cls,dict:=some d,data:=o.data,slots:=o.slots};dictMade (.ref C) x d)
   (λa s'=>a=some hp0.objs.size/\s'=⟨(hp0.push #v[7]).update x λo=>{cls:=o.cls,dict:=some hp0.objs.size,data:=o.data,slots:=o.slots},gg,dw,tt+1,oo⟩)
   (λ_ _=>False) ⟨hp0,gg,dw,tt+1,oo⟩:=Aa (wpAny_alloc' (Aa (wpAny_update' hx1 (Ad ⟨rfl,rfl⟩))))
 have step:Au #v[c] A.in1 (match oda with
   |.cls _=>pure none
   |_=>do let d<-alloc {cls:=Fc "dict",data:=Vy #[]};update x λo=>{cls:=o.cls,dict:=some d,data:=o.data,slots:=o.slots};dictMade (.ref C) x d)
   (λa s'=>a=some hp0.objs.size/\s'=⟨(hp0.push #v[7]).update x λo=>{cls:=o.cls,dict:=some hp0.objs.size,data:=o.data,slots:=o.slots},gg,dw,tt+1,oo⟩)
   (λ_ _=>False) ⟨hp0,gg,dw,tt+1,oo⟩:=by
  cases oda with
  |cls c=>exact absurd rfl (hnc c)
  |_=>exact go
 refine Dc step (λa s' ⟨ea,es⟩=>?_) λ_ _ z=>z.elim;subst ea es;have hfr:(⟨.ref C,some hp0.objs.size,oda,osl⟩:Obj).isFreed=false:=by
  have:=(Heap.get?_some_iff.mp hx).2;cases oda<;>first|rfl|exact this
 have hgd:((hp0.push #v[7]).update x λo=>{cls:=o.cls,dict:=some hp0.objs.size,data:=o.data,slots:=o.slots}).get? hp0.objs.size=some #v[7]:=
  (Sx _ _ _ _ hxs.symm).trans (Heap.get?_push_at rfl rfl)
 have hnd:((hp0.push #v[7]).update x λo=>{cls:=o.cls,dict:=some hp0.objs.size,data:=o.data,slots:=o.slots}).Ns hp0.objs.size (λ_=>none):=⟨_, #[],_,hgd,rfl,λe he=>absurd he (by simp),λ_=>rfl⟩;show Au _ _ (Ky hp0.objs.size (.str name tt) name v) _ _ _;unfold Ky Up;refine Aa (Ad (Aa (wpAny_nsSet1 (Rx hnd) λh' hn' hsb=>?_)));obtain⟨oD,esD,epD,hoD,hdD,hcD⟩:=hn'.count (Ql name v Yl);refine Aa (Yf hoD (by rw[hdD];exact Yh (Bd hcD (by rw[Aq,Hc,Dv];lia))) ?_);refine Ad (h h' ?_ hn' (Ar hoD) λb o hb eb=>?_)
 ·exact(hsb.2 x hxs).trans (Bn _ hx1 hfr)
 ·exact(hsb.2 b (Be (Ar eb))).trans ((Sx _ _ _ _ hb).trans (Af _ eb))
end
section
variable {prog:Ap}{w:Bh}{A:Bl}{E:#v[a]}{s:Ae}{K:Ab}{x C:Addr}
def aOz{nm qn:Str}{N:Addr}{bs bm:List Value}{hdct:Bool}{sn:List Str}{sub:List Value}{ab:Bool}{col:Option Bool}{dd:Option Addr}{k0 k1 k2 k3 k5:#v[8]}{newId:String}{v:Value}{M:Tt}{Q:Unit->Ae->Prop}
  {hp:Heap} {gg:Array Hl} {dw:Zj} {tt:Nat} {oo:Wj}
  (hC:hp.get? C=some (Lv nm qn C N bs bm hdct sn sub ab col dd k0 k1 k2 k3 k5 newId)) (hbm:bm.contains (.type "ValueError")=true) (hx:hp.get? x=some ox) (hcl:ox.cls=.ref C) (hq:Q () ⟨hp,gg,dw,tt,oo⟩):
  Au M A (Gx "ValueError.__init__" ⟨[.ref x,v],[]⟩) Q E ⟨hp,gg,dw,tt,oo⟩:=by
 have F:=Oq;have has:(Aj C::bm).contains (.type "ValueError")=true:=by rw[Es,hbm,Kh]
 have hshort:=F.noStar;simp only[Gx,F.initKind,F.initSplit,F.initRow];unfold Ki
 repeat (first|(with_reducible refine Ce hx ?_;rw[hcl])|(with_reducible refine Gq hC ?_;rw[has])|with_reducible refine Ce hC ?_ |wp_step)
 exact hq
def aVg{v:Value}{Q:#v[a]}(X:K.In s.heap)(hx:s.heap.get? x=some ox)(hcl:ox.cls=.ref C)(hd:ox.data=.fields vs)(hsz:vs.size=6)
  (hm:Pz K C "ValueError"=true)
  (h:∀(h':Heap)(vs':Array Value),h'.get? x=some {ox with data:=.fields vs'}->vs'.size=6->vs'[1]? =vs[1]? ->(∀b o,b≠x->s.heap.get? b=some o->h'.get? b=some o)->Q .none {s with heap:=h'}):
  Au #v[c] A (call (.builtin "ValueError.__init__") [.ref x,v]) Q E s:=by
 have F:=Oq;obtain⟨nm,qn,N,bs,bm,hdct,sn,sub,ab,col,dd,k0,k1,k2,k3,k5,newId,hC,_,hbm⟩:=PySem.W.kts_cls X hm;obtain⟨hp0,gg,dw,tt,oo⟩:=s;refine Le (Gg F.init.plain F.initEntry (aOz hC hbm hx hcl ?_));have hx1:(hp0.push {cls:=.type "tuple",data:=.seq [v].toArray}).get? x=some ox:=Af _ hx;have h0:∃a0,vs[0]? =some a0:=⟨vs[0],by simp[hsz]⟩;obtain⟨a0,h0⟩:=h0;show Au _ _ (do let t<-newTuple [v];Kr (.ref x) 0 t;ret .none) _ _ _;refine Aa (wpAny_newTuple (Aa ?_));unfold Kr;refine Aa (Hj hx1 hd h0 (Aa (Gy hx1 hd ∅ ?_)));have hd2:=Dy hd (·.setIfInBounds 0 (Aj hp0.objs.size));have hx2:=Bn (Ij (·.setIfInBounds 0 (Aj hp0.objs.size))) hx1 (Fu hd2);have fin:Q .none ⟨(hp0.push {cls:=.type "tuple",data:=.seq [v].toArray}).update x (Ij (·.setIfInBounds 0 (Aj hp0.objs.size))),gg,dw,tt,oo⟩:=by
  refine h _ (vs.setIfInBounds 0 (Aj hp0.objs.size)) ?_ (by simp[hsz]) (by simp) λb o hb eb=>?_
  ·rw[hx2];congr 1;obtain⟨oc,od,oda,osl⟩:=ox;have e:oda=.fields vs:=hd;subst e;rfl
  ·rw[Bj _ _ (Ci hb)];exact Af _ eb
 cases a0<;>first|exact Ad (Ad fin)|exact Oe (Ad fin)
end
def oJ(e C:Addr)(od:Option Addr):HO:=.ext λh=>∃vs sl,h.get? e=some ⟨.ref C,od,.fields vs,sl⟩/\vs.size=6/\vs[1]? =some .none
def aDp{P:Ap}{w:Bh}{H:Hp}{e C:Addr}{od:Option Addr}(hx:h.get? e=some ⟨.ref C,od,.fields vs,sl⟩)(hs:vs.size=6)(h1:vs[1]? =some .none):cC P w H h e (oJ e C od):=
 ⟨⟨vs,sl,hx,hs,h1⟩,⟨_,hx⟩,λh1 h2 ⟨vs,sl,a,b,c⟩ k=>⟨vs,sl,k _ a,b,c⟩⟩
def aOs{H:Hp}{o:HO}(h:H a=some o):upd H a o=H:=by
 funext b;by_cases e:b=a
 ·subst e;rw[aM,h]
 ·rw[aL e]
section
variable {X:Cx}{a b:Bw}{ta tb:TE}{p apos pos:Pos}
def aQ7:(Bo [] (.type "type") "__getattribute__")=some (some (.builtin "type.__getattribute__")):=by decide+kernel
def aO0(K:Ab):Tp K (.type "ValueError") (.type "type") "__init__"=some (.val (.builtin "ValueError.__init__")):=by
 have:Tp [] (.type "ValueError") (.type "type") "__init__"=some (.val (.builtin "ValueError.__init__")):=by kernel_rfl
 exact this
def aK3{prog:Ap}{w:Bh}{A:Bl}{E:#v[a]}{s:Ae}{K:Ab}{pl:Sem Bool}{Q:Value×List Value->Ae->Prop}(X:K.In s.heap)(h:Q (.builtin "ValueError.__init__",[]) {s with toks:=s.toks+1}):
  Au #v[c] A (Nd (.type "ValueError") "__init__" pl) Q E s:=by
 have hs:Manifest.isStub "ValueError"=false:=by decide+kernel
 have ht:Yy (.type "ValueError")=pure (.type "type"):=by kernel_rfl
 have hstub:Qv (.type "ValueError")=pure none:=by unfold Qv;dsimp only;rw[hs];rfl
 have L0:Jf #v[c] s.heap (Yy (.type "ValueError")) (.type "type"):=Og ht;have hg:Bo K (.type "type") "__getattribute__"=some (some (.builtin "type.__getattribute__")):=aQ7;unfold Nd specialOf;refine Aa (Aa (L0.here ((Jd X hg).here ?_)));dsimp only;rw[if_pos PySem.W.canon_tga];refine Aa (Dc (Q:=λv=>Q (v,[])) (E:=E) ?_ (λ_ _ z=>Ad z) λ_ _ z=>z);have LO:Jf #v[c] s.heap (Qv (.type "ValueError")) none:=Og hstub;refine PySem.W.cls_open X LO L0 hg (PySem.W.looks_hook X (r:=none) (by rfl)) (by show PySem.W.subIn K _ _=_;rfl) (aO0 K) (Ad ?_);show Au _ _ (handedOut (.builtin "ValueError.__init__")) _ _ _;rw[PySem.W.handedOut_of (show Nv (.builtin "ValueError.__init__")=true by decide+kernel)];exact Ad h
def tVe(K:Ab)(t:TA):TE:=λσ H Q=>t σ H λvs H2=>∃e C y od,vs=[.ref e,y]/\H2 e=some (oJ e C od)/\Pz K C "ValueError"=true/\Q .non H2
def aW4{t:TA}{pl:Sem Bool}(hg:Gl X "ValueError")(hm:X.mg "ValueError"=none)(ha:PA X [a,b] t)(hs:Bc [a,b] X.env=[(false,eval a X.env),(false,eval b X.env)]:=by rfl)
  (he:eval (.Call (.Attribute (.Name "ValueError" p) "__init__" apos) [a,b] [] pos) X.env=(do
   let ov<-eval (.Name "ValueError" p) X.env
   Lr apos.atName
   let(f,first)<-holding [ov] (Nd ov "__init__" pl)
   Wr pos f first (Ju pos (Bc [a,b] X.env)) (Gh pos (Do [] X.env))):=by rfl):
  PE X (.Call (.Attribute (.Name "ValueError" p) "__init__" apos) [a,b] [] pos) (tVe X.K t):=by
 intro pins s σ H Q I h;have hv:Gc "ValueError"=some (.type "ValueError"):=by decide+kernel
 have hn:PE X (.Name "ValueError" p) (tC (.ty "ValueError")):=aIm (v:=.ty "ValueError") hg hm hv rfl ⋯ ⋯;refine Rc (pl:=pl) (thn (hn pins s σ H (λx H1=>x=.ty "ValueError"/\H1=H) I ⟨rfl,rfl⟩) λu s1 ⟨x,H1,I1,rx,e1,e2⟩=>?_) he;subst e1 e2;obtain rfl:u=Fc "ValueError":=rx;refine aK3 I1.kIn ?_;have I2:=I1.tok (s1.toks+1);have hA:=ha pos pins _ σ H1 _ I2 h;rw[hs]at hA;show Au _ _ (Wr pos (.builtin "ValueError.__init__") [] (Ju pos (Bc [a,b] X.env)) (Gh pos (Do [] X.env))) _ _ _;rw[hs];refine Io rfl (Jj ?_);refine thn hA λus s2 ⟨vs,H2,I3,r2,e,C,y,od,ev,hH,hk,q⟩=>?_;subst ev;obtain⟨u1,u2,rfl,r1,ry⟩:=r2.two;cases r1;obtain⟨⟨ws,sl,hx,hsz,h1⟩,_,_⟩:=I3.hok e _ hH;refine aVg I3.kIn hx rfl rfl hsz hk λh' vs' hx' hsz' h1' keep=>?_;have J:=I3.write (x:=e) (e:=e) (o:=oJ e C od) (h':=h') (t':=s2.toks) (by rw[hH];exact Ep) (.inl rfl) (λb o hb eb=>keep b o hb eb) ⟨_,hx'⟩ (aDp hx' hsz' (by rw[h1',h1]));rw[aOs hH]at J;exact⟨.non,H2,J,rfl,q⟩
structure wJ(K:Ab)(C:Addr):Prop where
 sa:Bo K (.ref C) "__setattr__"=some (some (.builtin "object.__setattr__"))
 over:aNi K C=true
 hd:Dq K C=true
 kts:Pz K C "ValueError"=true
def aQw(K:Ab)(f:Str)(to tv:TE):TS:=λD σ H=>tv σ H λy H1=>to σ H1 λx H2=>∃e C,x=.ref e/\H2 e=some (oJ e C none)/\wJ K C/\Fd K C f=some none/\
 ∀dx,H2 dx=none->dx≠e->D.nx σ (upd (upd H2 dx (.xd [(f,y)])) e (oJ e C (some dx)))
def aKq{o value:Bw}{to tv:TE}(ho:PE X o to)(hv:PE X value tv)(hs:Dt value (some (.Attribute o f pos')) pos.line X.env=pure false):PS X (.Assign [.Attribute o f pos'] value pos) (aQw X.K f to tv):=by
 intro pins s σ H D I h;refine Pt (thn (hv pins s σ H _ I h) λu s1 ⟨y,H1,I1,ry,q⟩=>thn (ho pins s1 σ H1 _ I1 q) λov s2 ⟨x,H2,I2,rx,e,C,ex,hH,c,tk,q2⟩=>?_) hs;subst ex;obtain rfl:ov=Aj e:=rx;obtain⟨⟨ws,sl,hx,hsz,h1⟩,_,_⟩:=I2.hok e _ hH;have hxs:s2.heap.objs.size≠e:=Ci (Be (Ar hx));refine aQy I2.kIn hx rfl (λc z=>by cases z) rfl c.sa c.over tk c.hd λh' hx' hn hlt keep=>?_;have hfr:(⟨.ref C,none,.fields ws,sl⟩:Obj).isFreed=false:=rfl;have he:(h'.update e λ_=>⟨.ref C,none,.fields ws,sl⟩).get? e=some ⟨.ref C,none,.fields ws,sl⟩:=Bn (λ_=>⟨.ref C,none,.fields ws,sl⟩) hx' hfr;have ho:∀b,b≠e->(h'.update e λ_=>⟨.ref C,none,.fields ws,sl⟩).get? b=h'.get? b:=λb hb=>Bj _ _ (Ci hb);have J1:=I2.laid (a:=s2.heap.objs.size) (o:=.xd [(f,y)]) (h':=h'.update e λ_=>⟨.ref C,none,.fields ws,sl⟩) (t':=s2.toks+2) (λb o eb=>by
  by_cases hb:b=e
  ·subst hb;rw[he, <-eb,hx]
  ·rw[ho b hb];exact keep b o hb eb) (Am _) ⟨λz=>if z=f then some u else none,by
   obtain⟨o',es,ep,e1,e2⟩:=hn;exact⟨o',es,ep,(ho _ hxs).trans e1,e2⟩,λz=>by
   show pB (Eu z [(f,y)]) (if z=f then some u else none);by_cases hz:z=f
   ·have hb:(z==f)=true:=beq_iff_eq.mpr hz;simp only[Eu,hb,if_pos hz];exact ry
   ·have hb:(z==f)=false:=beq_eq_false_iff_ne.mpr hz;simp only[Eu,hb,if_neg hz];trivial⟩
 have hH':upd H2 s2.heap.objs.size (.xd [(f,y)]) e=some (oJ e C none):=by rw[aL (Ci hxs)];exact hH
 have J2:=J1.write (x:=e) (e:=e) (o:=oJ e C (some s2.heap.objs.size)) (h':=h') (t':=s2.toks+2) (by rw[hH'];exact Ep) (.inl rfl) (λb o hb eb=>(ho b hb).symm.trans eb) ⟨_,hx'⟩ (aDp hx' hsz h1);exact⟨σ,_,J2,q2 _ (I2.hok.fresh (Am _)) hxs⟩
end
def excIn(K:Ab)(C:Addr):Bool:=match K.lookup C with
 |some ⟨.type "type",_,.cls cd,sl⟩=>(match cd.mro,sl.toList with
  |.ref C'::bm,[_,_,_,_,some (.builtin n),_]=>C'==C && !cd.hasDel && bm.contains (.type "BaseException") && bm.contains (.type "ValueError") && !bm.contains (.type "AttributeError") && !bm.contains (.type "NameError") && n=="ValueError.__new__"
  |_,_=>false)
 |_=>false
def pH{K:Ab}(X:K.In h)(q:excIn K C=true):∃nm qn N bs bm hdct sn sub ab col dd k0 k1 k2 k3 k5,
  h.get? C=some (Lv nm qn C N bs bm hdct sn sub ab col dd k0 k1 k2 k3 k5 "ValueError.__new__")/\bm.contains (.type "BaseException")=true/\bm.contains (.type "ValueError")=true/\bm.contains (.type "AttributeError")=false/\bm.contains (.type "NameError")=false:=by
 unfold excIn at q;split at q
 ·rename_i dd cd sl ho;split at q
  ·rename_i C' bm k0 k1 k2 k3 n k5 hm hs;simp only[Dp,beq_iff_eq,Bool.not_eq_true']at q;obtain⟨⟨⟨⟨⟨⟨rfl,hdel⟩,hb⟩,hv⟩,ha⟩,hn⟩,rfl⟩:=q;obtain⟨nm,bs,mro,ns,qn,hd,sn,sub,ab,col,del⟩:=cd;dsimp only at hm hdel;subst hm hdel;have hsl:sl= #[k0,k1,k2,k3,some (.builtin "ValueError.__new__"),k5]:=by
    obtain⟨l⟩:=sl;simp only at hs;rw[hs]
   subst hsl;exact⟨nm,qn,ns,bs,bm,hd,sn,sub,ab,col,dd,k0,k1,k2,k3,k5,X _ _ ho,hb,hv,ha,hn⟩
  ·cases q
 ·cases q
section
variable {prog:Ap}{w:Bh}{A:Bl}{E:#v[a]}{hp:Heap}{gg:Array Hl}{dw:Zj}{tt:Nat}{oo:Wj}
variable {nm qn:Str}{C N:Addr}{bs bm:List Value}{hdct:Bool}{sn:List Str}{sub:List Value}{ab:Bool}{col:Option Bool}{dd:Option Addr}{k0 k1 k2 k3 k5:#v[8]}
def aJ0{M:Tt}{rest:List Value}{Q:Unit->Ae->Prop}(hC:hp.get? C=some (Lv nm qn C N bs bm hdct sn sub ab col dd k0 k1 k2 k3 k5 "ValueError.__new__"))(hv:bm.contains (.type "ValueError")=true)
  (hq:Q () ⟨hp,gg,dw,tt,oo⟩):Au M A (Gx "ValueError.__new__" ⟨.ref C::rest,[]⟩) Q E ⟨hp,gg,dw,tt,oo⟩:=by
 have Fn:=Jv;have has:(Aj C::bm).contains (.type "ValueError")=true:=by rw[Es,hv,Kh]
 have star:=Fn.noStar;simp only[Gx,Fn.newKind,Fn.newSplit,Fn.newRow]
 repeat (first|refine Ce hC ?_ |(refine Gq hC ?_;rw[has])|refine wpAny_staticBase_exc hC ?_ |refine Ye hC ?_ |simp only[bne_self_eq_false,Dx,if_false]|wp_step)
 exact hq
def aPv{R:Mg->Ae->Prop}{rest:List Value}(hC:hp.get? C=some (Lv nm qn C N bs bm hdct sn sub ab col dd k0 k1 k2 k3 k5 "ValueError.__new__"))
  (hv:bm.contains (.type "ValueError")=true) (ha:bm.contains (.type "AttributeError")=false) (hn:bm.contains (.type "NameError")=false)
  (hq:R (.ok (.ret (.ref (hp.objs.size+1)))) ⟨(hp.push {cls:=.type "tuple",data:=.seq rest.toArray}).push {cls:=.ref C,data:=.fields #[.ref hp.objs.size,.none,.none,.none,.bool false,.none]},gg,dw,tt,oo⟩) (hrest:rest.length<=sizeLine):
  Gr #v[c] A (.builtin "ValueError.__new__" ⟨.ref C::rest,[]⟩) R ⟨hp,gg,dw,tt,oo⟩:=by
 have Fn:=Jv;have ends:=Fn.ends;have hcV:(Aj C::bm).contains (.type "ValueError")=true:=by rw[Es,hv,Kh]
 have hcA:(Aj C::bm).contains (.type "AttributeError")=false:=by rw[Es,ha];rfl
 have hcN:(Aj C::bm).contains (.type "NameError")=false:=by rw[Es,hn];rfl
 refine codeAny_builtinAt Fn.entry ?_;unfold Builtin.«BaseException.__new__»;refine Ve ?_;show PySem.wpAt _ _ _ (stack>>=_) _ _ _;refine Ve (PySem.wpAt_stack λp below=>Sg ?_);wp_walk;refine Sg ?_;rw[Fn.owner]
 repeat (first|with_reducible refine wpAny_madeHere_exc Fn.canon hC ?_ |with_reducible refine Ce hC ?_ |(with_reducible refine Gq hC ?_;first|rw[hcV]|rw[hcA]|rw[hcN])|wp_step)
 show R _ _;rw[Dd];exact hq
def aBp{K:Ab}{fI:Addr}{rest:List Value}{Q:Fin->Ae->Prop}(X:K.In hp)(hx:excIn K C=true)(hi:Bo K (.ref C) "__init__"=some (some (.ref fI)))(hf:Lj K (.ref fI)=some (.type "function"))
  (hq:Au #v[c] A (call (.ref fI) (.ref (hp.objs.size+1)::rest)) (λr s'=>r=.none/\Q (.done (.ret (.ref (hp.objs.size+1)))) s') E
   ⟨(hp.push {cls:=.type "tuple",data:=.seq rest.toArray}).push {cls:=.ref C,data:=.fields #[.ref hp.objs.size,.none,.none,.none,.bool false,.none]},gg,dw,tt,oo⟩) (hrest:rest.length<=sizeLine):
  Au #v[c] A (Builtin.«type.__call__» ⟨.ref C::rest,[]⟩) Q E ⟨hp,gg,dw,tt,oo⟩:=by
 obtain⟨nm,qn,N,bs,bm,hdct,sn,sub,ab,col,dd,k0,k1,k2,k3,k5,hC,hb,hv,ha,hn⟩:=pH X hx
 repeat (first|with_reducible refine Ce hC ?_ |with_reducible refine Ye hC ?_ |wp_step)
 refine codeAny_call_builtin_code (Kg _ Jv.quiet) (aJ0 hC hv ?_);refine aPv hC hv ha hn ?_ hrest;show Au _ _ _ _ _ _;have keep:∀b o,hp.get? b=some o->((hp.push {cls:=.type "tuple",data:=.seq rest.toArray}).push {cls:=.ref C,data:=.fields #[.ref hp.objs.size,.none,.none,.none,.bool false,.none]}).get? b=some o:=λb o e=>Af _ (Af _ e);have hC1:=keep _ _ hC;have X1:=X.keeps keep;have at1:((hp.push {cls:=.type "tuple",data:=.seq rest.toArray}).push {cls:=.ref C,data:=.fields #[.ref hp.objs.size,.none,.none,.none,.bool false,.none]}).get? (hp.objs.size+1)=some {cls:=.ref C,data:=.fields #[.ref hp.objs.size,.none,.none,.none,.bool false,.none]}:=by heap_get
 have has:(Aj C::bm).contains (.ref C)=true:=by simp
 unfold Ki
 repeat (first|with_reducible refine Ce at1 ?_ |(with_reducible refine Gq hC1 ?_;rw[has])|wp_step)
 show Au _ _ (Lf (.ref C) _) _ _ _;refine(Jd X1 hi).here ?_;refine Cg (Aa ((Tq X1 _ hf).here ?_));refine Aa (Dc hq (λr s' hr=>?_) λ_ _ z=>z);obtain⟨rfl,hQ⟩:=hr
 wp_walk
 exact hQ
def aLy{K:Ab}{fI:Addr}{rest:List Value}{Q:#v[a]}(X:K.In hp)(hx:excIn K C=true)(hi:Bo K (.ref C) "__init__"=some (some (.ref fI)))(hf:Lj K (.ref fI)=some (.type "function"))
  (hq:Au #v[c] (A.under (.builtin "type.__call__" ⟨.ref C::rest,[]⟩)) (call (.ref fI) (.ref (hp.objs.size+1)::rest)) (λr s'=>r=.none/\Q (.ref (hp.objs.size+1)) s') E
   ⟨(hp.push {cls:=.type "tuple",data:=.seq rest.toArray}).push {cls:=.ref C,data:=.fields #[.ref hp.objs.size,.none,.none,.none,.bool false,.none]},gg,dw,tt,oo⟩) (hrest:rest.length<=sizeLine):
  Au #v[c] A (call (.ref C) rest) Q E ⟨hp,gg,dw,tt,oo⟩:=by
 obtain⟨nm,qn,N,bs,bm,hdct,sn,sub,ab,col,dd,k0,k1,k2,k3,k5,hC,_⟩:=pH X hx;have f1:=tc_lookup;have f2:=tc_bind (.ref C);have hT:(⟨hp,gg,dw,tt,oo⟩:Ae).TypeIs (.ref C) "type":=⟨_,hC,rfl⟩;refine Le (Rn ?_);show Au _ _ (callAny (.ref C) _) _ _ _
 repeat (any_goals (first|assumption|with_reducible refine Ce hC ?_ |wp_step))
 refine⟨rfl,codeAny_call_builtin_at (Kg _ #v[3]) entry_typeCall (wpAny_check_type_call_sub hC (aBp X hx hi hf ?_ hrest))⟩;exact hq
end
section
variable {M:Tt}{A:Bl}{E:#v[a]}{s:Ae}
def Loose(h:Heap)(e:Addr)(vs:Array Value):Prop:=vs[1]? =some .none∨∃T oT ts,vs[1]? =some (.ref T)/\T≠e/\h.get? T=some oT/\oT.data=.fields ts/\ts[3]? =some .none
structure aLg(l:List Env)(e:Addr)(oe:Obj)(fl:Value)(h h':Heap)(old:Option Addr):Prop where
 at_:∃vs' T' oT' ts',h'.get? e=some {oe with data:=.fields vs'}/\vs'.size=6/\vs'[1]? =some (.ref T')/\T'≠e/\h.objs.size<=T'/\h'.get? T'=some oT'/\oT'.data=.fields ts'/\ts'[3]? =some fl
 keep:∀b o,h.get? b=some o->b≠e->some b≠old->b∉frs l->h'.get? b=some o
 slots:∀b o,h.get? b=some o->b∈frs l->∃sl,h'.get? b=some {o with slots:=sl}
def aCh{env:Env}{outer:List Env}{L e:Addr}{head:Value}{hadNext:Bool}{Q:Unit->Ae->Prop}
  (hfr:A.frames=some (env::outer)) (hl:s.heap.FunFrames base (env::outer)) (hf:env.frame=some L) (he:s.heap.get? e=some oe) (hd:oe.data=.fields vs) (hsz:vs.size=6)
  (h:∀h',aLg (env::outer) e oe (My L) s.heap h' none->Q () {s with heap:=h'}):
  Au M A (do let a<-frameOf env;let pl<-entryPlaceOf L hadNext;let b<-Qt head a .none (My L) .none pl;setField (.ref e) 1 b) Q E s:=by
 have hne:e∉frs (env::outer):=λhm=>by
  obtain⟨_,o,ho,hnf⟩:=hl.mem hm;rw[he]at ho;cases ho;exact hnf vs hd
 refine Aa (wpAny_frameOf_fun hfr hl hf λh1 hs1=>Aa (wpAny_entryPlaceOf λpl hpl=>?_));unfold Qt newFields;refine Aa (Dj ?_ (hpl.sizeOk5 _ _ _ _ _));have he1:h1.get? e=some oe:=(hs1.2.1 e hne).trans he;generalize hT:({cls:=.type "traceback",dict:=none,data:=.fields ([head,.ref L,.none,My L,.none]++(if pl.isEmpty then Al 6 Cb else pl)).toArray}:Obj)=oT;have hT3:∃ts,oT.data=.fields ts/\ts[3]? =some (My L)/\oT.isFreed=false:=⟨_,by rw[<-hT],by first|(simp;done)|(rcases hpl with rfl|⟨_,_,_,_,_,_,_,rfl⟩<;>simp),by rw[<-hT];rfl⟩;obtain⟨ts,hts,h3,hfz⟩:=hT3;have he2:=Af (h:=h1) oT he1;refine Gy he2 hd ∅ (h _ ?_);have hTe:h1.objs.size≠e:=Ma (Ar he1);have hd3:=Dy hd (·.setIfInBounds 1 (Aj h1.objs.size));have he3:=Bn (Ij (·.setIfInBounds 1 (Aj h1.objs.size))) he2 (Fu hd3);have hTnew:#v[0]<=h1.objs.size:=by rw[hs1.1];exact Am _
 refine⟨⟨vs.setIfInBounds 1 (Aj h1.objs.size),h1.objs.size,oT,ts,?_,by simp[hsz],by simp[hsz],hTe,hTnew,(Bj _ _ (Ci hTe)).trans (Ba h1 hfz),hts,h3⟩,λb o eb hb _ hbf=>?_,λb o eb hbf=>?_⟩
 ·rw[he3];congr 1;obtain⟨oc,od,oda,osl⟩:=oe;have e1:oda=.fields vs:=hd;subst e1;rfl
 ·rw[Bj _ _ (Ci hb)];exact Af _ ((hs1.2.1 b hbf).trans eb)
 ·obtain⟨sl,hs⟩:=hs1.2.2 b o eb;refine⟨sl,?_⟩;have hbe:e≠b:=λz=>hne (by rw[z];exact hbf);rw[Bj _ _ hbe];exact Af _ hs
def aA0{env:Env}{outer:List Env}{L e:Addr}{Q:Unit->Ae->Prop}
  (hfr:A.frames=some (env::outer)) (hl:s.heap.FunFrames base (env::outer)) (hf:env.frame=some L) (he:s.heap.get? e=some oe) (hd:oe.data=.fields vs) (hsz:vs.size=6) (hz:Loose s.heap e vs)
  (h:∀h' old,(∀T,old=some T->vs[1]? =some (.ref T))->aLg (env::outer) e oe (My L) s.heap h' old->Q () {s with heap:=h'}):Au M A (Uw (.ref e) env) Q E s:=by
 unfold Uw;simp only[hf];rcases hz with hz|⟨T,oT,ts,h1,hTe,hT,hdT,h3⟩
 ·refine Aa (Hj he hd hz ?_);rw[if_neg ⋯];exact aCh hfr hl hf he hd hsz λh' n=>h h' none (λT z=>by cases z) n
 ·refine Aa (Hj he hd h1 ?_);rw[if_pos (show(Aj T != Cb)=true by simp)];refine Aa (Hj hT hdT h3 ?_);rw[if_neg (show¬((Cb==My L)=true) by simp[My])];refine Aa (Gy hT hdT (Bu.mp h3).1 ?_);have other:∀b,b≠T->(s.heap.update T (Ij (·.setIfInBounds 3 Cb))).get? b=s.heap.get? b:=λb hb=>Bj _ _ (Ci hb);have nrec:∀b o,s.heap.get? b=some o->(∀vs,o.data≠.fields vs)->b≠T:=λb o eb hn q=>by
   subst q;rw[hT]at eb;cases eb;exact hn ts hdT
  have hfT:T∉frs (env::outer):=λhm=>by
   obtain⟨_,o,ho,hnf⟩:=hl.mem hm;exact nrec T o ho hnf rfl
  have hsome:∀b,(s.heap.update T (Ij (·.setIfInBounds 3 Cb))).get? b=none->s.heap.get? b=none:=λb eb=>by
   by_cases hb:b=T
   ·subst hb;rw[Bn _ hT (Fu (Dy hdT _))]at eb;cases eb
   ·rw[other b hb]at eb;exact eb
  refine aCh hfr (hl.of_keeps λb o eb hn=>⟨o,(other b (nrec b o eb hn)).trans eb,rfl⟩) hf ((other e (Ci hTe)).trans he) hd hsz λh' n=>?_;refine h h' (some T) (λT' z=>by cases z;exact h1) ⟨?_,λb o eb hb ho hbf=>?_,λb o eb hbf=>?_⟩
  ·obtain⟨vs',T',oT',ts',a1,a2,a3,a4,a5,a6⟩:=n.at_;exact⟨vs',T',oT',ts',a1,a2,a3,a4,by rw[Heap.size_update]at a5;exact a5,a6⟩
  ·exact n.keep b o ((other b (λz=>ho (by rw[z]))).trans eb) hb (λz=>by cases z) hbf
  ·exact n.slots b o ((other b (λz=>hfT (by rw[<-z];exact hbf))).trans eb) hbf
structure Left(l:List Env)(e:Addr)(oe:Obj)(h h':Heap)(old:Option Addr):Prop where
 at_:∃vs' T' oT' ts',h'.get? e=some {oe with data:=.fields vs'}/\vs'.size=6/\vs'[1]? =some (.ref T')/\T'≠e/\h.objs.size<=T'/\h'.get? T'=some oT'/\oT'.data=.fields ts'/\ts'[3]? =some .none
 keep:∀b o,h.get? b=some o->b≠e->some b≠old->b∉frs l->h'.get? b=some o
 slots:∀b o,h.get? b=some o->b∈frs l->∃sl,h'.get? b=some {o with slots:=sl}
def yG{l:List Env}{fl:Value}{h0:Heap}{Q:Unit->Ae->Prop}(hfe:e∉frs l)(n:aLg l e oe fl h0 s.heap old)
  (h:∀h',Left l e oe h0 h' old->Q () {s with heap:=h'}):Au M A (Rm (.ref e) none) Q E s:=by
 obtain⟨vs,T,oT,ts,he,hsz,h1,hTe,hTs,hT,hdT,h3⟩:=n.at_;have hTn:h0.get? T=none:=Ey hTs;have hsz3:3<ts.size:=(Bu.mp h3).1;unfold Rm;refine Aa (Hj he rfl h1 ?_);rw[if_pos (show(Aj T != Cb)=true by simp)];have other:∀b,b≠T->(s.heap.update T (Ij (·.setIfInBounds 3 ((none:Option Addr).elim Cb λf=>My f)))).get? b=s.heap.get? b:=λb hb=>Bj _ _ (Ci hb);refine Gy hT hdT hsz3 (h _ ⟨⟨vs,T,_,_,(other e (Ci hTe)).trans he,hsz,h1,hTe,hTs,Bn _ hT (Fu (Dy hdT _)),Dy hdT _,by simp[hsz3]⟩,λb o eb hb ho hbf=>?_,λb o eb hbf=>?_⟩)
 ·have hbT:b≠T:=λz=>by rw[z,hTn]at eb;cases eb
  exact(other b hbT).trans (n.keep b o eb hb ho hbf)
 ·have hbT:b≠T:=λz=>by rw[z,hTn]at eb;cases eb
  obtain⟨sl,hs⟩:=n.slots b o eb hbf;exact⟨sl,(other b hbT).trans hs⟩
def aFf{env:Env}{outer:List Env}{L e:Addr}{Q:Unit->Ae->Prop}
  (hfr:A.frames=some (env::outer)) (hl:s.heap.FunFrames base (env::outer)) (hf:env.frame=some L) (he:s.heap.get? e=some oe) (hd:oe.data=.fields vs) (hsz:vs.size=6) (hz:Loose s.heap e vs)
  (h:∀h' old,(∀T,old=some T->vs[1]? =some (.ref T))->Left (env::outer) e oe s.heap h' old->Q () {s with heap:=h'}):Au M A (leaving env (.ref e)) Q E s:=by
 have hne:e∉frs (env::outer):=λhm=>by
  obtain⟨_,o,ho,hnf⟩:=hl.mem hm;rw[he]at ho;cases ho;exact hnf vs hd
 unfold leaving;refine Aa (aA0 hfr hl hf he hd hsz hz λh1 old ho n=>?_);exact yG (s:={s with heap:=h1}) hne n λh' l=>h h' old ho l
end
def qX(H:Hp)(e:Addr):Hp:=λb=>if b=e then none else H b
def gG{H:Hp}{e b:Addr}(h:b≠e):qX H e b=H b:=by unfold qX;rw[if_neg h]
def aAi{H:Hp}:qX H e e=none:=by unfold qX;rw[if_pos rfl]
def HOk.drop{P:Ap}{w:Bh}{H:Hp}{φ:Heap->Prop}(ok:HOk P w H h)(he:H e=some (.ext φ)):HOk P w (qX H e) h:=λa o ea=>by
 by_cases hae:a=e
 ·subst hae;rw[aAi]at ea;cases ea
 ·rw[gG hae]at ea;refine(ok a o ea).stay (λb u _ q=>q) (λb q=>?_) λb xs q=>?_
  ·rw[gG (λz=>by subst z;rw[he]at q;cases q)];exact q
  ·rw[gG (λz=>by subst z;rw[he]at q;cases q)];exact q
structure xY(h0:Heap)(H:Hp)(h:Heap)(e C dx:Addr):Prop where
 ob:∃vs sl,h.get? e=some ⟨.ref C,some dx,.fields vs,sl⟩/\vs.size=6/\Loose h e vs/\∀T,vs[1]? =some (.ref T)->H T=none/\h0.objs.size<=T
 free:H e=none
 new:h0.objs.size<=e
def CXe(P:Ap)(w:Bh):CXT:=λouter H s E ev s'=>∃e C dx H',ev=.ref e/\s'.os=s.os/\Mf s'.gens/\Un (frs outer) [] H H' s.heap s'.heap/\HOk P w H' s'.heap/\xY s.heap H' s'.heap e C dx/\E (.ref C) (some dx) H'
structure Rz(X:Cx)(H1:Hp)(s1:Ae)(e C dx:Addr):Prop where
 os:s1.os=X.s₀.os
 bare:Mf s1.gens
 un:Un X.fs [] X.H₀ H1 X.s₀.heap s1.heap
 hok:HOk X.prog X.w H1 s1.heap
 funs:s1.heap.FunFrames X.base X.stack
 stkFree:∀b∈frs X.stack,H1 b=none
 sz:X.s₀.heap.objs.size<=s1.heap.objs.size
 fr:X.A.frames=some X.stack
 fl:xY X.s₀.heap H1 s1.heap e C dx
def aJb(X:Cx)(E:XK):Prop:=∀H1 s1 e C dx,Rz X H1 s1 e C dx->E (.ref C) (some dx) H1->X.xe (.ref e) s1
def aPd{P:Ap}{w:Bh}{K:Ab}{mg:Str->#v[8]}{N:List Str}{qual:Str}{f:Addr}{cd:Value}{A:Bl}{outer:List Env}{s:Ae}{H:Hp}
  :aJb (uV (CXe P w) P w K mg base N qual scope f cd A outer s H E) E:=by
 intro H1 s1 e C dx R hE;obtain⟨os,bare,un,hok,funs,stkFree,sz,fr,⟨⟨vs,sl,he,hsz,hz,hT⟩,free,new⟩⟩:=R;have hfr:(A.deeper (Ke qual scope #v[0] f cd)).frames=some (Ke qual scope #v[0] f cd::outer):=fr
 replace os:s1.os=s.os:=os
 replace un:Un (frs outer) [] H H1 s.heap s1.heap:=un
 replace hok:HOk P w H1 s1.heap:=hok
 replace stkFree:∀b∈frs (Ke qual scope #v[0] f cd::outer),H1 b=none:=stkFree
 replace hT:∀T,vs[1]? =some (.ref T)->H1 T=none/\#v[0]<=T:=hT
 replace new:#v[0]<=e:=new
 replace sz:#v[0]<=s1.heap.objs.size:=sz
 have hL:s.heap.get? #v[0]=none:=Ey (Am _);refine aFf (L:=#v[0]) hfr funs rfl he rfl hsz hz λh' old hold l=>?_;have oldn:∀b o,s.heap.get? b=some o->some b≠old:=λb o eb z=>by
  have:=Ey (hT b (hold b z.symm)).2;rw[eb]at this;cases this
 have oldH:∀b o,H1 b=some o->some b≠old:=λb o eb z=>by
  have:=(hT b (hold b z.symm)).1;rw[eb]at this;cases this
 have nef:∀b o,s.heap.get? b=some o->b∉frs outer->b∉frs (Ke qual scope #v[0] f cd::outer):=λb o eb hb hm=>by
  rcases Ao.mp (show b∈#v[0]::frs outer from hm)with z|z
  ·rw[z,hL]at eb;cases eb
  ·exact hb z
 have infs:∀b,b∈frs outer->b∈frs (Ke qual scope #v[0] f cd::outer):=λb hb=>Ag (#v[0]) hb;have ne:∀b o,s.heap.get? b=some o->b≠e:=λb o eb z=>by rw[z,Ey new]at eb;cases eb
 obtain⟨vs',T',oT',ts',a1,a2,a3,a4,a5,a6,a7,a8⟩:=l.at_;refine⟨e,C,dx,H1,rfl,os,bare,⟨λb o eb n hb _=>?_,λb o eb n hb _=>?_,un.free,λb o eb hx=>?_,un.tups,un.frzs,un.tbls⟩,λb o eb=>?_,⟨⟨vs',sl,a1,a2,.inr ⟨T',oT',ts',a3,a4,a6,a7,a8⟩,λT z=>?_⟩,free,new⟩,hE⟩
 ·exact l.keep b o (un.keep b o eb n hb (by simp)) (ne b o eb) (oldn b o eb) (nef b o eb hb)
 ·obtain⟨sl1,e1⟩:=un.slot b o eb n hb (by simp);obtain⟨sl2,e2⟩:=l.slots b _ e1 (infs b hb);exact⟨sl2,e2⟩
 ·obtain⟨o',e1⟩:=un.there b o eb (by simp);by_cases hb:b∈frs outer
  ·obtain⟨sl2,e2⟩:=l.slots b _ e1 (infs b hb);exact⟨_,e2⟩
  ·exact⟨o',l.keep b o' e1 (ne b o eb) (oldn b o eb) (nef b o eb hb)⟩
 ·have trk:∀c oc u,H1 c=some oc->s1.heap.get? c=some u->h'.get? c=some u:=λc oc u ec eu=>l.keep c u eu (λz=>by rw[z,free]at ec;cases ec) (oldH c oc ec) (λz=>by rw[stkFree c z]at ec;cases ec);refine(hok b o eb).stay (λc u hc eu=>?_) (λ_ q=>q) λ_ _ q=>q;rcases hc with rfl|hc
  ·exact trk _ o u eb eu
  ·exact trk c _ u hc eu
 ·have ez:T'=T:=by
   rw[a3]at z;cases z;rfl
  subst ez;refine⟨?_,Bd sz a5⟩;cases q:H1 T' with
  |none=>rfl
  |some o=>
   have:=(hok T' o q).lt;obtain⟨u,hu⟩:∃u,s1.heap.get? T'=some u:=by
    have h1:=hok T' o q;cases o with
    |lst xs=>obtain⟨_,_,_,_,e⟩:=h1;exact⟨_,e⟩
    |tup xs=>obtain⟨_,_,_,o,e,_⟩:=h1;exact⟨_,e⟩
    |dK kvs=>obtain⟨_,_,_,_,o,_,_,e,_⟩:=h1;exact⟨_,e⟩
    |dT kvs=>obtain⟨_,_,_,_,o,_,_,e,_⟩:=h1;exact⟨_,e⟩
    |set S n=>obtain⟨o,_,_,_,e,_⟩:=h1;exact⟨_,e⟩
    |ins C dx fs=>obtain⟨_,_,_,e,_⟩:=h1;exact⟨_,e⟩
    |own y=>exact h1
    |xd fs=>obtain⟨_,⟨_,_,_,e,_⟩,_⟩:=h1;exact⟨_,e⟩
    |rng lo hi=>obtain⟨_,_,_,e⟩:=h1;exact⟨_,e⟩
    |frz ob u=>obtain⟨e,_⟩:=h1;exact⟨_,e⟩
    |tbl ps=>exact⟨_,h1⟩
    |met f y=>exact⟨_,h1⟩
    |ext φ=>obtain⟨_,⟨_,e⟩,_⟩:=h1;exact⟨_,e⟩
   rw[Ey a5]at hu;cases hu
section
variable {X:Cx}{pins:#v[4]}{σ:St}{H:Hp}{s:Ae}{E:XK}
def aXi{e C dx:Addr}(hex:X.ex=[])(I:#v[1])(f:xY X.s₀.heap H s.heap e C dx):Rz X H s e C dx:=
 ⟨I.os,I.bare,by have:=I.base;rw[hex]at this;exact this,I.hok,I.stack,I.stkFree,I.sz,I.ok.frames,f⟩
def xY.back{h0 h1 h:Heap}{H':Hp}{e C dx:Addr}(f:xY h1 H' h e C dx)(u:h0.objs.size<=h1.objs.size):xY h0 H' h e C dx:=by
 obtain⟨⟨vs,sl,he,hsz,hz,hT⟩,free,new⟩:=f;exact⟨⟨vs,sl,he,hsz,hz,λT z=>⟨(hT T z).1,Bd u (hT T z).2⟩⟩,free,Bd u new⟩
def aSp(hex:X.ex=[])(hW:aJb X E):jX (CXe X.prog X.w) X E:=by
 intro pins σ H s ev s' I h;obtain⟨e,C,dx,H',rfl,os,bare,un,hok,fl,hE⟩:=h;have I':Inv X pins σ H' s':=I.call' (ch:=[]) os un hok bare (λb z=>absurd z (by simp));exact hW H' s' e C dx (aXi hex I' (fl.back I.sz)) hE
end
section
variable {M:Tt}{A:Bl}{E:#v[a]}{env:Env}
variable {nm q:Str}{C N:Addr}{bs bm:List Value}{hdct:Bool}{sn:List Str}{sub:List Value}{ab:Bool}{col:Option Bool}{dd:Option Addr}{k0 k1 k2 k3 k5:#v[8]}{newId:String}
def aKr{s:Ae}{x:Sem Value}{Q:Flow->Ae->Prop}(hbase:bm.contains (.type "BaseException")=true)(hh:A.handled=none)
  (h:Au M A x (λv s₁=>∃e vs od sl,v=.ref e/\s₁.heap.get? C=some (Lv nm q C N bs bm hdct sn sub ab col dd k0 k1 k2 k3 k5 newId)/\
   s₁.heap.get? e=some ⟨.ref C,od,.fields vs,sl⟩/\vs[1]? =some .none/\E (.ref e) s₁) E s):
  Au M A (Za env (some x) none) Q E s:=by
 have hcB:(Aj C::bm).contains (.type "BaseException")=true:=by rw[Es,hbase,Kh]
 unfold Za;refine Aa (Dc h (λv s₁ h₁=>?_) λ_ _ x=>x);obtain⟨e,vs,od,sl,rfl,hC,he,h1,hE⟩:=h₁;obtain⟨hp,g,d,tk,os⟩:=s₁
 repeat (first|with_reducible refine Hj he rfl h1 ?_ |with_reducible refine Ce he ?_ |with_reducible refine Ce hC ?_ |(with_reducible refine Gq hC ?_;rw[hcB])|wp_step)
 exact wpAny_raiseNew_none hh hE
end
structure Rs(K:Ab)(C f:Addr):Prop where
 exc:excIn K C=true
 init:Bo K (.ref C) "__init__"=some (some (.ref f))
 fn:Lj K (.ref f)=some (.type "function")
 kp:Gi K (.ref C)=true
section
variable {X:Cx}{pins:#v[4]}{σ:St}{H:Hp}{s:Ae}{E:XK}{k:Nat}{f C:Addr}{fd:Bb}{ps:List Str}{sp:Sp}{x:Str}{p pos apos:Pos}{e:Bw}{es:List Bw}{t:TA}
def Inv.madeE(I:#v[1]):Inv X pins σ (upd H (#v[0]+1) (oJ (#v[0]+1) C none))
  {s with heap:=(s.heap.push {cls:=.type "tuple",data:=.seq us.toArray}).push {cls:=.ref C,data:=.fields #[.ref #v[0],.none,.none,.none,.bool false,.none]}}:=by
 have I1:=I.kept (h':=s.heap.push {cls:=.type "tuple",data:=.seq us.toArray}) (t':=s.toks) (λb u q=>Af _ q);have e2:((s.heap.push {cls:=.type "tuple",data:=.seq us.toArray}).push {cls:=.ref C,data:=.fields #[.ref #v[0],.none,.none,.none,.bool false,.none]}).get? (#v[0]+1)=some {cls:=.ref C,data:=.fields #[.ref #v[0],.none,.none,.none,.bool false,.none]}:=by
  have:=Ba (s.heap.push {cls:=.type "tuple",data:=.seq us.toArray}) (o:={cls:=.ref C,data:=.fields #[.ref #v[0],.none,.none,.none,.bool false,.none]}) rfl
  rwa [Dd]at this
 exact I1.laid (a:=#v[0]+1) (o:=oJ (#v[0]+1) C none) (t':=s.toks) (λb u q=>Af _ q) (So (Dd _ _)) (aDp e2 rfl rfl)
def aQu{Q:#v[a]}{W:VK}{vs:List V}(M:Rs X.K C f)(F:bG X.prog X.w X.K X.mg X.base CX0 k f fd ps sp)(hr:cO (k+1) X.A)(hb:Binds X.K fd ps [])(I:#v[1])(r:Vals vs us)(hz:us.length<=sizeLine)
  (h:sp (.ref (#v[0]+1)::vs) (upd H (#v[0]+1) (oJ (#v[0]+1) C none)) (λv H2=>v=.non/\W (.ref (#v[0]+1)) H2) E0)
  (hq:∀s' H2,Inv X pins σ H2 s'->W (.ref (#v[0]+1)) H2->Q (.ref (#v[0]+1)) s'):
  Au #v[b] X.A (call (.ref C) us) Q X.xe s:=by
 have I2:=Inv.madeE (C:=C) (us:=us) I;have r2:Vals (V.ref (#v[0]+1)::vs) (Aj (#v[0]+1)::us):=.cons rfl r;have hl:(Aj (#v[0]+1)::us++[]).length=ps.length:=by
  have e:=r2.length;rw[F.len _ _ _ _ h]at e;rw[Bs];exact e.symm
 have hbb:=hb _ (Aj (#v[0]+1)::us) I2.kIn hl;rw[Bs]at hbb;obtain⟨hp,gg,dw,tt,oo⟩:=s;refine aLy I.kIn M.exc M.init M.fn ?_ hz;refine Le (Js (F.run _ X.stack _ _ ⟨Aj (hp.objs.size+1)::us,[]⟩ (Aj (hp.objs.size+1)::us) _ _ E0 (hr.make C us []) (I2.env0.make C us []) hbb r2 h) λr s' hq'=>?_);cases r with
 |error e=>exact(yM (X:=X) pins σ _ _ e s' I2 hq')
 |ok fl=>
  cases fl with
  |ret u=>
   obtain⟨v,H',I3,rv,ev,q3⟩:=I2.after hq';subst ev;exact⟨rv,hq s' H' I3 q3⟩
  |next=>exact Dw hq'
  |brk=>exact Dw hq'
  |cont=>exact Dw hq'
def aQv{e dx:Addr}(hex:X.ex=[])(I:#v[1])(hH:H e=some (oJ e C (some dx)))(new:X.s₀.heap.objs.size<=e):Rz X (qX H e) s e C dx:=by
 have u:=I.base;rw[hex]at u;have hd:∀b,H b=none->qX H e b=none:=λb hb=>by
  by_cases z:b=e
  ·rw[z];exact aAi
  ·rw[gG z];exact hb
 obtain⟨⟨vs,sl,hx,hs,h1⟩,_,_⟩:=I.hok e _ hH;refine⟨I.os,I.bare,⟨u.keep,u.slot,λb o eb n hx=>hd b (u.free b o eb n hx),u.there,λb xs q=>?_,λb o v q=>?_,λb ps q=>?_⟩,I.hok.drop hH,I.stack,λb hb=>hd b (I.stkFree b hb),I.sz,I.ok.frames,⟨⟨vs,sl,hx,hs,.inl h1,λT z=>?_⟩,aAi,new⟩⟩
 ·have:=u.tups b xs q;rw[gG (λz=>by rw[z,hH]at this;cases this)];exact this
 ·have:=u.frzs b o v q;rw[gG (λz=>by rw[z,hH]at this;cases this)];exact this
 ·obtain⟨more,this⟩:=u.tbls b ps q;refine⟨more,?_⟩;rw[gG (λz=>by rw[z,hH]at this;cases this)];exact this
 ·rw[h1]at z;cases z
def aUv(C:Addr)(sp:Sp)(E:XK)(t:TA):TS:=λ_ σ H=>t σ H λvs H1=>vs.length<=sizeLine/\∀e,H1 e=none->sp (.ref e::vs) (upd H1 e (oJ e C none)) (λv H2=>v=.non/\∃dx,H2 e=some (oJ e C (some dx))/\E (.ref C) (some dx) (qX H2 e)) E0
def rF(M:Rs X.K C f)(F:bG X.prog X.w X.K X.mg X.base CX0 k f fd ps sp)(hr:cO (k+1) X.A)(hg:Gl X x)(hm:X.mg x=some (.ref C))(hb:Binds X.K fd ps [])(hc:X.calm=true)(hex:X.ex=[])(hW:aJb X E)
  (ha:PA X (e::es) t) (hdb:ND x:=by decide) (he:SE X e es:=by rfl) (hpl:BT X apos es:=by rfl):
  PS X (.Raise (some (.Call (.Name x p) (e::es) [] apos)) none pos) (aUv C sp E t):=by
 intro pins s σ H D I h;obtain⟨nm,qn,N,bs,bm,hdct,sn,sub,ab,col,dd,k0,k1,k2,k3,k5,hC,hbs,hv,hna,hnn⟩:=pH I.ok.mod.kin M.exc;rw[arm_exec_Raise];refine Aa (Iy ?_);show Au _ _ (Za X.env (some (do let v<-eval (.Call (.Name x p) (e::es) [] apos) X.env;Lr pos;pure v)) none) _ _ _;refine aKr hbs (I.ok.hd hc) (Aa (Dc (Q:=λv s₁=>∃e vs od sl,v=.ref e/\s₁.heap.get? C=some (Lv nm qn C N bs bm hdct sn sub ab col dd k0 k1 k2 k3 k5 "ValueError.__new__")/\
   s₁.heap.get? e=some ⟨.ref C,od,.fields vs,sl⟩/\vs[1]? =some .none/\X.xe (.ref e) s₁) ?_ (λv s₃ h₃=>Aa (Iy (Ad h₃))) λ_ _ x=>x))
 refine Hh (vA I hg hm ?_ hdb);refine Mm (h₀:=X.base) I.ok.mod.kin M.kp (thn (ha apos pins s σ H _ I h) λus s1 ⟨vs,H1,I1,r,hz,q⟩=>⟨I1.kIn,?_⟩) he hpl;refine aQu (W:=λv H2=>∃dx,H2 (s1.heap.objs.size+1)=some (oJ (s1.heap.objs.size+1) C (some dx))/\E (.ref C) (some dx) (qX H2 (s1.heap.objs.size+1))) M F hr hb I1 r (show us.length<=sizeLine by rw[<-r.length];exact hz) (q _ (I1.hok.fresh (Gp _))) λs' H2 I2 ⟨dx,hH,hE⟩=>?_;obtain⟨⟨ws,sl,hx,hs,h1⟩,_,_⟩:=I2.hok _ _ hH;exact⟨_,ws,some dx,sl,rfl,I2.bk _ _ hC,hx,h1,hW _ _ _ _ _ (aQv hex I2 hH (Bd I1.sz (Gp _))) hE⟩
end
def aEr(e C dx:Addr):HO:=.ext λh=>∃vs sl,h.get? e=some ⟨.ref C,some dx,.fields vs,sl⟩/\vs.size=6
def aPp{P:Ap}{w:Bh}{H:Hp}{e C dx:Addr}(hx:h.get? e=some ⟨.ref C,some dx,.fields vs,sl⟩)(hs:vs.size=6):cC P w H h e (aEr e C dx):=
 ⟨⟨vs,sl,hx,hs⟩,⟨_,hx⟩,λh1 h2 ⟨vs,sl,a,b⟩ k=>⟨vs,sl,k _ a,b⟩⟩
def nones(σ:St):St:=σ.map λ_=>none
def aJ1{σ:St}:(nones σ).length=σ.length:=Ac ..
def aM0{σ:St}(h:(nones σ)[i]? =some (some v)):False:=by
 unfold nones at h;rw[Ay]at h;cases q:σ[i]? with
 |none=>rw[q]at h;cases h
 |some y=>rw[q]at h;cases h
section
variable {X:Cx}{pins:#v[4]}{σ:St}{H:Hp}{s:Ae}
def Inv.nones(I:#v[1]):Inv X pins (nones σ) H s:=I.weak aJ1 λ_ _ h=>(aM0 h).elim
def Inv.take{o:HO}(I:#v[1])(hn:H e=none)(new:X.s₀.heap.objs.size<=e)(hL:e≠X.env.locals)(hc:∀x c,X.env.cells.lookup x=some c->c≠e)(hp:∀p∈X.pn++pins,p.1≠e)
  (ok:cC X.prog X.w (upd H e o) s.heap e o):Inv X pins σ (upd H e o) s:=by
 have ne:∀b u,X.s₀.heap.get? b=some u->b≠e:=λb u eb z=>by rw[z,Ey new]at eb;cases eb
 have nh:∀b u,H b=some u->b≠e:=λb u eb z=>by rw[z,hn]at eb;cases eb
 refine⟨I.ok,I.os,I.bare,⟨I.base.keep,I.base.slot,λb u eb n hx=>?_,I.base.there,λb xs q=>?_,λb u v q=>?_,λb ps q=>?_⟩,I.loc,I.cell,?_,λx c q=>?_,λp q=>?_,λb u q=>?_,I.len⟩
 ·rw[aL (ne b u eb)];exact I.base.free b u eb n hx
 ·have:=I.base.tups b xs q;rw[aL (nh b _ this)];exact this
 ·have:=I.base.frzs b u v q;rw[aL (nh b _ this)];exact this
 ·obtain⟨more,this⟩:=I.base.tbls b ps q;exact⟨more,by rw[aL (nh b _ this)];exact this⟩
 ·rw[aL (Ci hL)];exact I.free
 ·rw[aL (hc x c q)];exact I.freeC x c q
 ·obtain⟨a1,a2,a3,a4,a5⟩:=I.pin p q;exact⟨a1,by rw[aL (hp p q)];exact a2,a3,a4,a5⟩
 ·by_cases z:b=e
  ·subst z;rw[aM]at q;cases q;exact ok
  ·rw[aL z]at q;exact(I.hok b u q).stay (λ_ _ _ y=>y) (λc y=>by rw[aL (nh c _ y)];exact y) λc xs y=>by rw[aL (nh c _ y)];exact y
def aH3(X:Cx)(E:XK):Prop:=∀pins σ H s H1 s1 e C dx,#v[1]->Inv X pins σ H1 s1->xY s.heap H1 s1.heap e C dx->E (.ref C) (some dx) H1->X.xe (.ref e) s1
def aWy(hW:aH3 X E):jX (CXe X.prog X.w) X E:=by
 intro pins σ H s ev s' I h;obtain⟨e,C,dx,H',rfl,os,bare,un,hok,fl,hE⟩:=h;exact hW pins σ H s H' s' e C dx I (I.call' (ch:=[]) os un hok bare (λb z=>absurd z (by simp))) fl hE
end
abbrev Cx.tried(X:Cx)(pins:#v[4])(W:#v[a]):Cx:={X with pn:=X.pn++pins,xe:=W}
abbrev Cx.suite(X:Cx)(e:Addr):Cx:={X with A:=X.A.mark (some (.ref e)),calm:=false,xe:=λ_ _=>False}
section
variable {X:Cx}{pins pins':#v[4]}{σ:St}{H:Hp}{s:Ae}{W:#v[a]}{e:Addr}
def Inv.tried(I:#v[1]):Inv (X.tried pins W) [] σ H s:=
 ⟨⟨I.ok.mod,I.ok.kind,I.ok.glob,I.ok.blt,I.ok.above,I.ok.inj,I.ok.has,I.ok.cab,I.ok.hd,I.ok.frames,I.ok.stk,I.ok.exf,I.ok.bs,I.ok.bsz,I.ok.noex,I.ok.exfs,I.ok.funs,I.ok.frf⟩,I.os,I.bare,I.base,I.loc,I.cell,I.free,I.freeC,λp hp=>I.pin p (by simpa using hp),I.hok,I.len⟩
def Inv.untried(I:Inv (X.tried pins W) pins' σ H s):#v[1]:=
 ⟨⟨I.ok.mod,I.ok.kind,I.ok.glob,I.ok.blt,I.ok.above,I.ok.inj,I.ok.has,I.ok.cab,I.ok.hd,I.ok.frames,I.ok.stk,I.ok.exf,I.ok.bs,I.ok.bsz,I.ok.noex,I.ok.exfs,I.ok.funs,I.ok.frf⟩,I.os,I.bare,I.base,I.loc,I.cell,I.free,I.freeC,λp hp=>I.pin p (Ea _ hp),I.hok,I.len⟩
def SP.untried{D:Ends}{f:Flow}{s':Ae}(h:SP (X.tried pins W) pins' D f s'):SP X pins D f s':=by
 cases f with
 |next=>obtain⟨σ',H',I,q⟩:=h;exact⟨σ',H',I.untried,q⟩
 |brk=>obtain⟨σ',H',I,q⟩:=h;exact⟨σ',H',I.untried,q⟩
 |cont=>obtain⟨σ',H',I,q⟩:=h;exact⟨σ',H',I.untried,q⟩
 |ret u=>obtain⟨v,σ',H',I,r,q⟩:=h;exact⟨v,σ',H',I.untried,r,q⟩
def Inv.suite(I:#v[1]):Inv (X.suite e) pins σ H s:=
 ⟨⟨I.ok.mod,I.ok.kind,I.ok.glob,I.ok.blt,I.ok.above,I.ok.inj,I.ok.has,I.ok.cab,λz=>(nomatch z),I.ok.frames,I.ok.stk,I.ok.exf,I.ok.bs,I.ok.bsz,I.ok.noex,I.ok.exfs,I.ok.funs,I.ok.frf⟩,I.os,I.bare,I.base,I.loc,I.cell,I.free,I.freeC,I.pin,I.hok,I.len⟩
def Inv.unsuite(hh:X.calm=true->X.A.handled=none)(I:Inv (X.suite e) pins σ H s):#v[1]:=
 ⟨⟨I.ok.mod,I.ok.kind,I.ok.glob,I.ok.blt,I.ok.above,I.ok.inj,I.ok.has,I.ok.cab,hh,I.ok.frames,I.ok.stk,I.ok.exf,I.ok.bs,I.ok.bsz,I.ok.noex,I.ok.exfs,I.ok.funs,I.ok.frf⟩,I.os,I.bare,I.base,I.loc,I.cell,I.free,I.freeC,I.pin,I.hok,I.len⟩
end
section
variable {X:Cx}{pins:#v[4]}{σ:St}{H H1:Hp}{s s1:Ae}{e C dx:Addr}
def Inv.older(I:#v[1]){b:Addr}(hb:#v[0]<=b):X.s₀.heap.objs.size<=b/\b≠X.env.locals/\(∀x c,X.env.cells.lookup x=some c->c≠b)/\∀p∈X.pn++pins,p.1≠b:=by
 refine⟨Bd I.sz hb,λz=>?_,λx c q z=>?_,λp q z=>?_⟩
 ·have:=I.lt;rw[z]at hb;exact absurd (Bf this hb) (Dr _)
 ·obtain⟨v,o,ho,_⟩:=I.cell x c q;rw[z]at ho;exact absurd (Bf (Ar ho) hb) (Dr _)
 ·have ho:=(I.pin p q).1;rw[z]at ho;exact absurd (Bf (Ar ho) hb) (Dr _)
def landed{h':Heap}(I:#v[1])(I1:Inv X pins σ H1 s1)(new:#v[0]<=e)(free:H1 e=none)(hT:∀T,old=some T->H1 T=none/\#v[0]<=T)(l:Left X.stack e oe s1.heap h' old):
  Inv X pins σ H1 {s1 with heap:=h'}:=by
 have nch:∀b,b∉e::old.toList->b≠e/\some b≠old:=λb hb=>⟨λz=>hb (by rw[z];exact Ah),λz=>hb (Ag _ (by rw[<-z];simp))⟩;have hch:∀b∈e::old.toList,H1 b=none/\#v[0]<=b:=λb hb=>by
  rcases Ao.mp hb with rfl|hb
  ·exact⟨free,new⟩
  ·exact hT b (by simpa using hb)
 refine I1.call (g':=s1.gens) (d':=s1.drawn) (t':=s1.toks) (ch:=e::old.toList) ⟨λb o eb n hb hx=>l.keep b o eb (nch b hx).1 (nch b hx).2 hb,λb o eb n hb hx=>l.slots b o eb hb,λb o eb n hx=>n,λb o eb hx=>?_,λ_ _ q=>q,λ_ _ _ q=>q,λb ps q=>⟨#[],by rw[q];simp⟩⟩ (λb u q=>?_) I1.bare λb hb=>?_
 ·by_cases hb:b∈frs X.stack
  ·obtain⟨sl,q⟩:=l.slots b o eb hb;exact⟨_,q⟩
  ·exact⟨o,l.keep b o eb (nch b hx).1 (nch b hx).2 hb⟩
 ·have trk:∀c oc v,H1 c=some oc->s1.heap.get? c=some v->h'.get? c=some v:=λc oc v ec ev=>l.keep c v ev (λz=>by rw[z,free]at ec;cases ec) (λz=>by rw[(hT c z.symm).1]at ec;cases ec) (λz=>by rw[I1.stkFree c z]at ec;cases ec);refine(I1.hok b u q).stay (λc v hc ev=>?_) (λ_ y=>y) λ_ _ y=>y;rcases hc with rfl|hc
  ·exact trk _ u v q ev
  ·exact trk c _ v hc ev
 ·obtain⟨a1,a2,a3,a4⟩:=I.older (hch b hb).2;exact⟨.inr a1,a2,a3,a4⟩
def flight_again{M:Tt}{A:Bl}{E:#v[a]}{T:Addr}{oe oT:Obj}{vs ts:Array Value}{Q:Unit->Ae->Prop}(he:s.heap.get? e=some oe)(hd:oe.data=.fields vs)(h1:vs[1]? =some (.ref T))(hT:s.heap.get? T=some oT)(hdT:oT.data=.fields ts)(h3:ts[3]? =some .none)
  (h:∀h',(∀b,b≠T->h'.get? b=s.heap.get? b)->Q () {s with heap:=h'}):Au M A (Rm (.ref e) none) Q E s:=by
 have hsz3:3<ts.size:=(Bu.mp h3).1;unfold Rm;refine Aa (Hj he hd h1 ?_);rw[if_pos (show(Aj T != Cb)=true by simp)];exact Gy hT hdT hsz3 (h _ λb hb=>Bj _ _ (Ci hb))
def aMz{σ:St}(h:σ.length=k):nones σ=Al k none:=by
 unfold nones;rw[List.map_const'];rw[h]
end
section
open PySem.W
variable {prog:Ap}{w:Bh}{A:Bl}{E:#v[a]}{h:Heap}{g:Array Hl}{d:Zj}{t:Nat}{os:Wj}{a C dx:Addr}{vs:Array Value}{sl:Array (#v[8])}{K:Ab}{m:Str->#v[8]}
structure dY(K:Ab)(C:Addr):Prop where
 exc:excIn K C=true
 ga:Ze K (.ref C) "__getattribute__"=some (some (.builtin "BaseException.__getattribute__"))
 gt:Ze K (.ref C) "__getattr__"=some none
 cl:Ze K (.ref C) "__class__"=some (some (.builtin "object.__class__"))
 ob:subIn K (.ref C) (.type "object")=some true
def aJd{M:Tt}{nameV:Value}{Q:Unit->Ae->Prop}(X:K.In h)(Z:dY K C)(hx:h.get? a=some ⟨.ref C,some dx,.fields vs,sl⟩)(hq:Q () ⟨h,g,d,t,os⟩):Au M A (Gx "BaseException.__getattribute__" ⟨[.ref a,nameV],[]⟩) Q E ⟨h,g,d,t,os⟩:=by
 obtain⟨nm,qn,N,bs,bm,hdct,sn,sub,ab,col,dd,k0,k1,k2,k3,k5,hC,hb,hv,ha,hn⟩:=pH X Z.exc;have hk:builtinKind "BaseException.__getattribute__"=some .slot:=by decide+kernel
 have hsplit:splitId "BaseException.__getattribute__"=some ("BaseException","__getattribute__"):=by decide+kernel
 have hcB:(Aj C::bm).contains (.type "BaseException")=true:=by rw[Es,hb,Kh]
 have ha:=F.args_bexc_ga (.ref a) nameV;simp only[Gx,hk,hsplit];refine Aa ?_;unfold Ki
 repeat (first|(with_reducible refine Ce hx ?_)|(with_reducible refine Gq hC ?_;rw[hcB])|wp_step)
 exact hq
def aE0{R:Mg->Ae->Prop}(X:K.In h)(Z:dY K C)(hx:h.get? a=some ⟨.ref C,some dx,.fields vs,sl⟩)(hq:R (.ok (.ret (.ref C))) ⟨h,g,d,t,os⟩):
  Gr #v[c] A (.call (.builtin "getset_descriptor.__get__") ⟨[.builtin "object.__class__",.ref a,.ref C],[]⟩) R ⟨h,g,d,t,os⟩:=by
 have hT5:(⟨h,g,d,t,os⟩:Ae).TypeIs (.builtin "object.__class__") "getset_descriptor":=Mn;have f8:Uy (.ref C) (.type (".".intercalate ("object.__class__".cutAt '.').dropLast))=Uy (.ref C) (.type "object"):=by rw[F.owner_object_class]
 have L8:Looks #v[c] h (Uy (.ref C) (.type "object")) true:=looks_subIn X Z.ob;refine Gg F.slot_gs_get.plain F.entry_gs_get (F.slot_gs_get.check _ _ _ _ _ _ _ _ hT5 (F.args_gs_get _ _ _) ?_)
 repeat (any_goals (first|assumption|with_reducible refine Ce hx ?_ |(rw[f8];refine L8.at ?_)|wp_step))
 refine⟨Kg _ #v[3],Ee F.entry_object_class ?_⟩
 repeat (any_goals (first|assumption|with_reducible refine Ce hx ?_ |wp_step))
def aBl{Q:Fin->Ae->Prop}(X:K.In h)(Z:dY K C)(hx:h.get? a=some ⟨.ref C,some dx,.fields vs,sl⟩)(hq:Q (.done (.ret (.ref C))) ⟨h,g,d,t,os⟩):
  Au #v[c] A (Builtin.«object.__getattribute__» ⟨[.ref a,.str "__class__" tk],[]⟩) Q E ⟨h,g,d,t,os⟩:=by
 have hT5:(⟨h,g,d,t,os⟩:Ae).TypeIs (.builtin "object.__class__") "getset_descriptor":=Mn;have f5:=Mn;have f6:=F.slot_gs_get.lookup;have f7:=F.slot_gs_set.lookup;have L4:Looks #v[c] h (Lf (.ref C) "__class__") (some (.builtin "object.__class__")):=Qj X Z.cl
 repeat (any_goals (first|assumption|with_reducible refine Ce hx ?_ |refine L4.at ?_ |wp_step))
 refine aE0 X Z hx ?_
 repeat (any_goals (first|assumption|wp_step))
end
section
open PySem.W
variable {prog:Ap}{w:Bh}{A:Bl}{E:#v[a]}{h:Heap}{g:Array Hl}{d:Zj}{t:Nat}{os:Wj}{a C dx:Addr}{vs:Array Value}{sl:Array (#v[8])}{K:Ab}{m:Str->#v[8]}
def aLi{v:Value}{fill expr:Bool}{Q:#v[a]}(X:K.In h)(Z:dY K C)(hx:h.get? a=some ⟨.ref C,some dx,.fields vs,sl⟩)
  (he:∀{A:Bl}{E:#v[a]}{Q:Fin->Ae->Prop},Q (.done (.ret v)) ⟨h,g,d,t,os⟩->Au #v[c] A (Builtin.«object.__getattribute__» ⟨[.ref a,.str f tk],[]⟩) Q E ⟨h,g,d,t,os⟩) (ho:handedIn v=true)
  (hq:Q v ⟨h,g,d,t,os⟩):Au #v[c] A (getAttrBy (.ref a) (.str f tk) fill expr) Q E ⟨h,g,d,t,os⟩:=by
 have FB:=PySem.F.attrBase_ValueError;have f3:=FB.ga.bind (.ref a);have hx0:(expr && onTheHeap (Hg "BaseException.__getattribute__"))=false:=by cases expr<;>rfl
 have hx2:(Hg "BaseException.__getattribute__"==Hg "object.__getattribute__")=false:=by decide+kernel
 have hx1:(onTheHeap (Aj C) && Hg "BaseException.__getattribute__"==Hg "object.__getattribute__")=false:=by rw[hx2];rfl
 have L1:Looks #v[c] h (Lf (.ref C) "__getattribute__") (some (.builtin "BaseException.__getattribute__")):=Qj X Z.ga;have L2:Looks #v[c] h (Lf (.ref C) "__getattr__") none:=Qj X Z.gt;have L0:Looks #v[c] h (Yy (.ref a)) (.ref C):=(Looks.ld hx).andThen .now;have hc:∀{A:Bl}{R:Mg->Ae->Prop},R (.ok (.ret v)) ⟨h,g,d,t,os⟩->Gr #v[c] A (.call (.builtin "BaseException.__getattribute__") ⟨[.ref a,.str f tk],[]⟩) R ⟨h,g,d,t,os⟩:=λhR=>
  Gg FB.ga.plain PySem.F.entry_bexc_ga (aJd X Z hx (he hR))
 unfold getAttrBy;refine Cg (Aa (L0.at (Aa (L1.at ?_))));dsimp only;rw[hx1]
 ac_rfl
 unfold getAttrByItsOwn hookBefore
 repeat (any_goals (first|assumption|refine L2.at ?_ |wp_step))
 refine hc ?_
 repeat (any_goals (first|assumption|(rw[handedOut_of ho])|wp_step))
end
section
open PySem.W
variable {prog:Ap}{w:Bh}{A:Bl}{E:#v[a]}{h:Heap}{g:Array Hl}{d:Zj}{t:Nat}{os:Wj}{a C dx:Addr}{vs:Array Value}{sl:Array (#v[8])}{K:Ab}{m:Str->#v[8]}
def aDo{Q:#v[8]->Ae->Prop}(X:K.In h)(Z:dY K C)(hx:h.get? a=some ⟨.ref C,some dx,.fields vs,sl⟩)(hq:Q (some (.ref C)) ⟨h,g,d,t+1,os⟩):Au #v[c] A (getAttr? (.ref a) "__class__") Q E ⟨h,g,d,t,os⟩:=by
 unfold getAttr? getAttrBy?
 repeat (any_goals (first|assumption|(with_reducible refine aLi X Z hx (v:=.ref C) (λq=>aBl X Z hx q) rfl ?_)|wp_step))
def aFd(Z:dY K C):KitX K (.ref a) (.ref C) (λh=>∃vs sl,h.get? a=some ⟨.ref C,some dx,.fields vs,sl⟩) where
 ty:=λ_ _ _ ⟨vs,sl,hx⟩=>(Looks.ld hx).andThen .now
 it:=λ_ _ X _=>by
  obtain⟨nm,qn,N,bs,bm,hdct,sn,sub,ab,col,dd,k0,k1,k2,k3,k5,hC,hb,hv,ha,hn⟩:=pH X Z.exc;intro A' Q' E' s' k q;unfold isType loadHead;exact Aa (Sb (k _ _ hC) (Ad q))
 ne:=λh tp dd its n sl X htp=>by
  obtain⟨nm,qn,N,bs,bm,hdct,sn,sub,ab,col,dd,k0,k1,k2,k3,k5,hC,hb,hv,ha,hn⟩:=pH X Z.exc;refine Uq.mpr λq=>?_;have e:C=tp:=Value.ref.inj (beq_iff_eq.mp q);subst e;have z:=congrArg Obj.data (Bq (hC.symm.trans htp));cases z
 ca:=λ{_ _ _ _ _ s} X ⟨vs,sl,hx⟩ k=>by
  obtain⟨h,g,d,t,os⟩:=s;exact aDo X Z hx k
def aFa{v:Value}{Q:Fin->Ae->Prop}(X:K.In h)(Z:dY K C)(hd:Zd K C=true)(hf:Ze K (.ref C) f=some none)(hx:h.get? a=some ⟨.ref C,some dx,.fields vs,sl⟩)(hn:h.Ns dx m)(hm:m f=some v)(hq:Q (.done (.ret v)) ⟨h,g,d,t,os⟩):
  Au #v[c] A (Builtin.«object.__getattribute__» ⟨[.ref a,.str f tk],[]⟩) Q E ⟨h,g,d,t,os⟩:=by
 obtain⟨nm,qn,N,bs,bm,hdct,sn,sub,ab,col,dd,k0,k1,k2,k3,k5,hC,hb,hv,ha,hna⟩:=pH X Z.exc;have hdct':hdct=true:=by
  unfold Zd at hd;cases q:clsIn K C with
  |none=>rw[q]at hd;cases hd
  |some cd=>
   rw[q]at hd;unfold clsIn at q;split at q
   ·rename_i c' d' cd' sl' ho;cases q;have z:=congrArg Obj.data (Bq (hC.symm.trans (X _ _ ho)));cases z;exact hd
   ·cases q
 subst hdct';have L4:Looks #v[c] h (Lf (.ref C) f) none:=Qj X hf
 repeat (any_goals (first|assumption|with_reducible refine Ce hx ?_ |with_reducible refine Ce hC ?_ |refine L4.at ?_ |with_reducible refine wpAny_nsGet hn ?_ |rw[hm]|wp_step))
def aG1{v:Value}{expr:Bool}{Q:#v[a]}(X:K.In h)(Z:dY K C)(hd:Zd K C=true)(hf:Ze K (.ref C) f=some none)(hx:h.get? a=some ⟨.ref C,some dx,.fields vs,sl⟩)(hn:h.Ns dx m)(hm:m f=some v)(ho:handedIn v=true)(hq:Q v ⟨h,g,d,t+1,os⟩):
  Au #v[c] A (Wg (.ref a) f expr) Q E ⟨h,g,d,t,os⟩:=by
 unfold Wg
 repeat (any_goals (first|assumption|(with_reducible refine aLi X Z hx (v:=v) (λq=>aFa X Z hd hf hx hn hm q) ho ?_)|wp_step))
end
def aLo:gF X (.builtin "isinstance") (λxs H Q=>∃e C dx c u b,xs=[.ref e,c]/\H e=some (aEr e C dx)/\dY X.K C/\(c=.ref u/\Dk X.K (.ref C) (.ref u)=some b∨∃n,c=.ty n/\Dk X.K (.ref C) (.type n)=some b)/\Q (.bl b) H):=by
 intro pins s σ H xs us Q I r h;obtain⟨e,C,dx,c,D,b,rfl,hH,Z,k,q⟩:=h;obtain⟨u,w',rfl,ru,rw'⟩:=vals2 r;cases (show u=Aj e from ru);obtain⟨⟨vs,sl,hx,hs⟩,_,_⟩:=I.hok e _ hH;have hk:∃w0,w'=w0/\Dk X.K (.ref C) w0=some b:=by
  rcases k with ⟨rfl,k⟩|⟨n,rfl,k⟩
  ·cases (show w'=Aj D from rw');exact⟨_,rfl,k⟩
  ·cases (show w'=Fc n from rw');exact⟨_,rfl,k⟩
 obtain⟨_,rfl,k⟩:=hk;exact Dl (aFd (dx:=dx) Z) I.kIn ⟨vs,sl,hx⟩ k (λz=>nomatch z) λtk=>⟨.bl b,H,I.tok tk,rfl,q⟩
theorem aCy:∀{cs:List Addr}{us:List Value},Vals (cs.map V.ref) us->us=cs.map Aj
 | [],_,.nil=>rfl
 |c::cs,y::_,.cons h t=>by
  cases (show y=Aj c from h);rw[aCy t];rfl
def aLp:gF X (.builtin "isinstance") (λxs H Q=>∃(e C dx tp:Addr)(cs:List Addr)(b:Bool),xs=[.ref e,.ref tp]/\H e=some (aEr e C dx)/\H tp=some (.tup (cs.map V.ref))/\dY X.K C/\Ka X.K (.ref C) (cs.map Aj)=some b/\Q (.bl b) H):=by
 intro pins s σ H xs us Q I r h;obtain⟨e,C,dx,tp,cs,b,rfl,hH,hT,Z,k,q⟩:=h;obtain⟨u,w',rfl,ru,rw'⟩:=vals2 r;cases (show u=Aj e from ru);cases (show w'=Aj tp from rw');obtain⟨⟨vs,sl,hx,hs⟩,_,_⟩:=I.hok e _ hH;obtain⟨_,its,hv,o,ho,hc,n,hd⟩:=(show cC X.prog X.w H s.heap tp (.tup (cs.map V.ref))from I.hok tp _ hT);have:=aCy hv;subst this;obtain⟨oc,od,oda,osl⟩:=o;cases hc;cases hd;exact PySem.W.kia_tup (aFd (dx:=dx) Z) I.kIn ⟨vs,sl,hx⟩ ho k (λz=>nomatch z) λtk=>⟨.bl b,H,I.tok tk,rfl,q⟩
def aUz(K:Ab)(ta:TE)(f:Str):TE:=λσ H Q=>ta σ H λx H1=>∃e C dx fs v,x=.ref e/\H1 e=some (aEr e C dx)/\H1 dx=some (.xd fs)/\dY K C/\Dq K C=true/\Bo K (.ref C) f=some none/\fs.lookup f=some v/\Q v H1
def aNq{e:Bw}{ta:TE}(he:PE X e ta)(hb:Eh e f X.env (eval e X.env)=eval e X.env):PE X (.Attribute e f pos) (aUz X.K ta f):=by
 intro pins s σ H Q I h;refine aH4 hb (thn (he pins s σ H _ I h) λu s1 ⟨x,H1,I1,rx,a,C,dx,fs,v,ex,ea,ed,Z,hd,hf,l,q⟩=>?_);subst ex;obtain rfl:u=Aj a:=rx;obtain⟨⟨vs,sl,hx,hs⟩,_,_⟩:=I1.hok a _ ea;obtain⟨mA,hn,hr⟩:=(show cC X.prog X.w H1 s1.heap dx (.xd fs)from I1.hok dx _ ed);have hrf:=hr f;rw[l]at hrf;obtain⟨h0,g0,d0,t0,o0⟩:=s1;cases hm:mA f with
 |none=>rw[hm]at hrf;exact Dw hrf
 |some y=>
  rw[hm]at hrf;exact aG1 I1.kIn Z hd hf hx hn.ns hm (aCk hrf) ⟨v,H1,I1.tok (t0+1),hrf,q⟩
variable {P:Ap}{w:Bh}{mg:Str->#v[8]}{base:Heap}
def Fun.okE{x qual:Str}{st:Stmt}{f:Addr}{fd:Bb}{N ps:List Str}{sp:Sp}(F:Fun K x qual st f fd)(S:aP N ps (aF st))(len:∀vs H Q E,sp vs H Q E->vs.length=ps.length)
  (hbody:∀(X:Cx)(cdv:Value)(A:Bl)(outer:List Env)(s:Ae)(H:Hp)(vs:List V)(Q:VK)(E:XK),X=uV (CXe P w) P w K mg base N qual (aF st) f cdv A outer s H E->aJb X E->Vh #v[b] X.A X.env X.xe->cO k X.A->sp vs H Q E->
   ∃t,PSs (uV (CXe P w) P w K mg base N qual (aF st) f cdv A outer s H E) (dO st) t/\t {nx:=λ_ H'=>Q .non H',rt:=Q} (start N vs) H):bG P w K mg base (CXe P w) (k+1) f fd ps sp:=by
 obtain⟨oc,od,kV,doc,pm,an,cdv,ct,osl,rfl,lk,hcd⟩:=F.ex;refine aSh lk hcd S len λA outer s H vs Q E hr hsp=>?_;exact hbody _ cdv A outer s H vs Q E rfl aPd PassesOwn.leaving hr hsp
section
variable {X:Cx}{pins:#v[4]}{σ:St}{H H1:Hp}{s s1:Ae}{e C dx:Addr}
def Inv.forget1{h':Heap}{m:Str->#v[8]}{n:Str}{w':#v[8]}{t':Nat}(I:#v[1])(hN:X.N.Nodup)(hi:X.N[i]? =some n)
  (hl:∀(j:Nat)(x:Str)(v:V),X.N[j]? =some x->σ[j]? =some (some v)->Vis X.env.scope x->∃u,RelV v u/\Look X.env s.heap m x u) (hn:h'.Ns X.env.locals (λx=>if x=n then w' else m x)) (hs:Dm X.env.locals s.heap h'):
  Inv X pins (σ.set i none) H {s with heap:=h',toks:=t'}:=by
 have neL:∀b o,X.s₀.heap.get? b=some o->b≠X.env.locals:=λb o e=>Be (Bf (Ar e) I.ok.above);refine⟨I.ok,I.os,I.bare,⟨λb o e n hb hx=>(hs.2 b (neL b o e)).trans (I.base.keep b o e n hb hx),λb o e n hb hx=>?_,I.base.free,λb o e hx=>?_,I.base.tups,I.base.frzs,I.base.tbls⟩,⟨_,hn,λj y v e1 e2 e3=>?_⟩,λy c e=>?_,I.free,I.freeC,λp hp=>?_,λb u q=>?_,by rw[Bm];exact I.len⟩
 ·obtain⟨sl,e1⟩:=I.base.slot b o e n hb hx;exact⟨sl,(hs.2 b (neL b o e)).trans e1⟩
 ·obtain⟨o',e1⟩:=I.base.there b o e hx;exact⟨o',(hs.2 b (neL b o e)).trans e1⟩
 ·have hji:j≠i:=λz=>by
   subst z;rw[Kt]at e2;simp only[if_true]at e2;split at e2<;>cases e2
  rw[Mi (Ci hji)]at e2;have hy:y≠n:=λz=>hji (aAz hN e1 (z▸hi));obtain⟨u,r,l⟩:=hl j y v e1 e2 e3;refine⟨u,r,?_⟩;rcases l with ⟨k,q⟩|⟨k,c,q,z⟩
  ·exact .inl ⟨k,by show(if y=n then _ else m y)=_;rw[if_neg hy];exact q⟩
  ·exact .inr ⟨k,c,q,z.sameBut hs (I.cne y c q)⟩
 ·obtain⟨w',z⟩:=I.cell y c e;exact⟨w',z.sameBut hs (I.cne y c e)⟩
 ·obtain⟨e,n,ne,nf,d⟩:=I.pin p hp;exact⟨(hs.2 p.1 ne).trans e,n,ne,nf,d⟩
 ·refine(I.hok b u q).stay (λc v hc y=>(hs.2 c ?_).trans y) (λ_ y=>y) λ_ _ y=>y;rintro rfl;rcases hc with rfl|hc
  ·rw[I.free]at q;cases q
  ·rw[I.free]at hc;cases hc
def Ends.gone1(i:Nat)(D:Ends):Ends:=⟨λσ H=>D.nx (σ.set i none) H,D.rt,λσ H=>D.bk (σ.set i none) H,λσ H=>D.ct (σ.set i none) H⟩
def aS2(K:Ab)(CT:Addr)(i k:Nat)(ts:TS)(D:Ends):XK:=λcls od H1=>∃C dx,cls=.ref C/\od=some dx/\Ll K (.ref C) (.ref CT)=some true/\
 ∀e,H1 e=none->ts (D.gone1 i) ((Al k none).set i (some (.ref e))) (upd H1 e (aEr e C dx))
def aPn{D:Ends}{ts:TS}{x n:Str}{p pos:Pos}(hst:X.stack=X.env::X.outer)(hf:X.env.frame=some X.env.locals)(hg:Gl X x)(hm:X.mg x=some (.ref CT))(hN:X.N.Nodup)(hi:X.N[i]? =some n)
  (hloc:X.env.kindOf n=some .local) (hlx:X.env.scope.names.lookup n=some .local) (hs:∀e,PSs (X.suite e) (b₀::rest) ts) (hdb:ND x)
  (I:#v[1]) (I1:Inv X pins σ H1 s1) (f:xY s.heap H1 s1.heap e C dx) (hE:aS2 X.K CT i X.N.length ts D (.ref C) (some dx) H1):
  Au #v[b] X.A (Uw (.ref e) X.env) (λ_ s₂=>Au #v[b] X.A (Rm (.ref e) none) (λ_ s₃=>Au #v[b] X.A (handleBy (.ref e) X.env [.ExceptHandler (some (.Name x p)) (some n) (b₀::rest) pos]) (SP X pins D) X.xe s₃) X.xe s₂) X.xe s1:=by
 obtain⟨⟨vs,sl,he,hsz,hz,hT⟩,free,new⟩:=f;obtain⟨C',dx',eC,ed,hx,hq⟩:=hE;cases eC;cases ed;have hfr:X.A.frames=some (X.env::X.outer):=by rw[<-hst];exact I.ok.frames
 have hfun:s1.heap.FunFrames X.base (X.env::X.outer):=by have:=I1.stack;rw[hst]at this;exact this
 have hne:e∉frs (X.env::X.outer):=λhm=>by
  obtain⟨_,o,ho,hnf⟩:=hfun.mem hm;rw[he]at ho;cases ho;exact hnf vs rfl
 refine aA0 hfr hfun hf he rfl hsz hz λh1 old hold nt=>?_;refine yG (s:={s1 with heap:=h1}) hne nt λh2 l=>?_;have hl2:Left X.stack e ⟨.ref C,some dx,.fields vs,sl⟩ s1.heap h2 old:=by rw[hst];exact l
 have I2:=landed I I1 new free (λT z=>hT T (hold T z)) hl2;obtain⟨vs',T',oT',ts',a1,a2,a3,a4,a5,a6,a7,a8⟩:=l.at_;obtain⟨b1,b2,b3,b4⟩:=I.older new;obtain⟨c1,c2,c3,c4⟩:=I1.older a5;have I2s:=I2.suite (e:=e);refine wpAny_handleBy_cons (codeAny_handlers_test (vA I2s hg hm ?_ hdb)) (by intro q;cases q);have LT:Jf #v[b] h2 (Yy (.ref e)) (.ref C):=(Xt a1).andThen .now;refine(PySem.W.exm_one (M:=model X.prog X.w) I2.kIn LT hx).here ?_;refine codeAny_handlers_suite_as ?_;refine flight_again (s:={s1 with heap:=h2}) a1 rfl a3 a6 a7 a8 λh3 hk3=>?_;have hHT:H1 T'=none:=I1.hok.fresh a5;have I3:Inv X pins σ H1 {s1 with heap:=h3}:=I2.turned (s:={s1 with heap:=h2}) (t':=s1.toks) (it:=T') (λb o hb eb=>(hk3 b hb).trans eb) hHT c2 (.inr c1) c3 c4;have he3:h3.get? e=some ⟨.ref C,some dx,.fields vs',sl⟩:=(hk3 e (Ci a4)).trans a1;have I4:=I3.nones.take (o:=aEr e C dx) free b1 b2 b3 b4 (aPp he3 a2);rw[aMz I.len]at I4;refine aA9 (X:=X.suite e) (s:={s1 with heap:=h3}) (v:=.ref e) I4.suite hN hi (.inl hlx) rfl (λs5 I5=>?_) (.inr hlx);refine Dc (hs e pins s5 _ _ (D.gone1 i) I5 (hq e free)) (λfl s6 h6=>?_) λ_ _ z=>Dw z;have goes:∀{σ':St}{H':Hp}{R:Ae->Prop},Inv (X.suite e) pins σ' H' s6->(∀s7,Inv X pins (σ'.set i none) H' s7->R s7)->Au #v[b] X.A (do bindName X.env n .none;Vu X.env n pos) (λ_ s7=>R s7) X.xe s6:=λ{σ' H' R} J k=>by
  obtain⟨m,hn,hl⟩:=J.loc;refine wpAny_nameGoes_keeps hloc hn (by rw[I.ok.kind];rfl) λh' v' hn' hsb=>k _ ((J.unsuite I.ok.hd).forget1 (t':=s6.toks+1) hN hi hl hn' hsb)
 show Au #v[b] X.A (do bindName X.env n .none;Vu X.env n pos) (λ_ s7=>SP X pins D fl s7) X.xe s6;cases fl with
 |next=>obtain⟨σ',H',J,q⟩:=h6;exact goes J λs7 J7=>⟨_,H',J7,q⟩
 |brk=>obtain⟨σ',H',J,q⟩:=h6;exact goes J λs7 J7=>⟨_,H',J7,q⟩
 |cont=>obtain⟨σ',H',J,q⟩:=h6;exact goes J λs7 J7=>⟨_,H',J7,q⟩
 |ret u=>obtain⟨v,σ',H',J,r,q⟩:=h6;exact goes J λs7 J7=>⟨v,_,H',J7,r,q⟩
def aXk(K:Ab)(CT:Addr)(i k:Nat)(tb:XK->TS)(ts:TS):TS:=λD σ H=>tb (aS2 K CT i k ts D) D σ H
def aQm{tb:XK->TS}{ts:TS}{x n:Str}{p pos pos':Pos}(hst:X.stack=X.env::X.outer)(hf:X.env.frame=some X.env.locals)(hg:Gl X x)(hm:X.mg x=some (.ref CT))(hN:X.N.Nodup)(hi:X.N[i]? =some n)
  (hloc:X.env.kindOf n=some .local) (hlx:X.env.scope.names.lookup n=some .local) (hb:∀pins W E,aH3 (X.tried pins W) E->PSs (X.tried pins W) body (tb E)) (hs:∀e,PSs (X.suite e) (b₀::rest) ts) (hdb:ND x:=by decide):
  PS X (.Try body [.ExceptHandler (some (.Name x p)) (some n) (b₀::rest) pos] [] [] pos') (aXk X.K CT i X.N.length tb ts):=by
 intro pins s σ H D I h;refine wpAny_Try_except ?_;refine Dc (hb pins _ _ (λpins' σ' H s H1 s1 e C dx J J1 f hE=>?_) [] s σ H D I.tried h) (λfl s2 h2=>?_) λ_ _ z=>z
 ·exact aPn hst hf hg hm hN hi hloc hlx hs hdb J.untried J1.untried f hE
 ·cases fl with
  |next=>exact Mw h2.untried
  |brk=>exact h2.untried
  |cont=>exact h2.untried
  |ret u=>exact h2.untried
end
def kZ(P:Ap)(w:Bh)(a:Addr)(xs:List ((Int×List Int)×Addr))(h:Heap):Prop:=∃o es ep t,h.get? a=some o/\o.ExactSet/\o.data=.set es ep t/\es.toList=xs.map (λx=>((mG (Fg P w)).hash x.1,Aj x.2))/\t.Good/\t.place.size=es.size/\(xs.map (·.1)).Nodup/\
 (∀(i j:Nat)(x:(Int×List Int)×Addr),t.place[i]? =some j->xs[i]? =some x->SetTable.qP t ((mG (Fg P w)).hash x.1) j)/\t.Small/\t.plain=true/\t.led= !w.params.followText "set-order"
def TKy(H:Hp)(x:List Int×Addr):Prop:=H x.2=some (.tup (x.1.map V.int))
def PKy(H:Hp)(x:(Int×List Int)×Addr):Prop:=∃q,H x.2=some (.tup [.int x.1.1,.ref q])/\TKy H (x.1.2,q)
section
variable {P:Ap}{w:Bh}{H:Hp}{h:Heap}{a:Addr}{s:Ae}{xs:List ((Int×List Int)×Addr)}
def kZ.stay(h1 h2:Heap)(p:kZ P w a xs h1)(k:∀o,h1.get? a=some o->h2.get? a=some o):kZ P w a xs h2:=let⟨o,es,ep,t,e,c⟩:=p;⟨o,es,ep,t,k _ e,c⟩
def kZ.of(I:lA (mG (Fg P w)) s a (!w.params.followText "set-order") xs):kZ P w a xs s.heap:=by
 obtain⟨o,es,ep,t,S,r1,r2,r3⟩:=I;exact⟨o,es,ep,t,S.ho,S.hex,S.hd,S.he,S.good,S.size,S.nd,S.way,r1,r2,r3⟩
def kZ.is(I:kZ P w a xs s.heap)(keys:∀x∈xs,bH (Fg P w) s.heap x.1 x.2):lA (mG (Fg P w)) s a (!w.params.followText "set-order") xs:=by
 obtain⟨o,es,ep,t,a1,a2,a3,a4,a5,a6,a7,a8,r1,r2,r3⟩:=I;exact⟨o,es,ep,t,⟨a1,a2,a3,a4,a5,a6,keys,a7,a8⟩,r1,r2,r3⟩
def aKy{ns:List Int}:∀{us:List Value},Vals (ns.map V.int) us->ItemsAre (Fg P w) ns us:=by
 induction ns with
 |nil=>intro us r;rw[Hs]at r;cases r;exact .nil
 |cons n ns ih=>
  intro us r;rw[Da]at r;cases r with
  |@cons _ v _ _ r1 t=>
   obtain⟨tk,rfl⟩:=r1;exact .cons (by show Ku n (.int n tk)=true;simp[Ku]) (ih t)
def aQ5{x:List Int×Addr}(ok:HOk P w H h)(e:TKy H x):Jn (Fg P w) h x.1 x.2:=by
 obtain⟨_,its,r,o,h1,h2,n,h3⟩:=(show cC P w H h x.2 (.tup (x.1.map V.int))from ok _ _ e);exact⟨o,its.toArray,n,h1,h2,h3,aKy r⟩
def aIr{x:(Int×List Int)×Addr}(ok:HOk P w H h)(e:PKy H x):bH (Fg P w) h x.1 x.2:=by
 obtain⟨q,e1,e2⟩:=e;obtain⟨_,its,r,o,h1,h2,n,h3⟩:=(show cC P w H h x.2 (.tup [.int x.1.1,.ref q])from ok _ _ e1);obtain⟨u,v,rfl,ru,rv⟩:=vals2 r;obtain⟨tk,rfl⟩:=ru;obtain rfl:v=Aj q:=rv;exact⟨o,_,q,n,h1,h2,h3,(by show Ku _ (.int _ tk)=true;simp[Ku]),aQ5 ok e2⟩
end
theorem aBd:∀{ps:List ((Int×List Int)×Addr)}{us:List Value},Vals (ps.map λx=>V.ref x.2) us->us=ps.map λx=>Aj x.2
 | [],_,.nil=>rfl
 |_::_,_,.cons (r1:_=Aj _) t=>by subst r1;rw[Da,aBd t]
theorem aBc:∀{ps:List ((Int×List Int)×Addr)},Vals (ps.map λx=>V.ref x.2) (ps.map λx=>Aj x.2)
 | []=> .nil
 |_::_=> .cons rfl aBc
inductive aLe(P:Ap)(w:Bh)(K:Ab)(xs:List V)(H:Hp)(Q:VK):Prop
 |mk (p:Addr) (ps:List ((Int×List Int)×Addr)) (q0_:xs=[.ref p]) (q1_:SqL K H p (ps.map λx=>V.ref x.2)) (q2_:(∀x∈ps,PKy H x)) (q3_:ps.length<=1000) (q4_:(∃ks:List (Int×List Int),ks.length<300/\∀x∈ps,x.1∈ks)) (q5_:∀(l:Addr)(zs:List ((Int×List Int)×Addr)),H l=none->(zs.map (·.1)).Nodup->(∀x∈zs,x∈ps)->(∀x∈ps,∃z∈zs,z.1=x.1)->zs.length<=ps.length->Q (.ref l) (upd H l (.ext (kZ P w l zs)))):aLe P w K xs H Q
def aXe(P:Ap)(w:Bh)(K:Ab):List V->Hp->VK->Prop:=λxs H Q=>aLe P w K xs H Q
inductive aB4(P:Ap)(w:Bh)(xs:List V)(H:Hp)(Q:VK):Prop
 |mk (p:Addr) (ps:List ((Int×List Int)×Addr)) (q0_:xs=[.ref p]) (q1_:H p=some (.ext (kZ P w p ps))) (q2_:(∀x∈ps,PKy H x)) (q3_:ps.length<64) (q4_:∀(l:Addr)(ys:List ((Int×List Int)×Addr)),H l=none->ys.Perm ps->ys.Pairwise (λx y=>pL x.1 y.1=true)->Q (.ref l) (upd H l (.lst (ys.map λx=>V.ref x.2)))):aB4 P w xs H Q
def aN2(P:Ap)(w:Bh):List V->Hp->VK->Prop:=λxs H Q=>aB4 P w xs H Q
def aJh(hu:X.A.units+20<cLine)(hc:X.calm=true):gF X (.type "set") (aXe X.prog X.w X.K):=by
 intro pins s σ H xs us Q I r h;obtain⟨p,ps,rfl,hq,hk,hln,⟨ks,kl,km⟩,q⟩:=h;obtain⟨u,rfl,ru⟩:=vals1 r;cases ru;obtain⟨its,rv,pl,hz⟩:=I.list hq;have ei:=aBd rv;have hlen:its.length=ps.length:=by rw[ei,Ac]
 have at_:∀i,i<ps.length->ps.getD i ((0,[]),0)∈ps:=λi hi=>by simp[Je,hi]
 refine aAd (knd:=mG (Fg X.prog X.w)) (items:=its.toArray) (val:=λi=>(ps.getD i ((0,[]),0)).1) (adr:=λi=>(ps.getD i ((0,[]),0)).2) (aNj λk v hv=>?_) (λA' hA=>?_) (I.ok.hd hc) pl.isList (λi v hv=>?_) (λj hj=>?_) (λi xs hi M nd=>?_) λh' tk zs S M hk'=>?_
 ·obtain⟨t,rfl⟩:=Ej hv;exact⟨_,_,rfl⟩
 ·show A'.units+1<cLine
  lia
 ·have hi:i<its.toArray.size:=(Bu.mp hv).1;rw[Ai,hlen]at hi;rw[List.getElem?_toArray,ei]at hv;simp[hi]at hv;rw[<-hv];simp[Je,hi]
 ·rw[Ai,hlen]at hj;exact aIr I.hok (hk _ (at_ j hj))
 ·rw[Ai,hlen]at hi;have:=nd.length_le_of_subset (l₂:=ks) λk hk=>by
   obtain⟨x,hx,rfl⟩:=Az.mp hk;obtain⟨j,hj,e⟩:=M.from' x hx;rw[e];exact km _ (at_ j ∅)
  rw[Ac]at this
  lia
 ·have kp:∀b o,s.heap.get? b=some o->h'.get? b=some o:=λb o e=>hk' b o (Ar e) e;have so:=kZ.of S;have nd:(zs.map (·.1)).Nodup:=by obtain⟨_,_,_,_,S,_⟩:=S;exact S.nd
  refine⟨.ref #v[0],_,I.laid (t':=tk) (o:=.ext (kZ X.prog X.w #v[0] zs)) kp (Am _) ⟨so,?_,λh1 h2 p k=>kZ.stay h1 h2 p k⟩,rfl,q _ zs (I.hok.fresh (Am _)) nd (λx hx=>?_) (λx hx=>?_) ?_⟩
  ·obtain⟨o,_,_,_,e,_⟩:=so;exact⟨o,e⟩
  ·obtain⟨j,hj,e⟩:=M.from' x hx;rw[Ai,hlen]at hj;rw[e];exact at_ j hj
  ·obtain⟨j,hj,e⟩:=Gj hx;obtain⟨z,hz,ez⟩:=M.all j (by rw[Ai,hlen];exact hj);refine⟨z,hz,?_⟩;rw[ez, <-e];simp[Je,hj]
  ·have:=M.len;rw[Ai,hlen]at this;exact this
def aDk(hu:X.A.units+40<cLine)(hc:X.calm=true):gF X (.builtin "sorted") (aN2 X.prog X.w):=by
 intro pins s σ H xs us Q I r h;obtain⟨p,ps,rfl,hp,hk,h64,q⟩:=h;obtain⟨u,rfl,ru⟩:=vals1 r;cases ru;obtain⟨so,_,_⟩:=(show cC X.prog X.w H s.heap p (.ext (kZ X.prog X.w p ps))from I.hok p _ hp);refine aHl (aIl λk v hv=>by obtain⟨t,rfl⟩:=Ej hv;exact⟨_,_,rfl⟩) ∅ (I.ok.hd hc) (so.is λx hx=>aIr I.hok (hk x hx)) (λ_ _=>trivial) h64 λh' tk l e ys py hy hl hg kp=>?_;refine⟨.ref l,_,I.laid (t':=tk) (o:=.lst (ys.map λx=>V.ref x.2)) kp hl ⟨?_,_,e,aBc,hg⟩,rfl,q l ys (I.hok.fresh hl) py hy⟩;rw[Ac,py.length_eq,Dv]
 lia
def aB5(w:Bh)(a:Addr)(zs:List Nat)(h:Heap):Prop:=∃o ep tk,h.get? a=some o/\o.ExactSet/\o.data=.set (gB zs tk) ep (xU (!w.params.followText "set-order") zs)/\zs∈fO
def yJ(l:List Nat):List V:=l.map λk:Nat=> .int (k:Int)
inductive aLb(w:Bh)(K:Ab)(xs:List V)(H:Hp)(Q:VK):Prop
 |mk (p:Addr) (ns:List Nat) (q0_:xs=[.ref p]) (q1_:SqL K H p (yJ ns)) (q2_:(∀n∈ns,n∈[1,2,3])) (q3_:∀(l:Addr)(zs:List Nat),H l=none->zs∈fO->(∀z,z∈zs↔z∈ns)->Q (.ref l) (upd H l (.ext (aB5 w l zs)))):aLb w K xs H Q
def aXb(w:Bh)(K:Ab):List V->Hp->VK->Prop:=λxs H Q=>aLb w K xs H Q
inductive aB3(w:Bh)(xs:List V)(H:Hp)(Q:VK):Prop
 |mk (p:Addr) (zs:List Nat) (q0_:xs=[.ref p]) (q1_:H p=some (.ext (aB5 w p zs))) (q2_:∀l,H l=none->Q (.ref l) (upd H l (.lst (yJ zs)))):aB3 w xs H Q
def aN1(w:Bh):List V->Hp->VK->Prop:=λxs H Q=>aB3 w xs H Q
theorem aCx:∀{ns:List Nat}{us:List Value},Vals (yJ ns) us->∀(i:Nat)(v:Value),us[i]? =some v->∃t,v=.int (ns.getD i 0:Nat) t
 | [],_,.nil,i,v,h=>by simp at h
 |n::ns,u::us,.cons r t,0,v,h=>by
  obtain⟨tk,e⟩:=r;have:u=v:=by simpa using h
  exact⟨tk,by rw[<-this,e];rfl⟩
 |n::ns,u::us,.cons r t,i+1,v,h=>by
  have:=aCx t i v (by simpa using h);simpa[Je]using this
def aFm{α β:Type}{f:α->β}{l:List β}{xs:List α}(hp:l.Perm (xs.map f)):∃zs:List α,zs.Perm xs/\l=zs.map f:=by
 generalize hm:xs.map f=m at hp;induction hp generalizing xs with
 |nil=>exact⟨xs,Ih _,hm.symm⟩
 |cons a p ih=>
  match xs,hm with
  |x::xs,hm=>
   obtain⟨e1,e2⟩:=Fh hm;obtain⟨zs,z1,z2⟩:=ih e2;exact⟨x::zs,z1.cons x,by rw[z2, <-e1];rfl⟩
 |swap a b l=>
  match xs,hm with
  |x::y::xs,hm=>
   obtain⟨e1,e2⟩:=Fh hm;obtain⟨e2,e3⟩:=Fh e2;exact⟨y::x::xs,Ol _ _ _,by rw[<-e1, <-e2, <-e3];rfl⟩
 |trans p1 p2 ih1 ih2=>
  obtain⟨zs,z1,z2⟩:=ih2 hm;obtain⟨ys,y1,y2⟩:=ih1 z2.symm;exact⟨ys,y1.trans z1,y2⟩
theorem yQ:∀{l m:List Int},l.Perm m->l.Pairwise (·<=·)->m.Pairwise (·<=·)->l=m
 | [],m,h,_,_=>h.nil_eq
 |a::l,[],h,_,_=>absurd h.length_eq (by simp)
 |a::l,b::m,h,h1,h2=>by
  have ha:=(Er.mp h1);have hb:=(Er.mp h2);have e:a=b:=by
   have m1:a∈b::m:=h.mem_iff.mp Ah;have m2:b∈a::l:=h.mem_iff.mpr Ah;rcases Ao.mp m1 with z|z
   ·exact z
   ·rcases Ao.mp m2 with y|y
    ·exact y.symm
    ·have:=ha.1 b y;have:=hb.1 a z
     lia
  subst e;rw[yQ ((List.perm_cons a).mp h) ha.2 hb.2]
def aJg(hc:X.calm=true):gF X (.type "set") (aXb X.w X.K):=by
 intro pins s σ H xs us Q I r h;obtain⟨p,ns,rfl,hq,h3,q⟩:=h;obtain⟨u,rfl,ru⟩:=vals1 r;cases ru;obtain⟨its,rv,pl,hz⟩:=I.list hq;have hlen:its.length=ns.length:=by rw[<-Vals.length rv];unfold yJ;rw[Ac]
 have v3:∀j,j<its.toArray.size->ns.getD j 0∈[1,2,3]:=λj hj=>by
  rw[Ai,hlen]at hj;have:ns.getD j 0=ns[j]:=by simp[Je,hj]
  rw[this];exact h3 _ (Ew hj)
 refine aAc (items:=its.toArray) (val:=λi=>ns.getD i 0) (I.ok.hd hc) pl.isList (λi v hv=>aCx rv i v (by simpa using hv)) v3 λh' tk S kp'=>?_;have kp:∀b o,s.heap.get? b=some o->h'.get? b=some o:=λb o e=>kp' b o (Ar e) e;have so:aB5 X.w #v[0] (wX (λi=>ns.getD i 0) its.toArray.size) h':=S;refine⟨.ref #v[0],_,I.laid (t':=tk) (o:=.ext (aB5 X.w #v[0] _)) kp (Am _) ⟨so,?_,λh1 h2 p k=>?_⟩,rfl,q _ _ (I.hok.fresh (Am _)) (aFj _ _) λz=>?_⟩
 ·obtain⟨o,_,_,e,_⟩:=so;exact⟨o,e⟩
 ·obtain⟨o,ep,tk,e,c⟩:=p;exact⟨o,ep,tk,k _ e,c⟩
 ·rw[aFi v3 _ (Am _) z,Ai,hlen];constructor
  ·rintro⟨j,hj,rfl⟩;have:ns.getD j 0=ns[j]:=by simp[Je,hj]
   show ns.getD j 0∈ns;rw[this];exact Ew hj
  ·intro hz;obtain⟨j,hj,e⟩:=Gj hz;exact⟨j,hj,by show ns.getD j 0=z;rw[<-e];simp[Je,hj]⟩
def aDj(hc:X.calm=true):gF X (.builtin "sorted") (aN1 X.w):=by
 intro pins s σ H xs us Q I r h;obtain⟨p,zs,rfl,hp,q⟩:=h;obtain⟨u,rfl,ru⟩:=vals1 r;cases ru;obtain⟨so,_,_⟩:=(show cC X.prog X.w H s.heap p (.ext (aB5 X.w p zs))from I.hok p _ hp);obtain⟨o,ep,tk,ho,hex,hd,hz⟩:=so;have l3:=aTy zs hz;refine Qh kind_sorted plain_sorted entry_sorted (args_sorted1 _) ?_;unfold Builtin.«sorted»;refine Aa (m:=checkCount "sorted" 1 1 _) (Ad ?_);have rise:SetTable.tU (xU (!X.w.params.followText "set-order") zs).place:=by
  simp only[fO,Ao,Ck,or_false]at hz;rcases hz with rfl|rfl|rfl|rfl|rfl|rfl|rfl|rfl<;>intro i j h1 h2<;>simp[xU]at h1 h2<;>(obtain rfl|rfl|rfl:j=0∨j=1∨j=2:=by lia)<;>(obtain rfl|rfl|rfl:i=0∨i=1∨i=2:=by lia)<;>first|(exfalso;lia)|(show(_:Nat)<_;simp[xU])
 refine Aa (nO (by simpa using I.ok.hd hc) ho hex hd (aMb hz) rise rfl rfl (by rw[aOg,Dv];lia) λh' tk' s1 hk=>?_);obtain⟨ys,py,ey⟩:=aFm (f:=λz:Nat=>Df (z:Int) (tk z)) (l:=gD X.w p (gB zs tk) ep) (xs:=zs) (by
  have:=jV X.w p (gB zs tk) ep;have e:(gB zs tk).toList.map (·.2)=zs.map λz:Nat=>Df (z:Int) (tk z):=by simp[gB]
  rw[e]at this;exact this)
 rw[ey];have hi:Ni (ys.map λz:Nat=>Df (z:Int) (tk z)) (ys.map λz:Nat=>(z:Int)):=by
  clear py ey;induction ys with
  |nil=>exact .nil
  |cons a l ih=>exact .cons _ _ ih
 generalize (ys.map λz:Nat=>Df (z:Int) (tk z))=vs at hi;have hal:vs.length=ys.length:=by rw[hi.length,Ac]
 have yl:=py.length_eq;refine Aa (Sy ?_ (by rw[Dv];lia));have hoL:(h'.push (Jh "list" vs.toArray 0)).get? h'.objs.size=some (Jh "list" vs.toArray 0):=Ba _ rfl;refine Aa (Cg (Ga slot_list_sort ⟨_,hoL,rfl⟩ entry_list_sort (list_sort_tree hoL hi ∅ λout ms a1 a2 a3=>⟨_,rfl,?_⟩) (args_list_sort _)));refine Ad ⟨_,rfl,?_⟩;obtain⟨e,he⟩:=sortedHeap_at (vs:=vs) (out:=out) hoL;have hsz:h'.objs.size<(h'.push (Jh "list" vs.toArray 0)).objs.size:=by rw[Dd];exact Fs _
 have keep:∀b o,s.heap.get? b=some o->(Su (h'.push (Jh "list" vs.toArray 0)) h'.objs.size vs out).get? b=some o:=λb o eb=>by
  have e1:=hk b o eb;have hlt:=Ar e1;rw[sortedHeap_old (Be hlt) (Kk hlt hsz)];exact Af _ e1
 have hge:#v[0]<=h'.objs.size:=Mc s1;have es:ms=zs.map λz:Nat=>(z:Int):=yQ (a2.trans (py.map _)) a3 (by
  simp only[fO,Ao,Ck,or_false]at hz;rcases hz with rfl|rfl|rfl|rfl|rfl|rfl|rfl|rfl<;>decide)
 have en:ms.map V.int=yJ zs:=by rw[es,Cp];rfl
 refine⟨.ref h'.objs.size,_,I.laid (t':=tk') (o:=.lst (ms.map V.int)) keep hge ⟨?_,out.toList,e,aBf a1,by simpa using he⟩,rfl,by rw[en];exact q _ (I.hok.fresh hge)⟩;rw[Ac,a2.length_eq,Ac,Dv]
 lia
structure Dis(P:Ap)(w:Bh)(K:Ab)(mg:Str->#v[8])(base:Heap)(CX:CXT)(k:Nat)(Cs:Addr->Prop)(m:Str)(ps:List Str)(sp:Addr->Sp):Prop where
 ex:∀C,Cs C->Cls K C/\∃f fd,Meth K C m f/\bG P w K mg base CX k f fd ps (sp C)/\Binds K fd ps []
def aU0(Cs:Addr->Prop)(m:Str)(sp:Addr->Sp)(E:XK)(ta:TE)(t:TA):TE:=λσ H Q=>ta σ H λx H1=>∃a C dx fs,x=.ref a/\H1 a=some (.ins C dx fs)/\Cs C/\fs.lookup m=none/\t σ H1 λvs H2=>sp C (.ref a::vs) H2 Q E
section
variable {X:Cx}{CX:CXT}{k:Nat}{Cs:Addr->Prop}{m:Str}{ps:List Str}{sp:Addr->Sp}{E:XK}{o e:Bw}{es:List Bw}{ta:TE}{t:TA}{apos pos:Pos}
def aKn{pl:Sem Bool}(he:PE X o ta)(D:Dis X.prog X.w X.K X.mg X.base CX k Cs m ps sp)(hr:cO k X.A)(hx:jX CX X E)
  (ht:eval (.Call (.Attribute o m apos) [] [] pos) X.env=(do
   let ov<-eval o X.env
   Lr apos.atName
   let(f,first)<-holding [ov] (Nd ov m pl)
   Wr pos f first (Ju pos (Bc [] X.env)) (Gh pos (Do [] X.env))):=by rfl):
  PE X (.Call (.Attribute o m apos) [] [] pos) (aU0 Cs m sp E ta aQ2):=by
 intro pins s σ H Q I h;refine Rc (pl:=pl) (thn (he pins s σ H _ I h) λu s1 ⟨x,H1,I1,rx,a,C,dx,fs,ex,ea,hC,l,q⟩=>?_) ht;subst ex;obtain rfl:u=Aj a:=rx;obtain⟨c,f,fd,hm,F,hb⟩:=D.ex C hC;refine aG5 I1 ea c hm l ?_;exact PySem.W.callWith_K0 (first:=[.ref a]) I1.kIn hm.kp (aN8 (us:=[.ref a]) (vs:=[.ref a]) F hr hb .nil hx I1 (.cons rfl .nil) q)
end
def aXq(td te:TE):TE:=λσ H Q=>td σ H λx H1=>∃a,x=.ref a/\IsD H1 a/\te σ H1 λy H2=>∃b kvs more,y=.ref b/\H2 a=some (.dK kvs)/\H2 b=some (.dK more)/\a≠b/\kvs.length+more.length<=1000/\Q .non (upd H2 a (.dK (pM kvs more)))
variable {o e:Bw}{apos cpos:Pos}{td ty:TE}
def aQg(ho:PE X o td)(he:PE X e ty)(m:M1 X o "update" apos e cpos):PE X (.Call (.Attribute o "update" apos) [e] [] cpos) (aXq td ty):=by
 intro pins s σ H Q I h;refine Xj m.base m.few m.line Qa Pi PySem.F.type_dict_update (thn (ho pins s σ H _ I h) λu s1 ⟨x,H1,I1,rx,a,ex,d,q1⟩=>?_);subst ex;obtain rfl:u=Aj a:=rx;obtain⟨t1,t2,_⟩:=aMp I1 d;refine⟨t1,t2,?_⟩;rw[m.trees];refine Io rfl (Jj (Nj (thn (he pins s1 σ H1 _ I1 q1) λiv s2 ⟨y,H2,I2,ry,b,kvs,more,ey,ea,eb,ne,hl,q2⟩=>Nz ?_)));subst ey;obtain rfl:iv=Aj b:=ry;obtain⟨z,hd,vs,rel,dd⟩:=aH8 I2.hok ea;obtain⟨z',hd',vs',rel',dd'⟩:=aH8 I2.hok eb;have hz:kvs.length+more.length<=sizeLine:=Bd hl ⋯;refine Vc Pi dd.typeIs PySem.F.entry_dict_update (PySem.F.args_dict_update_2 _ _) (meets_dict_update (dB X.prog X.w) a b ne hd') ⟨vs,vs',dd,dd',by rw[<-rel.length, <-rel'.length];exact hz,λh' dn _ hs=>?_⟩;have hx:∃q,h'.get? a=some q:=let⟨q,_,_,hq,_⟩:=dn;⟨q,hq⟩;exact⟨.non,_,zH (t':=s2.toks) I2 (by rw[ea];exact Ep) hs hx (aGv (Bd (nZ more kvs) hz) hd (rel'.merge rel) dn),rfl,q2⟩
variable {tg:Bw}
structure Opq where
 φ:(Addr->Prop)->(Addr->Prop)->Hp->V->Prop
 mono:∀{W B B' H H'}{v:V},(∀b o,¬B b->H b=some o->¬B' b/\H' b=some o)->φ W B H v->φ W B' H' v
 wm:∀{W W' B H}{v:V},(∀p,W p->W' p)->φ W B H v->φ W' B H v
inductive U where
 |v (x:V)
 |tp (l:List U)
 |ls (l:List U)
 |ob (C:Addr) (ns:List Str) (us:List U)
 |dk (ns:List Str) (us:List U)
 |op (o:Opq)
 |wl
abbrev U.n(i:Int):U:=.v (.int i)
abbrev U.b(c:Bool):U:=.v (.bl c)
abbrev U.s(x:Str):U:=.v (.str x)
abbrev U.no:U:=.v .non
def Wll(H:Hp)(a:Addr):Prop:=∃x y z:Int,H a=some (.lst [.int x,.int y,.int z])
section
variable (W B:Addr->Prop)(H:Hp)
mutual
def DU:U->V->Prop
 |.v x,y=>y=x/\lC x=true
 |.tp l,y=>∃p xs,y=.ref p/\¬B p/\H p=some (.tup xs)/\DUs l xs
 |.ls l,y=>∃p xs,y=.ref p/\¬B p/\H p=some (.lst xs)/\DUs l xs
 |.ob C ns us,y=>∃p dx xs,y=.ref p/\¬B p/\H p=some (.ins C dx (ns.zip xs))/\ns.length=xs.length/\DUs us xs
 |.dk ns us,y=>∃p xs,y=.ref p/\¬B p/\H p=some (.dK ((ns.map Cr).zip xs))/\ns.length=xs.length/\DUs us xs
 |.op o,y=>o.φ W B H y
 |.wl,y=>∃p,y=.ref p/\W p
def DUs:List U->List V->Prop
 | [],xs=>xs=[]
 |u::l,xs=>∃x r,xs=x::r/\DU u x/\DUs l r
end
end
section
variable {W B B':Addr->Prop}{H H':Hp}
mutual
theorem DU.mono(k:∀b o,¬B b->H b=some o->¬B' b/\H' b=some o):∀(u:U){v:V},DU W B H u v->DU W B' H' u v
 |.v _,_,h=>h
 |.tp l,_,⟨p,xs,e,nb,hp,t⟩=>⟨p,xs,e,(k _ _ nb hp).1,(k _ _ nb hp).2,DUs.mono k l t⟩
 |.ls l,_,⟨p,xs,e,nb,hp,t⟩=>⟨p,xs,e,(k _ _ nb hp).1,(k _ _ nb hp).2,DUs.mono k l t⟩
 |.ob _ _ us,_,⟨p,dx,xs,e,nb,hp,hl,t⟩=>⟨p,dx,xs,e,(k _ _ nb hp).1,(k _ _ nb hp).2,hl,DUs.mono k us t⟩
 |.dk _ us,_,⟨p,xs,e,nb,hp,hl,t⟩=>⟨p,xs,e,(k _ _ nb hp).1,(k _ _ nb hp).2,hl,DUs.mono k us t⟩
 |.op o,_,h=>o.mono k h
 |.wl,_,h=>h
theorem DUs.mono(k:∀b o,¬B b->H b=some o->¬B' b/\H' b=some o):∀(l:List U){xs:List V},DUs W B H l xs->DUs W B' H' l xs
 | [],_,h=>h
 |u::l,_,⟨x,r,e,h,t⟩=>⟨x,r,e,DU.mono k u h,DUs.mono k l t⟩
end
def DUs.length:∀{l:List U}{xs:List V},DUs W B H l xs->l.length=xs.length
 | [],_,h=>by rw[show _=[]from h];rfl
 |_::_,_,⟨_,_,e,_,t⟩=>by rw[e,Aq,Aq,DUs.length t]
def DUs.get:∀{l:List U}{xs:List V}{i:Nat}{u:U},DUs W B H l xs->l[i]? =some u->∃x,xs[i]? =some x/\DU W B H u x
 | [],_,_,_,_,e=>by simp at e
 |_::_,_,0,_,⟨x,_,e,h,_⟩,q=>by simp at q;subst q e;exact⟨x,rfl,h⟩
 |_::_,_,i+1,_,⟨_,_,e,_,t⟩,q=>by
  obtain⟨y,h1,h2⟩:=DUs.get (i:=i) t (by simpa using q);exact⟨y,by rw[e];simpa using h1,h2⟩
def DUs.getV{l:List U}{x:V}(h:DUs W B H l xs)(e:xs[i]? =some x):∃u,l[i]? =some u/\DU W B H u x:=by
 have hi:i<l.length:=by rw[h.length];exact(Ax.mp e).1
 obtain⟨y,h1,h2⟩:=h.get (Ak hi);rw[e]at h1;cases h1;exact⟨_,Ak hi,h2⟩
def DUs.app:∀{l m:List U}{xs ys:List V},DUs W B H l xs->DUs W B H m ys->DUs W B H (l++m) (xs++ys)
 | [],_,_,_,h,t=>by rw[show _=[]from h];exact t
 |_::_,_,_,_,⟨x,r,e,h,t⟩,t'=>⟨x,_,by rw[e];rfl,h,DUs.app t t'⟩
def DUs.drop:∀{l:List U}{xs:List V}(i:Nat),DUs W B H l xs->DUs W B H (l.drop i) (xs.drop i)
 |_,_,0,h=>h
 | [],_,_+1,h=>by rw[show _=[]from h];rfl
 |_::_,_,i+1,⟨_,_,e,_,t⟩=>by rw[e];exact DUs.drop i t
def DUs.take:∀{l:List U}{xs:List V}(i:Nat),DUs W B H l xs->DUs W B H (l.take i) (xs.take i)
 |_,_,0,_=>rfl
 | [],_,_+1,h=>by rw[show _=[]from h];rfl
 |_::_,_,i+1,⟨x,_,e,h,t⟩=>by rw[e];exact⟨x,_,rfl,h,DUs.take i t⟩
def DUs.one{u:U}{x:V}(h:DU W B H u x):DUs W B H [u] [x]:=⟨x,[],rfl,h,rfl⟩
end
section
variable {W W' B:Addr->Prop}{H:Hp}
mutual
theorem DU.wm(k:∀p,W p->W' p):∀(u:U){v:V},DU W B H u v->DU W' B H u v
 |.v _,_,h=>h
 |.tp l,_,⟨p,xs,e,nb,hp,t⟩=>⟨p,xs,e,nb,hp,DUs.wm k l t⟩
 |.ls l,_,⟨p,xs,e,nb,hp,t⟩=>⟨p,xs,e,nb,hp,DUs.wm k l t⟩
 |.ob _ _ us,_,⟨p,dx,xs,e,nb,hp,hl,t⟩=>⟨p,dx,xs,e,nb,hp,hl,DUs.wm k us t⟩
 |.dk _ us,_,⟨p,xs,e,nb,hp,hl,t⟩=>⟨p,xs,e,nb,hp,hl,DUs.wm k us t⟩
 |.op o,_,h=>o.wm k h
 |.wl,_,⟨p,e,h⟩=>⟨p,e,k p h⟩
theorem DUs.wm(k:∀p,W p->W' p):∀(l:List U){xs:List V},DUs W B H l xs->DUs W' B H l xs
 | [],_,h=>h
 |u::l,_,⟨x,r,e,h,t⟩=>⟨x,r,e,DU.wm k u h,DUs.wm k l t⟩
end
end
structure Fw(W:Addr->Prop)(H H':Hp):Prop where
 fr:∀b o,¬W b->H b=some o->H' b=some o
 wo:∀p,W p->Wll H' p
def Fw.trans{H H1 H2:Hp}(a:Fw W H H1)(b:Fw W H1 H2):Fw W H H2:=⟨λc o n h=>b.fr c o n (a.fr c o n h),b.wo⟩
def Mt:HO->Prop
 |.lst _=>True
 |.ext _=>True
 |.dK _=>True
 |.tbl _=>True
 |_=>False
structure EB(W B:Addr->Prop)(H:Hp):Prop where
 bl:∀p,B p->∃o,H p=some o/\Mt o
 wb:∀p,W p->B p
 wo:∀p,W p->Wll H p
structure Own where
 φ:(Addr->Prop)->(Addr->Prop)->(Addr->Prop)->Hp->Addr->Prop
 mono:∀{W B B' S H H'}{p:Addr},(∀b o,¬B b->H b=some o->¬B' b/\H' b=some o)->(∀b,S b->H' b=H b)->φ W B S H p->φ W B' S H' p
 wm:∀{W W' B S H}{p:Addr},(∀p,W p->W' p)->φ W B S H p->φ W' B S H p
 th:∀{W B S H}{p:Addr},φ W B S H p->∀b,S b->∃o,H b=some o/\Mt o
def Own.fz(o:Own):Opq:=⟨λW B H v=>∃p S,v=.ref p/\(∀b,S b->¬B b)/\o.φ W B S H p,λk ⟨p,S,e,n,h⟩=>⟨p,S,e,λb hb=>let⟨x,q,_⟩:=o.th h b hb;(k b x (n b hb) q).1,o.mono k (λb hb=>let⟨x,q,_⟩:=o.th h b hb;(k b x (n b hb) q).2.trans q.symm) h⟩,λk ⟨p,S,e,n,h⟩=>⟨p,S,e,n,o.wm k h⟩⟩
def aLh:Opq:=⟨λ_ _ _ _=>True,λ_ _=>trivial,λ_ _=>trivial⟩
inductive Sl where
 |no
 |sh (u:U)
 |ow (l:List U)
 |br (l:List U)
 |oo (o:Own)
 |bo (o:Own)
abbrev EV:=List Sl
def Sl.rd:Sl->U
 |.sh u=>u
 |.ow l=> .ls l
 |.br l=> .ls l
 |.no=> .wl
 |_=> .op aLh
def Sl.es:Sl->(U->Prop)->Prop
 |.sh u,R=>R u
 |.ow l,R=>R (.ls l)
 |.oo o,R=>R (.op o.fz)
 |_,_=>False
def lsO(l:List U):Own:=⟨λW B S H p=>(∀b,S b↔b=p)/\∃xs,H p=some (.lst xs)/\DUs W B H l xs,λk e ⟨s,xs,h,d⟩=>⟨s,xs,(e _ ((s _).mpr rfl)).trans h,DUs.mono k l d⟩,λk ⟨s,xs,h,d⟩=>⟨s,xs,h,DUs.wm k l d⟩,λ⟨s,_,h,_⟩ b hb=>by rw[(s b).mp hb];exact⟨_,h,trivial⟩⟩
def Sl.hold:Sl->Option Own
 |.ow l=>some (lsO l)
 |.br l=>some (lsO l)
 |.oo o=>some o
 |.bo o=>some o
 |_=>none
section
variable (W B:Addr->Prop)(H H':Hp)
def RO:Sl->V->Prop
 |.sh u,y=>DU W B H' u y
 |.ow l,y=>∃p xs,y=.ref p/\H p=none/\H' p=some (.lst xs)/\DUs W (λb=>B b∨b=p) H' l xs
 |.br l,y=>∃p xs,y=.ref p/\¬W p/\H' p=some (.lst xs)/\DUs W B H' l xs
 |.oo o,y=>∃p S,y=.ref p/\(∀b,S b->H b=none)/\o.φ W (λb=>B b∨S b) S H' p
 |.bo o,y=>∃p S,y=.ref p/\(∀b,S b->¬W b)/\o.φ W B S H' p
 |.no,_=>False
def DB(u:U)(y:V):Prop:=DU W B H u y∨∃l p xs,u=.ls l/\y=.ref p/\¬W p/\H p=some (.lst xs)/\DUs W B H l xs
structure EE(ρ:EV)(σ:St):Prop where
 eb:EB W B H
 len:ρ.length=σ.length
 sh:∀(i:Nat)(u:U),ρ[i]? =some (Sl.sh u)->∃v,σ[i]? =some (some v)/\DU W B H u v
 hd:∀(i:Nat)(s:Sl)(o:Own),ρ[i]? =some s->s.hold=some o->∃p S,σ[i]? =some (some (V.ref p))/\(∀b,S b->¬W b)/\o.φ W B S H p
end
def EE.ow{W B:Addr->Prop}{H:Hp}{ρ:EV}{σ:St}(e:EE W B H ρ σ)(i:Nat)(l:List U)(h:ρ[i]? =some (Sl.ow l)∨ρ[i]? =some (Sl.br l)):∃p xs,σ[i]? =some (some (V.ref p))/\¬W p/\H p=some (.lst xs)/\DUs W B H l xs:=by
 obtain⟨p,S,h1,h2,s,xs,h3⟩:∃p S,σ[i]? =some (some (V.ref p))/\(∀b,S b->¬W b)/\(lsO l).φ W B S H p:=h.elim (λh=>e.hd i _ _ h rfl) λh=>e.hd i _ _ h rfl;exact⟨p,xs,h1,h2 p ((s p).mpr rfl),h3⟩
section
variable {W B:Addr->Prop}{H H' H2:Hp}{ρ:EV}{σ:St}
def EB.keep(e:EB W B H)(f:Fw W H H'):∀b o,¬B b->H b=some o->¬B b/\H' b=some o:=λb o n h=>⟨n,f.fr b o (λw=>n (e.wb b w)) h⟩
def EB.dm(e:EB W B H):∀p,B p->H p≠none:=λp h n=>by
 obtain⟨xs,q,_⟩:=e.bl p h;rw[q]at n;cases n
def EB.to(e:EB W B H)(f:Fw W H H'):EB W B H':=by
 refine⟨λp hp=>?_,e.wb,f.wo⟩;by_cases w:W p
 ·obtain⟨x,y,z,q⟩:=f.wo p w;exact⟨_,q,trivial⟩
 ·obtain⟨xs,q,m⟩:=e.bl p hp;exact⟨xs,f.fr p _ w q,m⟩
def EB.refl(e:EB W B H):Fw W H H:=⟨λ_ _ _ h=>h,e.wo⟩
def EB.new(e:EB W B H){o:HO}(n:H p=none):Fw W H (upd H p o):=⟨λb u _ h=>by
 rw[aL (aR h n)];exact h,λq hq=>by
 obtain⟨x,y,z,h⟩:=e.wo q hq;exact⟨x,y,z,by rw[aL (aR h n)];exact h⟩⟩
def EB.nw(e:EB W B H)(n:H p=none):¬B p:=λh=>e.dm p h n
def EB.same(e:EB W B H)(s:aS8 H H'):Fw W H H':=⟨λb o _ h=>s b o h,λp hp=>by
 obtain⟨x,y,z,h⟩:=e.wo p hp;exact⟨x,y,z,s _ _ h⟩⟩
def Own.to(o:Own)(e:EB W B H)(f:Fw W H H')(n:∀b,S b->¬W b)(h:o.φ W B S H p):o.φ W B S H' p:=o.mono (e.keep f) (λb hb=>let⟨x,q,_⟩:=o.th h b hb;(f.fr b x (n b hb) q).trans q.symm) h
def Own.less(o:Own){S T:Addr->Prop}(h:o.φ W (λb=>B b∨T b) S H p):o.φ W B S H p:=o.mono (λ_ _ n h=>⟨λz=>n (.inl z),h⟩) (λ_ _=>rfl) h
def EE.to(e:EE W B H ρ σ)(f:Fw W H H'):EE W B H' ρ σ:=
 ⟨e.eb.to f,e.len,λi u h=>let⟨v,h1,h2⟩:=e.sh i u h;⟨v,h1,DU.mono (e.eb.keep f) u h2⟩,λi s o h hs=>let⟨p,S,h1,h2,h3⟩:=e.hd i s o h hs;⟨p,S,h1,h2,o.to e.eb f h2 h3⟩⟩
def Fw.none_(f:Fw W H H')(n1:H' p=none):H p=none:=by
 cases hp:H p with
 |none=>rfl
 |some o=>
  by_cases w:W p
  ·obtain⟨_,_,_,z⟩:=f.wo p w;rw[z]at n1;cases n1
  ·rw[f.fr p o w hp]at n1;cases n1
def RO.back{s:Sl}(f:Fw W H H')(h:RO W B H' H2 s v):RO W B H H2 s v:=by
 match s,h with
 |.sh u,h=>exact h
 |.ow l,⟨p,xs,e1,n1,h2,h3⟩=>exact⟨p,xs,e1,f.none_ n1,h2,h3⟩
 |.br l,h=>exact h
 |.oo o,⟨p,S,e1,n1,h⟩=>exact⟨p,S,e1,λb hb=>f.none_ (n1 b hb),h⟩
 |.bo o,h=>exact h
def DB.to{u:U}(h:DB W B H u v)(e:EB W B H)(f:Fw W H H'):DB W B H' u v:=by
 rcases h with h|⟨l,p,xs,e1,e2,w,h1,h2⟩
 ·exact .inl (DU.mono (e.keep f) u h)
 ·exact .inr ⟨l,p,xs,e1,e2,w,f.fr _ _ w h1,DUs.mono (e.keep f) l h2⟩
def DUs.less{l:List U}(h:DUs W (λb=>B b∨b=p) H l xs):DUs W B H l xs:=DUs.mono (λ_ _ n e=>⟨λz=>n (.inl z),e⟩) l h
def RO.db{s:Sl}(e:EB W B H)(h:RO W B H H' s v):DB W B H' s.rd v:=by
 match s,h with
 |.sh u,h=>exact .inl h
 |.ow l,⟨p,xs,e1,h1,h2,h3⟩=>exact .inl ⟨p,xs,e1,e.nw h1,h2,h3.less⟩
 |.br l,⟨p,xs,e1,h1,h2,h3⟩=>exact .inr ⟨l,p,xs,rfl,e1,h1,h2,h3⟩
 |.oo _,_=>exact .inl trivial
 |.bo _,_=>exact .inl trivial
def RO.du{s:Sl}{R:U->Prop}(e:EB W B H)(h:RO W B H H' s v)(r:s.es R):∃u,R u/\DU W B H' u v:=by
 match s,h,r with
 |.sh u,h,r=>exact⟨u,r,h⟩
 |.ow l,⟨p,xs,e1,h1,h2,h3⟩,r=>exact⟨.ls l,r,p,xs,e1,e.nw h1,h2,h3.less⟩
 |.oo o,⟨p,S,e1,h1,h2⟩,r=>exact⟨.op o.fz,r,p,S,e1,λb hb=>e.nw (h1 b hb),o.less h2⟩
def DB.int{i:Int}(h:DB W B H (.n i) y):y=.int i:=by
 rcases h with h|⟨l,p,xs,e1,_⟩
 ·exact h.1
 ·cases e1
def DB.fl{x y:V}(h:DB W B H (.v x) y):y=x/\lC x=true:=by
 rcases h with h|⟨l,p,xs,e1,_⟩
 ·exact h
 ·cases e1
def DB.tp{l:List U}(h:DB W B H (.tp l) y):∃p xs,y=.ref p/\¬B p/\H p=some (.tup xs)/\DUs W B H l xs:=by
 rcases h with h|⟨l,p,xs,e1,_⟩
 ·exact h
 ·cases e1
def DB.ob{us:List U}(h:DB W B H (.ob C ns us) y):∃p dx xs,y=.ref p/\¬B p/\H p=some (.ins C dx (ns.zip xs))/\ns.length=xs.length/\DUs W B H us xs:=by
 rcases h with h|⟨l,p,xs,e1,_⟩
 ·exact h
 ·cases e1
def DB.dk{us:List U}(h:DB W B H (.dk ns us) y):∃p xs,y=.ref p/\¬B p/\H p=some (.dK ((ns.map Cr).zip xs))/\ns.length=xs.length/\DUs W B H us xs:=by
 rcases h with h|⟨l,p,xs,e1,_⟩
 ·exact h
 ·cases e1
def DB.op{o:Opq}(h:DB W B H (.op o) y):o.φ W B H y:=by
 rcases h with h|⟨l,p,xs,e1,_⟩
 ·exact h
 ·cases e1
def DB.ls{l:List U}(e:EB W B H)(h:DB W B H (.ls l) y):∃p xs,y=.ref p/\¬W p/\H p=some (.lst xs)/\DUs W B H l xs:=by
 rcases h with ⟨p,xs,e1,nb,h1,h2⟩|⟨l,p,xs,e1,e2,w,h1,h2⟩
 ·exact⟨p,xs,e1,λw=>nb (e.wb p w),h1,h2⟩
 ·cases e1;exact⟨p,xs,e2,w,h1,h2⟩
end
abbrev TV:=EV->(Sl->Prop)->Prop
def VT(t:TE)(F:TV):Prop:=∀{W B:Addr->Prop}{ρ:EV}{σ:St}{H:Hp}{R:Sl->Prop}{Q:VK},EE W B H ρ σ->F ρ R->(∀s v H',R s->Fw W H H'->RO W B H H' s v->Q v H')->t σ H Q
def VE(X:Cx)(e:Bw)(F:TV):Prop:=∃t,PE X e t/\VT t F
abbrev TVc:=EV->(Bool->Prop)->Prop
def VTc(t:TT)(F:TVc):Prop:=∀{W B:Addr->Prop}{ρ:EV}{σ:St}{H:Hp}{R:Bool->Prop}{Q:Bool->Hp->Prop},EE W B H ρ σ->F ρ R->(∀c H',R c->Fw W H H'->Q c H')->t σ H Q
def VC(X:Cx)(e:Bw)(F:TVc):Prop:=∃t,PT X e t/\VTc t F
def VW(X:Cx)(e:Bw)(F:TVc):Prop:=∃t,PW X e t/\VTc t F
abbrev TVa:=EV->(List U->Prop)->Prop
def VTa(n:Nat)(t:TA)(F:TVa):Prop:=∀{W B:Addr->Prop}{ρ:EV}{σ:St}{H:Hp}{R:List U->Prop}{Q:List V->Hp->Prop},EE W B H ρ σ->F ρ R->(∀us vs H',R us->us.length=n->Fw W H H'->DUs W B H' us vs->Q vs H')->t σ H Q
def VA(X:Cx)(es:List Bw)(F:TVa):Prop:=∃t,PA X es t/\VTa es.length t F
def DBs(W B:Addr->Prop)(H:Hp):List U->List V->Prop
 | [],xs=>xs=[]
 |u::l,xs=>∃x r,xs=x::r/\DB W B H u x/\DBs W B H l r
def DBs.to{W B:Addr->Prop}{H H':Hp}(e:EB W B H)(f:Fw W H H'):∀{us:List U}{vs:List V},DBs W B H us vs->DBs W B H' us vs
 | [],_,h=>h
 |_::_,_,⟨x,r,e1,h,t⟩=>⟨x,r,e1,h.to e f,DBs.to e f t⟩
def VTb(t:TA)(F:TVa):Prop:=∀{W B:Addr->Prop}{ρ:EV}{σ:St}{H:Hp}{R:List U->Prop}{Q:List V->Hp->Prop},EE W B H ρ σ->F ρ R->(∀us vs H',R us->Fw W H H'->DBs W B H' us vs->Q vs H')->t σ H Q
def VB(X:Cx)(es:List Bw)(F:TVa):Prop:=∃t,PA X es t/\VTb t F
def O2(r:R2)(g:U->U->(Sl->Prop)->Prop):Prop:=∀{W B:Addr->Prop}{H:Hp}{u v:U}{x y:V}{R:Sl->Prop}{Q:VK},EB W B H->DB W B H u x->DB W B H v y->g u v R->(∀s z H',R s->Fw W H H'->RO W B H H' s z->Q z H')->r x y H Q
def CB(r:List V->Hp->VK->Prop)(g:List U->(Sl->Prop)->Prop):Prop:=∀{W B:Addr->Prop}{H:Hp}{us:List U}{vs:List V}{R:Sl->Prop}{Q:VK},EB W B H->DBs W B H us vs->g us R->(∀s z H',R s->Fw W H H'->RO W B H H' s z->Q z H')->r vs H Q
def aEk(i:Nat):TV:=λρ R=>match (ρ[i]? :Option Sl)with
 |some (.sh u)=>R (.sh u)
 |some (.ow l)=>R (.br l)
 |some (.br l)=>R (.br l)
 |some (.oo o)=>R (.bo o)
 |some (.bo o)=>R (.bo o)
 |_=>False
def vC(u:U):TV:=λ_ R=>R (.sh u)
def vOp(g:U->U->(Sl->Prop)->Prop)(a b:TV):TV:=λρ R=>a ρ λs=>b ρ λs'=>g s.rd s'.rd R
def nM(F:TV):TVc:=λρ R=>F ρ λs=>match s.rd with
 |.v (.bl c)=>R c
 |_=>False
def aXz(a b:TVc):TVc:=λρ R=>a ρ λc=>(c=true->b ρ R)/\(c=false->R false)
def vOr(a b:TVc):TVc:=λρ R=>a ρ λc=>(c=true->R true)/\(c=false->b ρ R)
def aYh(a:TVc):TVc:=λρ R=>a ρ λc=>R (!c)
def aEj:TVa:=λ_ R=>R []
def yS(a:TV)(b:TVa):TVa:=λρ R=>a ρ λs=>s.es λu=>b ρ λus=>R (u::us)
def aSx(a:TV)(b:TVa):TVa:=λρ R=>a ρ λs=>b ρ λus=>R (s.rd::us)
def aVe(a:TVa):TV:=λρ R=>a ρ λus=>R (.sh (.tp us))
def aYc(a:TVa):TV:=λρ R=>a ρ λus=>R (.ow us)
def aX1(F:List U->(Sl->Prop)->Prop)(a:TVa):TV:=λρ R=>a ρ λus=>F us R
inductive aV6(F:List U->(Sl->Prop)->Prop)(vs:List V)(H:Hp)(Q:VK)(z3_:XK):Prop
 |mk (W B us R:_) (q0_:EB W B H) (q1_:DUs W B H us vs) (q2_:F us R) (q3_:∀s v H',R s->Fw W H H'->RO W B H H' s v->Q v H'):aV6 F vs H Q z3_
def spV(F:List U->(Sl->Prop)->Prop):Sp:=λvs H Q z3_=>aV6 F vs H Q z3_
def aB(i:Nat){x:Str}(hN:X.N[i]? =some x:=by rfl)(hv:Vis X.env.scope x:=by trivial)(hd:ND x:=by decide)
  (hcd:NC x:=by decide):VE X (.Name x pos) (aEk i):=⟨_,fK hN hv hd hcd,λ{W B ρ σ H R Q} e h q=>by
 unfold aEk at h;split at h
 ·rename_i u hu;obtain⟨v,h1,h2⟩:=e.sh i u hu;exact⟨v,h1,q _ _ _ h e.eb.refl h2⟩
 ·rename_i l hu;obtain⟨p,xs,h1,h2,h3,h4⟩:=e.ow i l (.inl hu);exact⟨_,h1,q _ _ _ h e.eb.refl ⟨p,xs,rfl,h2,h3,h4⟩⟩
 ·rename_i l hu;obtain⟨p,xs,h1,h2,h3,h4⟩:=e.ow i l (.inr hu);exact⟨_,h1,q _ _ _ h e.eb.refl ⟨p,xs,rfl,h2,h3,h4⟩⟩
 ·rename_i o hu;obtain⟨p,S,h1,h2,h3⟩:=e.hd i _ o hu rfl;exact⟨_,h1,q _ _ _ h e.eb.refl ⟨p,S,rfl,h2,h3⟩⟩
 ·rename_i o hu;obtain⟨p,S,h1,h2,h3⟩:=e.hd i _ o hu rfl;exact⟨_,h1,q _ _ _ h e.eb.refl ⟨p,S,rfl,h2,h3⟩⟩
 ·exact h.elim⟩
def aPa{x:V}(f:lC x=true):VT (tC x) (vC (.v x)):=λe h q=>q _ _ _ h e.eb.refl ⟨rfl,f⟩
def aC{i j pos}:VE X (.Constant (.int i) j pos) (vC (.n i)):=⟨_,cU,aPa rfl⟩
def aN{x j pos}:VE X (.Constant (.str x) j pos) (vC (.s x)):=⟨_,jD,aPa rfl⟩
def oV{b j pos}:VE X (.Constant (.bool b) j pos) (vC (.b b)):=⟨_,aW0,aPa rfl⟩
def iC{j pos}:VE X (.Constant .none j pos) (vC .no):=⟨_,aUd,aPa rfl⟩
def aI7{r:R2}{g:U->U->(Sl->Prop)->Prop}{ta tb:TE}{F G:TV}(o:O2 r g)(ha:VT ta F)(hb:VT tb G):VT (tOp r ta tb) (vOp g F G):=λe h q=>by
 refine ha e h λs v H1 h1 f1 r1=>?_;have e1:=e.to f1;refine hb e1 h1 λs' v' H2 h2 f2 r2=>?_;refine o (e1.to f2).eb ((r1.db e.eb).to e1.eb f2) (r2.db e1.eb) h2 λs3 z H3 h3 f3 r3=>?_;exact q _ _ _ h3 ((f1.trans f2).trans f3) (r3.back (f1.trans f2))
def bB{op:Operator}{r:R2}{g:U->U->(Sl->Prop)->Prop}{a b:Bw}{F G:TV}(ho:OpR X (Gs op) r)(o:O2 r g)(ha:VE X a F)(hb:VE X b G):VE X (.BinOp a op b pos) (vOp g F G):=
 let⟨_,p,f⟩:=ha;let⟨_,p',f'⟩:=hb;⟨_,gP ho p p',aI7 o f f'⟩
def bQ{r:R2}{g:U->U->(Sl->Prop)->Prop}{a b:Bw}{F G:TV}(ho:IxR X r)(o:O2 r g)(ha:VE X a F)(hb:VE X b G)(hs:aH2 b:=by exactλ_ _=>rfl):VE X (.Subscript a b pos) (vOp g F G):=
 let⟨_,p,f⟩:=ha;let⟨_,p',f'⟩:=hb;⟨_,yN ho p p' hs,aI7 o f f'⟩
def qG{op:Ss}{r:R2}{g:U->U->(Sl->Prop)->Prop}{a b:Bw}{F G:TV}(ho:OpR X (Ed op) r)(o:O2 r g)(ha:VE X a F)(hb:VE X b G)(hm:Gu op b=false:=by first|exact aDz _|rfl):VE X (.Compare a [op] [b] pos) (vOp g F G):=
 let⟨_,p,f⟩:=ha;let⟨_,p',f'⟩:=hb;⟨_,aQe ho p p' hm,aI7 o f f'⟩
def zV{F:TV}(h:VT t F):VTc (aOn t) (nM F):=λe h1 q=>h e h1 λs v H1 h2 f r=>by
 have d:=r.db e.eb;revert h2 d;generalize s.rd=u;intro h2 d;split at h2
 ·exact⟨_,d.fl.1,q _ _ h2 f⟩
 ·exact h2.elim
def bA{op:Ss}{r:R2}{g:U->U->(Sl->Prop)->Prop}{a b:Bw}{F G:TV}(ho:OpR X (Ed op) r)(o:O2 r g)(ha:VE X a F)(hb:VE X b G)(hm:Gu op b=false:=by first|exact aDz _|rfl):VC X (.Compare a [op] [b] pos) (nM (vOp g F G)):=
 let⟨_,p,f⟩:=ha;let⟨_,p',f'⟩:=hb;⟨_,aD8 ho p p' hm,zV (aI7 o f f')⟩
def dD{a:Bw}{F:TV}(ha:VE X a F)(he:∀whole,Wp a X.env whole=(do let v<-whole;Lr a.pos;holding [v] (truthy v)):=by intro _;rfl):VC X a (nM F):=
 let⟨_,p,f⟩:=ha;⟨_,aUk p he,zV f⟩
def dW{a:Bw}{F:TVc}(ha:VC X a F):VC X (.UnaryOp .Not a pos) (aYh F):=let⟨_,p,f⟩:=ha;⟨_,aUj p,λe h q=>f e h λc H1 h1 f1=>q _ _ h1 f1⟩
def jW{a:Bw}{F:TVc}(ha:VW X a F):VC X a F:=let⟨_,p,f⟩:=ha;⟨_,p.pt,f⟩
def aI8{a:Bw}{F:TVc}(ha:VC X a F):VW X (.BoolOp .And [a] pos) F:=let⟨_,p,f⟩:=ha;⟨_,aQn p,f⟩
def iD{a:Bw}{F:TVc}(ha:VC X a F):VW X (.BoolOp .Or [a] pos) F:=let⟨_,p,f⟩:=ha;⟨_,aUm p,f⟩
def aPc{a b:Bw}{rest:List Bw}{F G:TVc}(ha:VC X a F)(hb:VW X (.BoolOp .And (b::rest) pos) G):VW X (.BoolOp .And (a::b::rest) pos) (aXz F G):=
 let⟨_,p,f⟩:=ha;let⟨_,p',f'⟩:=hb;⟨_,aUl p p',λe h q=>f e h λc H1 h1 f1=>by
  cases c with
  |true=>exact aAq (f' (e.to f1) (h1.1 rfl) λc H2 h2 f2=>q _ _ h2 (f1.trans f2))
  |false=>exact yX (q _ _ (h1.2 rfl) f1)⟩
def mQ{a b:Bw}{rest:List Bw}{F G:TVc}(ha:VC X a F)(hb:VW X (.BoolOp .Or (b::rest) pos) G):VW X (.BoolOp .Or (a::b::rest) pos) (vOr F G):=
 let⟨_,p,f⟩:=ha;let⟨_,p',f'⟩:=hb;⟨_,aW5 p p',λe h q=>f e h λc H1 h1 f1=>by
  cases c with
  |true=>exact aAq (q _ _ (h1.1 rfl) f1)
  |false=>exact yX (f' (e.to f1) (h1.2 rfl) λc H2 h2 f2=>q _ _ h2 (f1.trans f2))⟩
def vB(F:TVc):TV:=λρ R=>F ρ λc=>R (.sh (.b c))
def aO9{F:TV}{ρ:EV}{σ:St}{W B:Addr->Prop}{H:Hp}(f:VT t F)(e:EE W B H ρ σ)(h:nM F ρ R)(q:∀c H1,R c->Fw W H H1->Q (.bl c) H1):t σ H Q:=f e h λs v H1 h1 f1 r=>by
 have d:=r.db e.eb;revert h1 d;generalize s.rd=u;intro h2 d;split at h2
 ·rw[d.fl.1];exact q _ _ h2 f1
 ·exact h2.elim
def uJ{a b:Bw}{rest:List Bw}{F G:TV}(ha:VE X a F)(hb:VE X (.BoolOp .And (b::rest) pos) G):VE X (.BoolOp .And (a::b::rest) pos) (vB (aXz (nM F) (nM G))):=
 let⟨ta,p,f⟩:=ha;let⟨_,p',f'⟩:=hb;⟨_,aT9 p p',λe h q=>show ta _ _ _ from aO9 f e h λc H1 h1 f1=>by
  refine⟨c,rfl,?_⟩;cases c with
  |true=>exact aAq (aO9 f' (e.to f1) (h1.1 rfl) λc H2 h2 f2=>q _ _ _ h2 (f1.trans f2) ⟨rfl,rfl⟩)
  |false=>exact yX (q _ _ _ (h1.2 rfl) f1 ⟨rfl,rfl⟩)⟩
def aYl{a b:Bw}{rest:List Bw}{F G:TV}(ha:VE X a F)(hb:VE X (.BoolOp .Or (b::rest) pos) G):VE X (.BoolOp .Or (a::b::rest) pos) (vB (vOr (nM F) (nM G))):=
 let⟨ta,p,f⟩:=ha;let⟨_,p',f'⟩:=hb;⟨_,aW2 p p',λe h q=>show ta _ _ _ from aO9 f e h λc H1 h1 f1=>by
  refine⟨c,rfl,?_⟩;cases c with
  |true=>exact aAq (q _ _ _ (h1.1 rfl) f1 ⟨rfl,rfl⟩)
  |false=>exact yX (aO9 f' (e.to f1) (h1.2 rfl) λc H2 h2 f2=>q _ _ _ h2 (f1.trans f2) ⟨rfl,rfl⟩)⟩
def aO2{a:Bw}{F:TV}(ha:VE X a F):VE X (.UnaryOp .Not a pos) (vB (aYh (nM F))):=
 let⟨ta,p,f⟩:=ha;⟨_,aUe p,λe h q=>show ta _ _ _ from aO9 f e h λc H1 h1 f1=>⟨c,rfl,q _ _ _ h1 f1 ⟨rfl,rfl⟩⟩⟩
def aD:VA X [] aEj:=⟨_,dN,λe h q=>q _ _ _ h rfl e.eb.refl rfl⟩
def aA{a:Bw}{es:List Bw}{F:TV}{G:TVa}(ha:VE X a F)(hb:VA X es G)(hs:SE X a es:=by rfl):VA X (a::es) (yS F G):=
 let⟨_,p,f⟩:=ha;let⟨_,p',f'⟩:=hb;⟨_,bK p p' hs,λe h q=>f e h λs v H1 h1 f1 r1=>by
  obtain⟨u,h1,d⟩:=r1.du e.eb h1;exact f' (e.to f1) h1 λus vs H2 h2 l2 f2 d2=>q _ _ _ h2 (by rw[Aq,l2];rfl) (f1.trans f2) ⟨v,vs,rfl,DU.mono ((e.to f1).eb.keep f2) u d,d2⟩⟩
def aX:VB X [] aEj:=⟨_,dN,λe h q=>q _ _ _ h e.eb.refl rfl⟩
def aO{a:Bw}{es:List Bw}{F:TV}{G:TVa}(ha:VE X a F)(hb:VB X es G)(hs:SE X a es:=by rfl):VB X (a::es) (aSx F G):=
 let⟨_,p,f⟩:=ha;let⟨_,p',f'⟩:=hb;⟨_,bK p p' hs,λe h q=>f e h λs v H1 h1 f1 r1=>
  f' (e.to f1) h1 λus vs H2 h2 f2 d2=>q _ _ _ h2 (f1.trans f2) ⟨v,vs,rfl,(r1.db e.eb).to (e.to f1).eb f2,d2⟩⟩
def aY{es:List Bw}{x1}{F:TVa}(h:VA X es F)(hl:es.length<=100:=by decide):VE X (.Tuple es x1 pos) (aVe F):=
 let⟨_,p,f⟩:=h;⟨_,aNt p,λe h q=>f e h λus vs H1 h1 l1 f1 d=>⟨by
  have:=d.length;have:(100:Nat)<=sizeLine:=by decide
  lia,λp n=>by
  have e1:=(e.to f1).eb;have f2:=e1.new (o:=.tup vs) n;exact q _ _ _ h1 (f1.trans f2) ⟨p,vs,rfl,e1.nw n,aM,DUs.mono (e1.keep f2) us d⟩⟩⟩
def bR{es:List Bw}{F:TVa}(h:VA X es F)(hl:es.length<=100:=by decide):VE X (.List es pos) (aYc F):=
 let⟨_,p,f⟩:=h;⟨_,aUc p,λ{W B ρ σ H R Q} e h q=>f e h λus vs H1 h1 l1 f1 d=>⟨by
  have:=d.length;have:(100:Nat)<=sizeLine:=by decide
  lia,λp n=>by
  have e1:=(e.to f1).eb;have f2:=e1.new (o:=.lst vs) n;exact q _ _ _ h1 (f1.trans f2) (RO.back (s:=.ow us) f1 ⟨p,vs,rfl,n,aM,DUs.mono (λb o nb h=>⟨λz=>z.elim nb (aR h n),(e1.keep f2 b o nb h).2⟩) us d⟩)⟩⟩
def aK{x:Str}{F:List U->(Sl->Prop)->Prop}{a:Bw}{es:List Bw}{G:TVa}{p pos:Pos}(C:Cal X.prog X.w X.K X.mg X.base CX0 k x ps (spV F))(hr:cO k X.A)(hg:Gl X x)
  (ha:VA X (a::es) G) (hdb:ND x:=by decide) (he:SE X a es:=by rfl) (hpl:BT X pos es:=by rfl):
  VE X (.Call (.Name x p) (a::es) [] pos) (aX1 F G):=
 let⟨_,p,f⟩:=ha;⟨_,aNm C hr hg yM p hdb he hpl,λe h q=>f e h λus vs H1 h1 l1 f1 d=>by
  refine⟨_,_,us,_,(e.to f1).eb,(by rw[Bs];exact d),h1,λs v H2 h2 f2 r2=>q _ _ _ h2 (f1.trans f2) (r2.back f1)⟩⟩
structure Cfl(K:Ab)(C:Addr)(fs:List Str):Prop where
 cl:Cls K C
 na:∀f∈fs,lU K C f
def wO(f:Str):List Str->List U->(Sl->Prop)->Prop
 |n::ns,u::us,R=>(n=f/\R (.sh u))∨(n≠f/\wO f ns us R)
 |_,_,_=>False
theorem aDr{W B:Addr->Prop}{H:Hp}{f:Str}{R:Sl->Prop}:∀{ns:List Str}{us:List U}{xs:List V},DUs W B H us xs->wO f ns us R->∃u v,R (.sh u)/\DU W B H u v/\(ns.zip xs).lookup f=some v
 |_::_,u::us,_,⟨x,r,e,h,t⟩,q=>by
  subst e;rcases q with ⟨rfl,q⟩|⟨n,q⟩
  ·exact⟨u,x,q,h,by simp[Bi]⟩
  ·obtain⟨u',v,h1,h2,h3⟩:=aDr t q;refine⟨u',v,h1,h2,?_⟩;rw[Hz,Bi,show(f==_)=false from beq_eq_false_iff_ne.mpr (Ci n)];exact h3
def vFl(C:Addr)(a:TV)(f:Str):TV:=λρ R=>a ρ λs=>match s.rd with
 |.ob C' ns us=>C'=C/\wO f ns us R
 |_=>False
def fP{fs:List Str}{a:Bw}{F:TV}(c:Cfl X.K C fs)(ha:VE X a F)(hf:f∈fs:=by decide)(hb:Eh a f X.env (eval a X.env)=eval a X.env:=by rfl):VE X (.Attribute a f pos) (vFl C F f):=
 let⟨_,p,g⟩:=ha;⟨_,aNr p hb,λe h q=>g e h λs v H1 h1 f1 r1=>by
  have d:=r1.db e.eb;revert h1 d;generalize s.rd=u;intro h1 d;split at h1
  ·obtain⟨rfl,h1⟩:=h1;obtain⟨p,dx,xs,rfl,_,hp,hl,ds⟩:=d.ob;obtain⟨u,v,h2,h3,h4⟩:=aDr ds h1;exact⟨p,_,dx,_,v,rfl,hp,c.cl,c.na f hf,h4,q _ _ _ h2 f1 h3⟩
  ·exact h1.elim⟩
def mOb(Cs:Addr->Prop)(m:Str)(F:Addr->List U->(Sl->Prop)->Prop)(G:TVa)(ρ:EV)(R:Sl->Prop):U->Prop
 |.ob C ns us=>Cs C/\ns.elem m=false/\G ρ λvs=>F C (.ob C ns us::vs) R
 |_=>False
def aYf(Cs:Addr->Prop)(m:Str)(F:Addr->List U->(Sl->Prop)->Prop)(a:TV)(G:TVa):TV:=λρ R=>a ρ λs=>s.es (mOb Cs m F G ρ R)
theorem aPf{m:Str}:∀{ns:List Str}{xs:List V},ns.elem m=false->(ns.zip xs).lookup m=none
 | [],_,_=>by simp
 |_::_,[],_=>by simp
 |n::ns,x::xs,h=>by
  simp only[List.elem_cons]at h;rw[Hz,Bi];cases e:m==n with
  |true=>rw[e]at h;cases h
  |false=>
   rw[e]at h;exact aPf h
def cL{Cs:Addr->Prop}{m:Str}{F:Addr->List U->(Sl->Prop)->Prop}{o:Bw}{apos pos:Pos}{Fo:TV}{pl:Sem Bool}(ho:VE X o Fo)(D:Dis X.prog X.w X.K X.mg X.base CX0 k Cs m ps λC=>spV (F C))(hr:cO k X.A)
  (ht:eval (.Call (.Attribute o m apos) [] [] pos) X.env=(do
   let ov<-eval o X.env
   Lr apos.atName
   let(f,first)<-holding [ov] (Nd ov m pl)
   Wr pos f first (Ju pos (Bc [] X.env)) (Gh pos (Do [] X.env))):=by rfl):
  VE X (.Call (.Attribute o m apos) [] [] pos) (aYf Cs m F Fo aEj):=
 let⟨_,p,g⟩:=ho;⟨_,aKn p D hr yM ht,λe h q=>g e h λs v H1 h1 f1 r1=>by
  obtain⟨u,h1,d⟩:=r1.du e.eb h1;match u,h1,d with
  |.ob C ns us,⟨hC,hm,h1⟩,d=>
   obtain⟨p,dx,xs,rfl,nb,hp,hl,ds⟩:=id d;exact⟨p,C,dx,_,rfl,hp,hC,aPf hm,_,_,[.ob C ns us],_,(e.to f1).eb,⟨_,_,rfl,d,rfl⟩,h1,λs v H3 h3 f3 r3=>q _ _ _ h3 (f1.trans f3) (r3.back f1)⟩⟩
def gI(f:Int->Int->V):U->U->(Sl->Prop)->Prop
 |.v (.int i),.v (.int j),R=>R (.sh (.v (f i j)))
 |_,_,_=>False
def gIC(C:Int->Int->Prop)(f:Int->Int->V):U->U->(Sl->Prop)->Prop
 |.v (.int i),.v (.int j),R=>C i j/\R (.sh (.v (f i j)))
 |_,_,_=>False
def dC{f:Int->Int->V}(hf:∀i j,lC (f i j)=true:=by intros;rfl):O2 (rI0 f) (gI f):=λ{W B H u v x y R Q} e d1 d2 h q=>by
 unfold gI at h;split at h
 ·rename_i i j;exact⟨i,j,d1.int,d2.int,q _ _ _ h e.refl ⟨rfl,hf i j⟩⟩
 ·exact h.elim
def jR{C:Int->Int->Prop}{f:Int->Int->V}(hf:∀i j,lC (f i j)=true:=by intros;rfl):O2 (rI C f) (gIC C f):=λ{W B H u v x y R Q} e d1 d2 h q=>by
 unfold gIC at h;split at h
 ·rename_i i j;exact⟨i,j,d1.int,d2.int,h.1,q _ _ _ h.2 e.refl ⟨rfl,hf i j⟩⟩
 ·exact h.elim
def aPi{α β:Type}{xs:List α}{ys:List β}{i:Int}{x:α}(e:xs.length=ys.length)(h:atI xs i=some x):∃(j:Nat)(y:β),xs[j]? =some x/\ys[j]? =some y/\atI ys i=some y:=by
 unfold atI at h⊢;rw[<-e];cases q:ixN xs.length i with
 |none=>rw[q]at h;cases h
 |some j=>
  rw[q]at h;have h':xs[j]? =some x:=h;have hj:=(Ax.mp h').1;exact⟨j,_,h',Ak (by rw[<-e];exact hj),Ak (by rw[<-e];exact hj)⟩
def DUs.atI{W B:Addr->Prop}{H:Hp}{l:List U}{i:Int}{u:U}(d:DUs W B H l xs)(h:atI l i=some u):∃x,L2.atI xs i=some x/\DU W B H u x:=by
 obtain⟨j,x,h1,h2,h3⟩:=aPi d.length h;obtain⟨y,h4,h5⟩:=d.get h1;rw[h2]at h4;cases h4;exact⟨x,h3,h5⟩
def aWj:U->U->(Sl->Prop)->Prop
 |.ls l,.v (.int i),R=>∃u,atI l i=some u/\R (.sh u)
 |_,_,_=>False
def aWk:U->U->(Sl->Prop)->Prop
 |.tp l,.v (.int i),R=>∃u,atI l i=some u/\R (.sh u)
 |_,_,_=>False
def aT1{K:Ab}:O2 (aUp K) aWj:=λ{W B H u v x y R Q} e d1 d2 h q=>by
 unfold aWj at h;split at h
 ·obtain⟨w,h1,h2⟩:=h;obtain⟨p,xs,rfl,_,hp,ds⟩:=d1.ls e;obtain⟨z,h3,h4⟩:=ds.atI h1;exact⟨p,xs,_,z,rfl,d2.int,SqL.of hp,h3,q _ _ _ h2 e.refl h4⟩
 ·exact h.elim
def aT2{K:Ab}:O2 (aUq K) aWk:=λ{W B H u v x y R Q} e d1 d2 h q=>by
 unfold aWk at h;split at h
 ·obtain⟨w,h1,h2⟩:=h;obtain⟨p,xs,rfl,_,hp,ds⟩:=d1.tp;obtain⟨z,h3,h4⟩:=ds.atI h1;exact⟨p,xs,_,z,rfl,d2.int,SqT.of hp,h3,q _ _ _ h2 e.refl h4⟩
 ·exact h.elim
mutual
def U.d:U->D
 |.v x=> .fl x
 |.tp l=> .tp (U.ds l)
 |.ls l=> .ls (U.ds l)
 |_=> .fl .non
def U.ds:List U->List D
 | []=>[]
 |u::l=>U.d u::U.ds l
end
mutual
def U.dt:Nat->U->Prop
 |_,.v _=>True
 |n+1,.tp l=>U.dts n l
 |n+1,.ls l=>U.dts n l
 |_,_=>False
def U.dts:Nat->List U->Prop
 |_,[]=>True
 |n,u::l=>U.dt n u/\U.dts n l
end
section
variable {W B:Addr->Prop}{H:Hp}{K:Ab}
mutual
theorem DU.den:∀(n:Nat)(u:U){v:V},u.dt n->DU W B H u v->Den K H u.d v
 |_,.v _,_,_,h=>h
 |n+1,.tp l,_,t,⟨p,xs,e,_,hp,ds⟩=>⟨p,xs,e,SqT.of hp,DUs.dens n l t ds⟩
 |n+1,.ls l,_,t,⟨p,xs,e,_,hp,ds⟩=>⟨p,xs,e,SqL.of hp,DUs.dens n l t ds⟩
theorem DUs.dens:∀(n:Nat)(l:List U){xs:List V},U.dts n l->DUs W B H l xs->wI K H (U.ds l) xs
 |_,[],_,_,h=>h
 |n,u::l,_,⟨t,t'⟩,⟨x,r,e,h,h'⟩=>⟨x,r,e,DU.den n u t h,DUs.dens n l t' h'⟩
end
mutual
theorem U.dep:∀(n:Nat)(u:U),u.dt n->u.d.dep<=n
 |_,.v _,_=>Bt _
 |n+1,.tp l,t=>Hq (U.deps n l t)
 |n+1,.ls l,t=>Hq (U.deps n l t)
theorem U.deps:∀(n:Nat)(l:List U),U.dts n l->D.deps (U.ds l)<=n
 |_,[],_=>Bt _
 |n,u::l,⟨t,t'⟩=>Nat.max_le.mpr ⟨U.dep n u t,U.deps n l t'⟩
end
def DB.den{n:Nat}{u:U}(t:u.dt n)(h:DB W B H u v):Den K H u.d v:=by
 rcases h with h|⟨l,p,xs,rfl,rfl,w,h1,h2⟩
 ·exact DU.den n u t h
 ·match n,t with
  |n+1,t=>exact⟨p,xs,rfl,SqL.of h1,DUs.dens n l t h2⟩
end
def U.eq(u v:U):Bool:=u.d.eq v.d
def gEq(neg:Bool):U->U->(Sl->Prop)->Prop:=λu v R=>u.dt 40/\v.dt 40/\R (.sh (.b (if neg then !u.eq v else u.eq v)))
def bN{K:Ab}{neg:Bool}:O2 (aUn K neg) (gEq neg):=λ{W B H u v x y R Q} e d1 d2 ⟨t1,t2,h⟩ q=>by
 have h1:=U.dep 40 u t1;have h2:=U.dep 40 v t2;exact⟨u.d,v.d,d1.den t1,d2.den t2,∅,q _ _ _ h e.refl ⟨rfl,rfl⟩⟩
structure lW where
 nx:EV->Prop
 rt:Sl->Prop
 bk:EV->Prop:=λ_=>False
 ct:EV->Prop:=λ_=>False
 mr:EV->U->Prop:=λ_ _=>False
abbrev TVS:=lW->EV->Prop
def Bx(B:Addr->Prop)(A:Nat->Addr->Prop)(p:Addr):Prop:=B p∨∃i,A i p
def Sl.brd:Sl->Bool
 |.br _=>true
 |.bo _=>true
 |_=>false
structure EO(W B:Addr->Prop)(H0:Hp)(A:Nat->Addr->Prop)(ρ:EV)(σ:St)(H:Hp):Prop where
 eb:EB W B H0
 fw:Fw W H0 H
 len:ρ.length=σ.length
 an:∀i p,A i p->H0 p=none
 aw:∀i p,A i p->∃o,H p=some o/\Mt o
 inj:∀i j p,A i p->A j p->i=j
 sh:∀(i:Nat)(u:U),ρ[i]? =some (Sl.sh u)->∃v,σ[i]? =some (some v)/\DU W (Bx B A) H u v
 hd:∀(i:Nat)(s:Sl)(w:Own),ρ[i]? =some s->s.hold=some w->∃p,σ[i]? =some (some (V.ref p))/\w.φ W (Bx B A) (A i) H p
 nb:∀(i:Nat)(s:Sl),ρ[i]? =some s->s.brd=false
def EO.ow{W B:Addr->Prop}{H0 H:Hp}{A:Nat->Addr->Prop}{ρ:EV}{σ:St}(o:EO W B H0 A ρ σ H)(i:Nat)(l:List U)(h:ρ[i]? =some (Sl.ow l)):∃p xs,σ[i]? =some (some (V.ref p))/\(∀b,A i b↔b=p)/\H p=some (.lst xs)/\DUs W (Bx B A) H l xs:=let⟨p,h1,h2,xs,h3⟩:=o.hd i _ _ h rfl;⟨p,xs,h1,h2,h3⟩
structure aK8(W B:Addr->Prop)(H0:Hp)(E:lW)(D:Ends):Prop where
 nx:∀{A ρ σ H},EO W B H0 A ρ σ H->E.nx ρ->D.nx σ H
 bk:∀{A ρ σ H},EO W B H0 A ρ σ H->E.bk ρ->D.bk σ H
 ct:∀{A ρ σ H},EO W B H0 A ρ σ H->E.ct ρ->D.ct σ H
 rt:∀{s v H},Fw W H0 H->RO W B H0 H s v->E.rt s->D.rt v H
 mr:∀{A ρ σ H u v},EO W B H0 A ρ σ H->DU W (Bx B A) H u v->E.mr ρ u->D.rt v H
def VTs(t:TS)(G:TVS):Prop:=∀{W B:Addr->Prop}{H0:Hp}{A:Nat->Addr->Prop}{ρ:EV}{σ:St}{H:Hp}{E:lW}{D:Ends},EO W B H0 A ρ σ H->G E ρ->aK8 W B H0 E D->t D σ H
def VS(X:Cx)(st:Stmt)(G:TVS):Prop:=∃t,PS X st t/\VTs t G
def VSs(X:Cx)(st:List Stmt)(G:TVS):Prop:=∃t,PSs X st t/\VTs t G
section
variable {W B:Addr->Prop}{H0 H H1:Hp}{A:Nat->Addr->Prop}{ρ:EV}{σ:St}
def EO.now(o:EO W B H0 A ρ σ H)(h:H0 p=none):¬B p:=λz=>o.eb.dm p z h
def EO.awn(o:EO W B H0 A ρ σ H)(h:A i p):H p≠none:=λn=>by
 obtain⟨xs,q,_⟩:=o.aw i p h;rw[q]at n;cases n
def EO.nw(o:EO W B H0 A ρ σ H)(h:A i p):¬W p:=λz=>o.now (o.an i p h) (o.eb.wb p z)
def EO.ee(o:EO W B H0 A ρ σ H):EE W (Bx B A) H ρ σ:=
 ⟨⟨λp h=>h.elim ((o.eb.to o.fw).bl p) λ⟨i,h⟩=>o.aw i p h,λp w=> .inl (o.eb.wb p w),o.fw.wo⟩,o.len,o.sh,λi s w h hs=>let⟨p,h1,h3⟩:=o.hd i s w h hs;⟨p,_,h1,λ_=>o.nw,h3⟩⟩
def EO.to(o:EO W B H0 A ρ σ H)(f:Fw W H H1):EO W B H0 A ρ σ H1:=by
 have e:=o.ee;have e1:=e.to f;refine⟨o.eb,o.fw.trans f,o.len,o.an,λi p h=>e1.eb.bl p (.inr ⟨i,h⟩),o.inj,e1.sh,λi s w h hs=>?_,o.nb⟩;obtain⟨p,h1,h3⟩:=o.hd i s w h hs;exact⟨p,h1,w.to e.eb f (λ_=>o.nw) h3⟩
def bI{α:Type}{l:List α}{i j:Nat}{x y:α}(h:(l.set i x)[j]? =some y):(j=i/\y=x/\i<l.length)∨(j≠i/\l[j]? =some y):=by
 rw[Kt]at h;split at h
 ·rename_i e;split at h
  ·cases h;exact .inl ⟨e.symm,rfl,by assumption⟩
  ·cases h
 ·rename_i e;exact .inr ⟨λz=>e z.symm,h⟩
def get_set{α:Type}{l:List α}{x:α}(h:i<l.length):(l.set i x)[i]? =some x:=by rw[Kt];simp[h]
def cT{α:Type}{l:List α}{i j:Nat}{x:α}(h:j≠i):(l.set i x)[j]? =l[j]? :=by rw[Kt,if_neg (Ci h)]
def EO.kp:∀b o,¬Bx B A b->H b=some o->¬Bx B (λj q=>j≠i/\A j q) b/\H b=some o:=λb o n h=>⟨λz=>n (z.elim .inl λ⟨j,h⟩=> .inr ⟨j,h.2⟩),h⟩
def Own.at_(w:Own){S T:Addr->Prop}(h:w.φ W B S H p)(e:∀b,T b↔S b):w.φ W B T H p:=by
 rw[show T=S from funext λb=>propext (e b)];exact h
def aDy{i j:Nat}(n:j≠i):∀b,(j≠i/\A j b)↔A j b:=λ_=>⟨λh=>h.2,λh=>⟨n,h⟩⟩
def EO.setSh(o:EO W B H0 A ρ σ H){u:U}(d:DU W (Bx B A) H u v):EO W B H0 (λj q=>j≠i/\A j q) (ρ.set i (.sh u)) (σ.set i (some v)) H:=by
 refine⟨o.eb,o.fw,by rw[Bm,Bm,o.len],λj p h=>o.an j p h.2,λj p h=>o.aw j p h.2,λj j' p h h'=>o.inj j j' p h.2 h'.2,λj u' h=>?_,λj s w h hs=>?_,λj s h=>?_⟩
 ·rcases bI h with ⟨rfl,e,hl⟩|⟨ne,h⟩
  ·cases e;exact⟨v,get_set (o.len▸hl),DU.mono EO.kp u d⟩
  ·obtain⟨v',h1,h2⟩:=o.sh j u' h;exact⟨v',by rw[cT ne];exact h1,DU.mono EO.kp u' h2⟩
 ·rcases bI h with ⟨rfl,rfl,hl⟩|⟨ne,h⟩
  ·cases hs
  ·obtain⟨p,h1,h3⟩:=o.hd j s w h hs;exact⟨p,by rw[cT ne];exact h1,w.at_ (w.mono EO.kp (λ_ _=>rfl) h3) (aDy ne)⟩
 ·rcases bI h with ⟨rfl,rfl,hl⟩|⟨ne,h⟩
  ·rfl
  ·exact o.nb j s h
def EO.setOo(o:EO W B H0 A ρ σ H)(f:Fw W H H1){s:Sl}{w:Own}(hs:s.hold=some w)(hb:s.brd=false)(n:∀b,S b->H b=none)(d:w.φ W (λb=>Bx B A b∨S b) S H1 p):
  EO W B H0 (λj q=>(j=i/\S q)∨(j≠i/\A j q)) (ρ.set i s) (σ.set i (some (.ref p))) H1:=by
 have o1:=o.to f;have k0:∀b o,¬(Bx B A b∨S b)->H1 b=some o->¬Bx B (λj q=>(j=i/\S q)∨(j≠i/\A j q)) b/\H1 b=some o:=λb o n h=>⟨λz=>n (z.elim (λz=> .inl (.inl z)) λ⟨j,h⟩=>h.elim (λz=> .inr z.2) λz=> .inl (.inr ⟨j,z.2⟩)),h⟩;have k:∀b o,¬Bx B A b->H b=some o->¬Bx B (λj q=>(j=i/\S q)∨(j≠i/\A j q)) b/\H1 b=some o:=λb x nb h=>k0 b x (λz=>z.elim nb λz=>by rw[n b z]at h;cases h) (o.ee.eb.keep f b x nb h).2;refine⟨o.eb,o1.fw,by rw[Bm,Bm,o.len],λj q h=>?_,λj q h=>?_,λj j' q h h'=>?_,λj u' h=>?_,λj s' w' h hs'=>?_,λj s' h=>?_⟩
 ·rcases h with ⟨_,h⟩|⟨_,h⟩
  ·exact o.fw.none_ (n q h)
  ·exact o.an j q h
 ·rcases h with ⟨_,h⟩|⟨_,h⟩
  ·exact w.th d q h
  ·exact o1.aw j q h
 ·rcases h with ⟨e1,e2⟩|⟨_,h⟩
  ·rcases h' with ⟨e3,_⟩|⟨_,h'⟩
   ·rw[e1,e3]
   ·exact(o.awn h' (n q e2)).elim
  ·rcases h' with ⟨_,e3⟩|⟨_,h'⟩
   ·exact(o.awn h (n q e3)).elim
   ·exact o.inj j j' q h h'
 ·rcases bI h with ⟨rfl,rfl,hl⟩|⟨ne,h⟩
  ·cases hs
  ·obtain⟨v',h1,h2⟩:=o.sh j u' h;exact⟨v',by rw[cT ne];exact h1,DU.mono k u' h2⟩
 ·rcases bI h with ⟨rfl,rfl,hl⟩|⟨ne,h⟩
  ·rw[hs]at hs';cases hs';exact⟨p,get_set (o.len▸hl),w.at_ (w.mono k0 (λ_ _=>rfl) d) λb=>⟨λh=>h.elim (λh=>h.2) λh=>absurd rfl h.1,λh=> .inl ⟨rfl,h⟩⟩⟩
  ·obtain⟨q,h1,h3⟩:=o.hd j s' w' h hs';exact⟨q,by rw[cT ne];exact h1,w'.at_ (w'.mono k (λb hb=>let⟨x,hx,_⟩:=w'.th h3 b hb;(f.fr b x (o.nw hb) hx).trans hx.symm) h3) λb=>⟨λh=>h.elim (λh=>absurd h.1 ne) λh=>h.2,λh=> .inr ⟨ne,h⟩⟩⟩
 ·rcases bI h with ⟨rfl,rfl,hl⟩|⟨ne,h⟩
  ·exact hb
  ·exact o.nb j s' h
def EO.setOw(o:EO W B H0 A ρ σ H)(f:Fw W H H1){l:List U}(n:H p=none)(hp:H1 p=some (.lst xs))(d:DUs W (λb=>Bx B A b∨b=p) H1 l xs):
  EO W B H0 (λj q=>(j=i/\q=p)∨(j≠i/\A j q)) (ρ.set i (.ow l)) (σ.set i (some (.ref p))) H1:=o.setOo f (s:=.ow l) (S:=(·=p)) rfl rfl (λb hb=>by rw[hb];exact n) ⟨λ_=>Qe,xs,hp,d⟩
end
section
variable {W B:Addr->Prop}{H0 H H1:Hp}{A:Nat->Addr->Prop}{ρ:EV}{σ:St}
def EO.chg(o:EO W B H0 A ρ σ H){s':Sl}{w':Own}{x:HO}{p q:Addr}(hg:σ[i]? =some (some (V.ref p)))(hq:A i q)(hs':s'.hold=some w')(hb:s'.brd=false)(d:w'.φ W (Bx B A) (A i) (upd H q x) p):EO W B H0 A (ρ.set i s') σ (upd H q x):=by
 have k:∀b y,¬Bx B A b->H b=some y->¬Bx B A b/\upd H q x b=some y:=λb y n h=>⟨n,(aL (λz:b=q=>n (by rw[z];exact .inr ⟨i,hq⟩))).trans h⟩;refine⟨o.eb,⟨λb y w h=>?_,λr hr=>?_⟩,by rw[Bm,o.len],o.an,λj r h=>?_,o.inj,λj u h=>?_,λj m v h hm=>?_,λj m h=>?_⟩
 ·rw[aL (aR h (o.an i q hq))];exact o.fw.fr b y w h
 ·obtain⟨x,y,z,h⟩:=o.fw.wo r hr;exact⟨x,y,z,(aL (λe:r=q=>o.nw hq (by rw[<-e];exact hr))).trans h⟩
 ·by_cases e:r=q
  ·rw[e];exact w'.th d q hq
  ·rw[aL e];exact o.aw j r h
 ·rcases bI h with ⟨rfl,rfl,hl⟩|⟨ne,h⟩
  ·cases hs'
  ·obtain⟨v',h1,h2⟩:=o.sh j u h;exact⟨v',h1,DU.mono k u h2⟩
 ·rcases bI h with ⟨rfl,rfl,hl⟩|⟨ne,h⟩
  ·rw[hs']at hm;cases hm;exact⟨p,hg,d⟩
  ·obtain⟨r,h1,h3⟩:=o.hd j m v h hm;exact⟨r,h1,v.mono k (λb hb=>aL (λe:b=q=>ne (o.inj j i q (by rw[<-e];exact hb) hq))) h3⟩
 ·rcases bI h with ⟨rfl,rfl,hl⟩|⟨ne,h⟩
  ·exact hb
  ·exact o.nb j m h
def EO.own(o:EO W B H0 A ρ σ H){l':List U}{xs':List V}(hg:σ[i]? =some (some (V.ref p)))(hp:∀b,A i b↔b=p)(d:DUs W (Bx B A) H l' xs'):EO W B H0 A (ρ.set i (.ow l')) σ (upd H p (.lst xs')):=
 o.chg hg ((hp p).mpr rfl) (s':=.ow l') rfl rfl ⟨hp,xs',aM,DUs.mono (λb y n h=>⟨n,(aL (λz:b=p=>n (by rw[z];exact .inr ⟨i,(hp p).mpr rfl⟩))).trans h⟩) l' d⟩
def EO.frz(o:EO W B H0 A ρ σ H){i:Nat}{s:Sl}{w:Own}{u:U}(hi:ρ[i]? =some s)(hs:s.hold=some w)(hu:∀{W B S H p},(∀b,S b->¬B b)->w.φ W B S H p->DU W B H u (.ref p)):EO W B H0 (λj q=>j≠i/\A j q) (ρ.set i (.sh u)) σ H:=by
 refine⟨o.eb,o.fw,by rw[Bm,o.len],λj p h=>o.an j p h.2,λj p h=>o.aw j p h.2,λj j' p h h'=>o.inj j j' p h.2 h'.2,λj u' h=>?_,λj m v h hm=>?_,λj m h=>?_⟩
 ·rcases bI h with ⟨rfl,e,hl⟩|⟨ne,h⟩
  ·cases e;obtain⟨p,h1,h3⟩:=o.hd j s w hi hs;exact⟨_,h1,hu (λb hb z=>z.elim (o.now (o.an j b hb)) λ⟨j',h⟩=>h.1 (o.inj j' j b h.2 hb)) (w.mono EO.kp (λ_ _=>rfl) h3)⟩
  ·obtain⟨v',h1,h2⟩:=o.sh j u' h;exact⟨v',h1,DU.mono EO.kp u' h2⟩
 ·rcases bI h with ⟨rfl,rfl,hl⟩|⟨ne,h⟩
  ·cases hm
  ·obtain⟨p,h1,h3⟩:=o.hd j m v h hm;exact⟨p,h1,v.at_ (v.mono EO.kp (λ_ _=>rfl) h3) (aDy ne)⟩
 ·rcases bI h with ⟨rfl,rfl,hl⟩|⟨ne,h⟩
  ·rfl
  ·exact o.nb j m h
def aWg{l:List U}:∀{W B S H p},(∀b,S b->¬B b)->(lsO l).φ W B S H p->DU W B H (.ls l) (.ref p):=λn ⟨s,xs,h,d⟩=>⟨_,xs,rfl,n _ ((s _).mpr rfl),h,d⟩
def aWh{w:Own}:∀{W B S H p},(∀b,S b->¬B b)->w.φ W B S H p->DU W B H (.op w.fz) (.ref p):=λn h=>⟨_,_,rfl,n,h⟩
structure Rb(W:Addr->Prop)(H0 H1:Hp):Prop where
 le:∀b o,¬W b->H0 b=some o->H1 b=some o
 no:∀p,H1 p=none->H0 p=none
def EO.un{H0':Hp}(o:EO W B H0' A ρ σ H)(e:EB W B H0)(r:Rb W H0 H0'):EO W B H0 A ρ σ H:=
 ⟨e,⟨λb x w h=>o.fw.fr b x w (r.le b x w h),o.fw.wo⟩,o.len,λi p h=>r.no p (o.an i p h),o.aw,o.inj,o.sh,o.hd,o.nb⟩
def RO.un{H0':Hp}{s:Sl}(r:Rb W H0 H0')(h:RO W B H0' H s v):RO W B H0 H s v:=by
 match s,h with
 |.sh u,h=>exact h
 |.ow l,⟨p,xs,e1,n1,h2,h3⟩=>exact⟨p,xs,e1,r.no p n1,h2,h3⟩
 |.br l,h=>exact h
 |.oo w,⟨p,S,e1,n1,h⟩=>exact⟨p,S,e1,λb hb=>r.no b (n1 b hb),h⟩
 |.bo w,h=>exact h
open Classical in
def EO.reb(o:EO W B H0 A ρ σ H):∃H0',EO W B H0' A ρ σ H/\Rb W H0 H0'/\∀b x,(¬ ∃i,A i b)->H b=some x->H0' b=some x:=by
 refine⟨λb=>if∃i,A i b then none else H b,?_,?_,λb x n h=>(if_neg n).trans h⟩
 ·have nb:∀p,B p->¬ ∃i,A i p:=λp hp ⟨i,h⟩=>o.now (o.an i p h) hp;refine⟨⟨λp hp=>by rw[if_neg (nb p hp)];exact o.ee.eb.bl p (.inl hp),o.eb.wb,λp hp=>?_⟩,⟨λb x w h=>?_,o.fw.wo⟩,o.len,λi p h=>if_pos ⟨i,h⟩,o.aw,o.inj,o.sh,o.hd,o.nb⟩
  ·obtain⟨x,y,z,h⟩:=o.fw.wo p hp;exact⟨x,y,z,(if_neg (nb p (o.eb.wb p hp))).trans h⟩
  ·split at h
   ·cases h
   ·exact h
 ·refine⟨λb x w h=>?_,λp h=>?_⟩
  ·refine(if_neg λ⟨i,q⟩=>?_).trans (o.fw.fr b x w h);rw[o.an i b q]at h;cases h
  ·split at h
   ·rename_i q;obtain⟨i,q⟩:=q;exact o.an i p q
   ·cases q:H0 p with
    |none=>rfl
    |some x=>
     by_cases w:W p
     ·obtain⟨_,_,_,z⟩:=o.fw.wo p w;rw[z]at h;cases h
     ·rw[o.fw.fr p x w q]at h;cases h
end
def aQ9(t u:TVS):TVS:=λE ρ=>t {E with nx:=u E} ρ
def aSy:TVS:=λE ρ=>E.nx ρ
def vIf(c:TVc)(t u:TVS):TVS:=λE ρ=>c ρ λb=>(b=true->t E ρ)/\(b=false->u E ρ)
def aOw(i:Nat)(ρ:EV)(k:EV->Prop):Sl->Prop
 |.sh u=>k (ρ.set i (.sh u))
 |.ow l=>k (ρ.set i (.ow l))
 |.oo w=>k (ρ.set i (.oo w))
 |_=>False
def aRa(i:Nat)(F:TV):TVS:=λE ρ=>F ρ (aOw i ρ E.nx)
def aOx(F:TV):TVS:=λE ρ=>F ρ λs=>match s with
 |.br _=>False
 |.bo _=>False
 |s=>E.rt s
def aSz(i:Nat):TVS:=λE ρ=>match (ρ[i]? :Option Sl)with
 |some (.sh u)=>E.rt (.sh u)
 |some (.ow l)=>E.rt (.ow l)
 |some (.oo w)=>E.rt (.oo w)
 |_=>False
def aX6(i:Nat)(G:TVS):TVS:=λE ρ=>match (ρ[i]? :Option Sl)with
 |some (.ow l)=>G E (ρ.set i (.sh (.ls l)))
 |some (.oo w)=>G E (ρ.set i (.sh (.op w.fz)))
 |_=>G E ρ
def aX0(i:Nat)(F:TV):TVS:=λE ρ=>match (ρ[i]? :Option Sl)with
 |some (.ow l)=>l.length<10000/\F ρ λs=>s.es λu=>E.nx (ρ.set i (.ow (l++[u])))
 |_=>False
def aX5(i:Nat)(F:TV):TVS:=λE ρ=>match (ρ[i]? :Option Sl)with
 |some (.ow l)=>F ρ λs=>match s.rd with
  |.ls m=>l.length+m.length<10000/\E.nx (ρ.set i (.ow (l++m)))
  |_=>False
 |_=>False
abbrev TVg:=U->EV->(EV->Prop)->Prop
def VTg(g:TG)(G:TVg):Prop:=∀{W B:Addr->Prop}{H0:Hp}{A:Nat->Addr->Prop}{ρ:EV}{σ:St}{H:Hp}{u:U}{v:V}{k:EV->Prop}{Q:St->Hp->Prop},EO W B H0 A ρ σ H->DU W (Bx B A) H u v->G u ρ k->(∀A' ρ' σ',EO W B H0 A' ρ' σ' H->k ρ'->Q σ' H)->g v σ H Q
def VG(X:Cx)(tg:Bw)(G:TVg):Prop:=∃g,PG X tg g/\VTg g G
def aYv(g:TGs)(is:List Nat):Prop:=∀{W B:Addr->Prop}{H0:Hp}{A:Nat->Addr->Prop}{ρ:EV}{σ:St}{H:Hp}{us:List U}{vs:List V}{k:EV->Prop}{Q:St->Hp->Prop},EO W B H0 A ρ σ H->DUs W (Bx B A) H us vs->us.length=is.length->k ((is.zip us).foldl (λρ x=>ρ.set x.1 (.sh x.2)) ρ)->(∀A' ρ' σ',EO W B H0 A' ρ' σ' H->k ρ'->Q σ' H)->g vs σ H Q
def VGs(X:Cx)(es:List Bw)(is:List Nat):Prop:=∃g,PGs X es g/\aYv g is
def kY(i:Nat):TVg:=λu ρ k=>k (ρ.set i (.sh u))
def aS0(is:List Nat):TVg:=λu ρ k=>match u with
 |.tp us=>us.length=is.length/\k ((is.zip us).foldl (λρ x=>ρ.set x.1 (.sh x.2)) ρ)
 |_=>False
def gK(g:TVg)(b:TVS)(E:lW):List U->EV->Prop
 | [],ρ=>E.nx ρ
 |u::r,ρ=>g u ρ λρ1=>b {E with nx:=gK g b E r,ct:=gK g b E r,bk:=E.nx} ρ1
def aZm(g:TVg)(F:TVa)(b:TVS):TVS:=λE ρ=>F ρ λl=>gK g b E l ρ
def aU:VSs X [] aSy:=⟨_,nF,λo h i=>i.nx o h⟩
def aH{st:Stmt}{G:TVS}(h:VS X st G):VSs X [st] G:=let⟨_,p,f⟩:=h;⟨_,cI p,f⟩
def aG{st:Stmt}{F G:TVS}(h:VS X st F)(h':VSs X rest G):VSs X (st::rest) (aQ9 F G):=
 let⟨_,p,f⟩:=h;let⟨_,p',f'⟩:=h';⟨_,bC p p',λo h i=>f o h ⟨λo1 h1=>f' o1 h1 i,i.bk,i.ct,i.rt,i.mr⟩⟩
def zT{st:List Stmt}{G:TVS}(i:Nat)(h:VSs X st G):VSs X st (aX6 i G):=let⟨_,p,f⟩:=h;⟨_,p,λo h j=>by
 unfold aX6 at h;split at h
 ·rename_i hi;exact f (o.frz hi rfl aWg) h j
 ·rename_i hi;exact f (o.frz hi rfl aWh) h j
 ·exact f o h j⟩
def bJ{c:Bw}{a b:List Stmt}{C:TVc}{F G:TVS}(hc:VC X c C)(ha:VSs X a F)(hb:VSs X b G):VS X (.If c a b pos) (vIf C F G):=
 let⟨_,p,f⟩:=hc;let⟨_,p1,f1⟩:=ha;let⟨_,p2,f2⟩:=hb;⟨_,vK p p1 p2,λo h i=>f o.ee h λc H1 h1 w=>by
  cases c with
  |true=>exact aAq (f1 (o.to w) (h1.1 rfl) i)
  |false=>exact yX (f2 (o.to w) (h1.2 rfl) i)⟩
def xJ{W B:Addr->Prop}{H0 H H1:Hp}{A:Nat->Addr->Prop}{ρ:EV}{σ:St}{s:Sl}{k:EV->Prop}{Q:St->Hp->Prop}(o:EO W B H0 A ρ σ H)(f:Fw W H H1)(r:RO W (Bx B A) H H1 s v)(h:aOw i ρ k s)(q:∀{A' ρ' σ'},EO W B H0 A' ρ' σ' H1->k ρ'->Q σ' H1):Q (σ.set i (some v)) H1:=by
 match s,r,h with
 |.sh u,r,h=>exact q ((o.to f).setSh r) h
 |.ow l,⟨p,xs,e1,h1,h2,h3⟩,h=>
  subst e1;exact q (o.setOw f h1 h2 h3) h
 |.oo w,⟨p,S,e1,h1,h2⟩,h=>
  subst e1;exact q (o.setOo f (s:=.oo w) rfl rfl h1 h2) h
def aZ{x:Str}{e:Bw}{pos pos':Pos}{F:TV}(hN:X.N.Nodup)(he:VE X e F)(hi:X.N[i]? =some x:=by rfl)(hx:Loc X.env.scope x:=by first|exact Ex rfl|exact Fy rfl)(hs:Dt e (some (.Name x pos')) pos.line X.env=pure false:=by rfl)(hf:FL X x:=by trivial):
  VS X (.Assign [.Name x pos'] e pos) (aRa i F):=
 let⟨_,p,f⟩:=he;⟨_,uA hN hi hx p hs hf,λo h j=>f o.ee h λs v H1 h1 w r=>xJ o w r h1 j.nx⟩
def aQ{e:Bw}{F:TV}(he:VE X e F):VS X (.Return (some e) pos) (aOx F):=
 let⟨_,p,f⟩:=he;⟨_,rG p,λ{W B H0 A ρ σ H E D} o h j=>f o.ee h λs v H1 h1 w r=>by
  have fw:=o.fw.trans w;have less:∀{H:Hp} b(x:HO),¬Bx B A b->H b=some x->¬B b/\H b=some x:=λb x n h=>⟨λz=>n (.inl z),h⟩;match s,h1,r with
  |.sh u,h1,r=>exact j.rt fw (s:=.sh u) (DU.mono less u r) h1
  |.ow l,h1,⟨p,xs,e1,h2,h3,h4⟩=>
   refine j.rt fw (s:=.ow l) ?_ h1;exact RO.back (s:=.ow l) o.fw ⟨p,xs,e1,h2,h3,DUs.mono (λb x n h=>⟨λz=>n (z.elim (λz=> .inl (.inl z)) .inr),h⟩) l h4⟩
  |.oo w,h1,⟨p,S,e1,h2,h3⟩=>
   refine j.rt fw (s:=.oo w) ?_ h1;exact RO.back (s:=.oo w) o.fw ⟨p,S,e1,h2,w.mono (λb x n h=>⟨λz=>n (z.elim (λz=> .inl (.inl z)) .inr),h⟩) (λ_ _=>rfl) h3⟩
  |.no,_,r=>exact r.elim⟩
def vZ{x:Str}{pos p':Pos}(i:Nat)(hN:X.N[i]? =some x:=by rfl)(hv:Vis X.env.scope x:=by trivial)(hd:ND x:=by decide)
  (hcd:NC x:=by decide):VS X (.Return (some (.Name x p')) pos) (aSz i):=⟨_,rG (fK hN hv hd hcd),λ{W B H0 A ρ σ H E D} o h j=>by
 unfold aSz at h;have less:∀{H:Hp} b(x:HO),¬Bx B A b->H b=some x->¬B b/\H b=some x:=λb x n h=>⟨λz=>n (.inl z),h⟩;split at h
 ·rename_i u hs;obtain⟨v,h1,h2⟩:=o.sh i u hs;exact⟨v,h1,j.rt (s:=.sh u) o.fw (DU.mono less u h2) h⟩
 ·rename_i l hs;obtain⟨p,xs,h1,h2,h3,h4⟩:=o.ow i l hs;exact⟨_,h1,j.rt (s:=.ow l) o.fw ⟨p,xs,rfl,o.an i p ((h2 p).mpr rfl),h3,DUs.mono (λb x n h=>⟨λz=>n (z.elim .inl λe=> .inr ⟨i,(h2 b).mpr e⟩),h⟩) l h4⟩ h⟩
 ·rename_i w hs;obtain⟨p,h1,h3⟩:=o.hd i _ w hs rfl;exact⟨_,h1,j.rt (s:=.oo w) o.fw ⟨p,_,rfl,o.an i,w.mono (λb x n h=>⟨λz=>n (z.elim .inl λe=> .inr ⟨i,e⟩),h⟩) (λ_ _=>rfl) h3⟩ h⟩
 ·exact h.elim⟩
def aVm{x:Str}{a:Bw}{p' apos cpos pos:Pos}{F:TV}(i:Nat)(ha:VE X a F)(hN:X.N[i]? =some x:=by rfl)(hv:Vis X.env.scope x:=by trivial)(hd:ND x:=by decide)
  (hcd:NC x:=by decide)
  (hbase:Eh (.Name x p') "append" X.env (eval (.Name x p') X.env)=eval (.Name x p') X.env:=by rfl)
  (hfew:((Ju cpos (Bc [a] X.env)).all (λx=> !x.1) && (Gh cpos (Do [] X.env)).all (λx=>x.1.isSome)
   && decide ([a].length+([]:List Jm).length+(if([]:List Jm).isEmpty then 0 else 1)<30))=true:=by rfl)
  (hline:EL apos cpos:=by rfl) (hs:SE X a []:=by rfl) (hplain:BT X cpos []:=by rfl)
  (hsw:Dt (.Call (.Attribute (.Name x p') "append" apos) [a] [] cpos) none pos.line X.env=pure false:=by rfl):
  VS X (.Expr (.Call (.Attribute (.Name x p') "append" apos) [a] [] cpos) pos) (aX0 i F):=
 let⟨_,p,f⟩:=ha;⟨_,lG (aNl Kp Ph Pg wY (fK hN hv hd hcd) (bK p dN hs) hbase hfew hline hs hplain) hsw,λ{W B H0 A ρ σ H E D} o h j=>by
  unfold aX0 at h;split at h
  ·rename_i l hi;obtain⟨q,xs,h1,h2,h3,h4⟩:=o.ow i l hi;refine⟨_,h1,.inl ⟨rfl,_,SqL.of h3⟩,f o.ee h.2 λs v H1 h5 w r=>?_⟩;obtain⟨u,h6,d⟩:=r.du o.ee.eb h5;have o1:=o.to w;obtain⟨q',ys,g1,g2,g3,g4⟩:=o1.ow i l hi;rw[h1]at g1;cases g1;refine⟨q,ys,v,rfl,rfl,g3,?_,j.nx (o1.own h1 h2 (g4.app (DUs.one d))) h6⟩;have:=g4.length;have:(10000:Nat)<=sizeLine:=by decide
   lia
  ·exact h.elim⟩
def aVp{x:Str}{a:Bw}{p' apos cpos pos:Pos}{F:TV}(i:Nat)(ha:VE X a F)(hN:X.N[i]? =some x:=by rfl)(hv:Vis X.env.scope x:=by trivial)(hd:ND x:=by decide)
  (hcd:NC x:=by decide)
  (hbase:Eh (.Name x p') "extend" X.env (eval (.Name x p') X.env)=eval (.Name x p') X.env:=by rfl)
  (hfew:((Ju cpos (Bc [a] X.env)).all (λx=> !x.1) && (Gh cpos (Do [] X.env)).all (λx=>x.1.isSome)
   && decide ([a].length+([]:List Jm).length+(if([]:List Jm).isEmpty then 0 else 1)<30))=true:=by rfl)
  (hline:EL apos cpos:=by rfl) (hs:SE X a []:=by rfl) (hplain:BT X cpos []:=by rfl)
  (hsw:Dt (.Call (.Attribute (.Name x p') "extend" apos) [a] [] cpos) none pos.line X.env=pure false:=by rfl):
  VS X (.Expr (.Call (.Attribute (.Name x p') "extend" apos) [a] [] cpos) pos) (aX5 i F):=
 let⟨_,p,f⟩:=ha;⟨_,lG (aNl Kp PySem.F.slot_list_extend PySem.F.type_list_extend aJz (fK hN hv hd hcd) (bK p dN hs) hbase hfew hline hs hplain) hsw,λ{W B H0 A ρ σ H E D} o h j=>by
  unfold aX5 at h
  split at h
  ·rename_i l hi
   obtain⟨q,xs,h1,h2,h3,h4⟩:=o.ow i l hi
   refine⟨_,h1,.inl ⟨rfl,_,SqL.of h3⟩,f o.ee h λs v H1 h5 w r=>?_⟩
   have d:=r.db o.ee.eb
   revert h5 d
   generalize s.rd=u
   intro h5 d
   split at h5<;>try exact h5.elim
   rename_i m
   have o1:=o.to w
   obtain⟨q',ys,g1,g2,g3,g4⟩:=o1.ow i l hi
   rw[h1]at g1
   cases g1
   obtain⟨b,zs,rfl,_,b2,b3⟩:=d.ls (o.ee.to w).eb
   refine⟨q,b,ys,zs,rfl,rfl,g3,b2,?_,j.nx (o1.own h1 h2 (g4.app b3)) h5.2⟩
   have:=g4.length
   have:=b3.length
   have:(10000:Nat)<=sizeLine:=by decide
   lia
  ·exact h.elim⟩
def gA{x:Str}(hN:X.N.Nodup)(hi:X.N[i]? =some x:=by rfl)(hx:Loc X.env.scope x:=by first|exact Ex rfl|exact Fy rfl)(hf:FL X x:=by trivial):VG X (.Name x pos) (kY i):=
 ⟨_,bW hN hi hx hf,λo d h q=>q _ _ _ (o.setSh d) h⟩
def aRe:VGs X [] []:=⟨_,zN,λ{W B H0 A ρ σ H us vs k Q} o d l h q=>by
 match us,l with
 | [],_=>exact⟨d,q _ _ _ o h⟩⟩
def aF9{is:List Nat}{x:Str}{es:List Bw}(hN:X.N.Nodup)(h2:VGs X es is)(hi:X.N[i]? =some x:=by rfl)(hx:Loc X.env.scope x:=by first|exact Ex rfl|exact Fy rfl)(hf:FL X x:=by trivial)
  (hs:(Ha (.Name x pos::es) X.env).map (·.2)=assign (.Name x pos) X.env::(Ha es X.env).map (·.2):=by rfl):VGs X (.Name x pos::es) (i::is):=
 let⟨_,p,f⟩:=h2;⟨_,mH (bW hN hi hx hf) p hs,λ{W B H0 A ρ σ H us vs k Q} o d l h q=>by
  match us,d,l with
  |u::us,⟨v,r,e,d1,d2⟩,l=>
   refine⟨v,r,e,f (o.setSh (i:=i) d1) (DUs.mono (λb x n h=>⟨λz=>n (z.elim .inl λ⟨j,e⟩=> .inr ⟨j,e.2⟩),h⟩) us d2) (Im l) h q⟩⟩
def aVl{es:List Bw}{c:Nat}{is:List Nat}{n:Nat}(hc:X.calm=true)(h:VGs X es is)(hl:is.length=n:=by rfl)(hn:(Ha es X.env).length=n:=by rfl)(hst:(Ha es X.env).findIdx? (·.1)=none:=by rfl):VG X (.Tuple es c pos) (aS0 is):=
 let⟨_,p,f⟩:=h;⟨_,aD4 hc p hn hst,λ{W B H0 A ρ σ H u v k Q} o d h q=>by
  match u,d,h with
  |.tp us,⟨a,xs,e,_,ha,ds⟩,⟨l,h⟩=>exact⟨a,xs,e,SqT.of ha,by rw[<-ds.length,l,hl],f o ds l h q⟩⟩
abbrev Tr(B:Addr->Prop)(H1:Hp)(B2:Addr->Prop)(H2:Hp):Prop:=∀b o,¬B b->H1 b=some o->¬B2 b/\H2 b=some o
structure WkU(W B:Addr->Prop)(H1:Hp)(J:It)(l:List U):Prop where
 stop:∀{B2 H2},Tr B H1 B2 H2->J.stop l.length H2
 go:∀{B2 H2} i,Tr B H1 B2 H2->i<l.length->J.go i H2
 yld:∀{B2 H2}(i:Nat){x H' u},EB W B2 H2->Tr B H1 B2 H2->l[i]? =some u->J.yld i H2 x H'->Fw W H2 H'/\DU W B2 H' u x
def VTi(wi:TI)(F:TVa):Prop:=∀{W B:Addr->Prop}{ρ:EV}{σ:St}{H:Hp}{R:List U->Prop}{Q:It->Hp->Prop},EE W B H ρ σ->F ρ R->(∀l J H',R l->Fw W H H'->WkU W B H' J l->Q J H')->wi σ H Q
def VI(X:Cx)(tg iter:Bw)(F:TVa):Prop:=∃wi,PI X tg iter wi/\VTi wi F
def vLs(F:TV):TVa:=λρ R=>F ρ λs=>s.es λu=>match u with
 |.ls l=>R l
 |_=>False
def vTp(F:TV):TVa:=λρ R=>F ρ λs=>s.es λu=>match u with
 |.tp l=>R l
 |_=>False
def aRp{W B:Addr->Prop}{H:Hp}{K:Ab}{l:List U}(nb:¬B a)(ha:H a=some (.lst xs))(ds:DUs W B H l xs):WkU W B H (Itl K a) l:=
 ⟨λt=>⟨xs,SqL.of (t a _ nb ha).2,by rw[ds.length];exact Am _⟩,λi t h=>⟨xs,xs[i]'(by rw[<-ds.length];exact h),SqL.of (t a _ nb ha).2,Ak _⟩,λi x H' u e t h y=>by
  obtain⟨rfl,y⟩:=y;obtain⟨x',h1,d⟩:=ds.get h;rw[y xs (SqL.of (t a _ nb ha).2)]at h1;cases h1;exact⟨e.refl,DU.mono t u d⟩⟩
def aVx{W B:Addr->Prop}{H:Hp}{K:Ab}{l:List U}(nb:¬B a)(ha:H a=some (.tup xs))(ds:DUs W B H l xs):WkU W B H (Itt K a) l:=
 ⟨λt=>⟨xs,SqT.of (t a _ nb ha).2,by rw[ds.length];exact Am _⟩,λi t h=>⟨xs,xs[i]'(by rw[<-ds.length];exact h),SqT.of (t a _ nb ha).2,Ak _⟩,λi x H' u e t h y=>by
  obtain⟨rfl,y⟩:=y;obtain⟨x',h1,d⟩:=ds.get h;rw[y xs (SqT.of (t a _ nb ha).2)]at h1;cases h1;exact⟨e.refl,DU.mono t u d⟩⟩
def gO(lo:Int)(n:Nat):List U:=(Cj n).map λi:Nat=> .n (lo+(i:Int))
def aPe{W B:Addr->Prop}{H:Hp}{lo:Int}{n:Nat}:WkU W B H (Itr lo n) (gO lo n):=
 ⟨λ_=>by show n<=_;simp[gO],λi _ h=>by show i<n;simpa[gO]using h,λi x H' u e _ h y=>by
  obtain⟨rfl,rfl⟩:=y;unfold gO at h;rw[Ay]at h;cases q:(Cj n)[i]? with
  |none=>rw[q]at h;cases h
  |some j=>
   rw[q]at h;cases h;have hj:=(Ax.mp q).2;rw[List.getElem_range]at hj;subst hj;exact⟨e.refl,rfl,rfl⟩⟩
def cY{tg e:Bw}{F:TV}(h:VE X e F):VI X tg e (vLs F):=let⟨_,p,f⟩:=h;⟨_,aD5 p,λe h q=>f e h λs v H1 h1 w r=>by
 obtain⟨u,h2,d⟩:=r.du e.eb h1;match u,h2,d with
 |.ls l,h2,⟨a,xs,e1,nb,ha,ds⟩=>exact⟨a,e1,⟨xs,SqL.of ha⟩,q l _ _ h2 w (aRp nb ha ds)⟩⟩
def aHv{tg e:Bw}{F:TV}(h:VE X e F):VI X tg e (vTp F):=let⟨_,p,f⟩:=h;⟨_,aUg p,λe h q=>f e h λs v H1 h1 w r=>by
 obtain⟨u,h2,d⟩:=r.du e.eb h1;match u,h2,d with
 |.tp l,h2,⟨a,xs,e1,nb,ha,ds⟩=>exact⟨a,e1,⟨xs,SqT.of ha⟩,q l _ _ h2 w (aVx nb ha ds)⟩⟩
def vRg(F:TVa):TVa:=λρ R=>F ρ λus=>match us with
 | [.v (.int j)]=> -(2 ^ 62)<=j/\j<2 ^ 62/\R (gO 0 j.toNat)
 |_=>False
def gQ{tg a:Bw}{F:TVa}{p pos:Pos}(hm:X.mg "range"=none)(hi:VB X [a] F)(hgl:Gl X "range":=by rfl)(hs1:Bc [a] X.env=[(false,eval a X.env)]:=by rfl):VI X tg (.Call (.Name "range" p) [a] [] pos) (vRg F):=
 let⟨_,p,f⟩:=hi;⟨_,aKo hgl hm p hs1,λe h q=>f e h λus vs H1 h1 w d=>by
  match us,h1,d with
  | [.v (.int i)],⟨h2,h3,h4⟩,⟨x,r,e,d1,d2⟩=>
   obtain rfl:r=[]:=d2;rw[d1.int]at e;exact⟨i,e,h2,h3,q _ _ _ h4 w aPe⟩⟩
def aCi(l:List U):List U:=l.zipIdx.map λx=> .tp [.n (x.2:Nat),x.1]
def aRo{W B:Addr->Prop}{H:Hp}{K:Ab}{l:List U}(nb:¬B a)(ha:H a=some (.lst xs))(ds:DUs W B H l xs):WkU W B H (Ite K a) (aCi l):=
 ⟨λt=>⟨xs,SqL.of (t a _ nb ha).2,by simp[aCi,ds.length]⟩,λi t h=>⟨xs,xs[i]'(by rw[<-ds.length];simpa[aCi]using h),SqL.of (t a _ nb ha).2,Ak _⟩,λi x H' u e t h y=>by
  obtain⟨p,x',n,rfl,rfl,y⟩:=y;have hx:=y xs (SqL.of (t a _ nb ha).2);obtain⟨u',hu,d⟩:=ds.getV hx;have hu2:(aCi l)[i]? =some (.tp [.n (i:Nat),u']):=by simp[aCi,Ay,List.getElem?_zipIdx,hu]
  rw[h]at hu2;cases hu2;have f:=e.new (o:=.tup [.int i,x']) n;exact⟨f,p,_,rfl,e.nw n,aM,_,_,rfl,⟨rfl,rfl⟩,_,_,rfl,DU.mono (λb o n h=>e.keep f b o (t b o n h).1 (t b o n h).2) u' d,rfl⟩⟩
def vEn(F:TVa):TVa:=λρ R=>F ρ λus=>match us with
 | [.ls l]=>R (aCi l)
 |_=>False
def aRf{es:List Bw}{a:Bw}{F:TVa}{p pos:Pos}(hm:X.mg "enumerate"=none)(hi:VA X [a] F)(hgl:Gl X "enumerate":=by rfl)(hs1:Bc [a] X.env=[(false,eval a X.env)]:=by rfl):VI X (.Tuple es k pos') (.Call (.Name "enumerate" p) [a] [] pos) (vEn F):=
 let⟨_,p,f⟩:=hi;⟨_,aQh hgl hm p hs1,λe h q=>f e h λus vs H1 h1 _ w d=>by
  match us,h1,d with
  | [.ls l],h4,d=>
   obtain⟨x,r,e,⟨a,xs,rfl,nb,ha,ds⟩,d2⟩:=d;obtain rfl:r=[]:=d2;exact⟨a,e,⟨xs,SqL.of ha⟩,q _ _ _ h4 w (aRo nb ha ds)⟩⟩
def iY{tg iter:Bw}{F:TVa}{G:TVg}{b:TVS}(hp:Vh #v[b] X.A X.env X.xe)(hc:X.calm=true)(hi:VI X tg iter F)(hg:VG X tg G)(hb:VSs X body b)
  (hs:FS X iter:=by intro _;rfl):VS X (.For tg iter body [] pos) (aZm G F b):=
 let⟨_,p,f⟩:=hi;let⟨_,p1,f1⟩:=hg;let⟨_,p2,f2⟩:=hb;⟨_,aNx hp hc p p1 p2 hs,λ{W B H0 A0 ρ0 σ0 H E D} o0 h j=>f o0.ee h λl J H1 h1 w wk=>by
  have o:=o0.to w;obtain⟨H0',o',rb,kp⟩:=o.reb;have st:∀{A ρ σ H},EO W B H0' A ρ σ H->Tr (Bx B A0) H1 (Bx B A) H:=λ{A ρ σ H} o2 p x n hp=>by
   have h0:=kp p x (λz=>n (.inr z)) hp;refine⟨λz=>z.elim (λz=>n (.inl z)) λ⟨i,z⟩=>?_,o2.fw.fr p x (λw=>n (.inl (o.eb.wb p w))) h0⟩;rw[o2.an i p z]at h0;cases h0
  refine⟨λi m σ H=>m=l.length-i/\i<=l.length/\∃A ρ,EO W B H0' A ρ σ H/\gK G b E (l.drop i) ρ,⟨l.length,by simp,Bt _,A0,ρ0,o',h1⟩,?_⟩;rintro i m σ H ⟨rfl,hi,A,ρ,o2,h2⟩;by_cases hlt:i<l.length
  ·have e:l.drop i=l[i]::l.drop (i+1):=Qr hlt;rw[e]at h2;refine .inr ⟨wk.go i (st o2) hlt,λσ H=>∃A ρ,EO W B H0' A ρ σ H/\gK G b E (l.drop (i+1)) ρ,λσ' H' h=>⟨l.length-(i+1),∅,rfl,hlt,h⟩,λx H' y=>?_⟩;obtain⟨w2,d⟩:=wk.yld i o2.ee.eb (st o2) (Ak hlt) y;exact f1 (o2.to w2) d h2 λA' ρ' σ' o3 h3=>f2 o3 h3 ⟨λo4 h4=>⟨_,_,o4,h4⟩,λo4 h4=>j.nx (o4.un o.eb rb) h4,λo4 h4=>⟨_,_,o4,h4⟩,λw r h4=>j.rt ⟨λb x nw hb=>w.fr b x nw (rb.le b x nw hb),w.wo⟩ (r.un rb) h4,λo4 d4 h4=>j.mr (o4.un o.eb rb) d4 h4⟩
  ·have e:i=l.length:=by lia
   subst e;rw[Vm]at h2;exact .inl ⟨wk.stop (st o2),j.nx (o2.un o.eb rb) h2⟩⟩
def vfn{P:Ap}{w:Bh}{K:Ab}{mg:Str->#v[8]}{base:Heap}{x qual:Str}{st:Stmt}{f:Addr}{fd:Bb}{N ps:List Str}{G:TVS}{F:List U->(Sl->Prop)->Prop}(Fn:Fun K x qual st f fd)(S:aP N ps (aF st))
  (hb:∀(cdv:Value)(A:Bl)(outer:List Env)(s:Ae)(H:Hp)(E:XK),cO k (A.deeper (Ke qual (aF st) #v[0] f cdv))->VSs (uV CX0 P w K mg base N qual (aF st) f cdv A outer s H E).nox (dO st) G)
  (hF:∀us R,F us R->us.length=ps.length/\G {nx:=λ_=>R (.sh .no),rt:=R} (us.map .sh++Al (N.length-us.length) .no)):↥(k+1) f fd ps (spV F):=by
 refine Fn.ok S (λvs H Q E h=>?_) (λcdv A outer s H vs Q E hr h=>?_)
 ·obtain⟨W,B,us,R,eb,d,h,_⟩:=h;rw[<-d.length];exact(hF us R h).1
 ·obtain⟨t,p,g⟩:=hb cdv A outer s H E hr;obtain⟨W,B,us,R,eb,d,h,q⟩:=h;refine⟨t,p,g (W:=W) (B:=B) (H0:=H) (A:=λ_ _=>False) ⟨eb,eb.refl,?_,λ_ _ z=>z.elim,λ_ _ z=>z.elim,λ_ _ _ z=>z.elim,λi u h=>?_,λi s w h hs=>?_,λi s h=>?_⟩ (hF us R h).2 ⟨λo h=>?_,λ_ z=>z.elim,λ_ z=>z.elim,λw r h=>q _ _ _ h w r,λ_ _ z=>z.elim⟩⟩
  ·simp only[start,An,Ac,Cy,d.length]
  ·rw[Eb]at h;split at h
   ·rename_i hl;rw[Ac]at hl;rw[Ay,Ak hl]at h;cases h;obtain⟨v,h1,h2⟩:=d.get (Ak hl);refine⟨v,?_,DU.mono (λb x n h=>⟨λz=>z.elim n λ⟨_,z⟩=>z,h⟩) _ h2⟩;unfold start;rw[Cq (by rw[Ac, <-d.length];exact hl),Ay,h1];rfl
   ·rw[Bk]at h;split at h<;>cases h
  ·rw[Eb]at h;split at h
   ·rw[Ay]at h;cases hu:us[i]? <;>rw[hu]at h<;>cases h;cases hs
   ·rw[Bk]at h;split at h<;>cases h;cases hs
  ·rw[Eb]at h;split at h
   ·rw[Ay]at h;cases hu:us[i]? <;>rw[hu]at h<;>cases h;rfl
   ·rw[Bk]at h;split at h<;>cases h;rfl
  ·exact q _ _ _ h o.fw ⟨rfl,rfl⟩
inductive ItV(F:TV)(σ:St)(H:Hp)(Q:VK):Prop
 |mk (W B ρ R:_) (q0_:EE W B H ρ σ) (q1_:F ρ R) (q2_:∀s v H',R s->Fw W H H'->RO W B H H' s v->Q v H'):ItV F σ H Q
def tV(F:TV):TE:=λσ H Q=>ItV F σ H Q
inductive aV9(F:TVc)(σ:St)(H:Hp)(Q:(Bool->Hp->Prop)):Prop
 |mk (W B ρ R:_) (q0_:EE W B H ρ σ) (q1_:F ρ R) (q2_:∀c H',R c->Fw W H H'->Q c H'):aV9 F σ H Q
def tVc(F:TVc):TT:=λσ H Q=>aV9 F σ H Q
def VE.can{X:Cx}{e:Bw}{F:TV}(h:VE X e F):PE X e (tV F):=let⟨_,p,f⟩:=h;λpins s σ H Q I ⟨_,_,_,_,e,h,q⟩=>p pins s σ H Q I (f e h q)
def VC.can{X:Cx}{e:Bw}{F:TVc}(h:VC X e F):PT X e (tVc F):=let⟨_,p,f⟩:=h;λpins s σ H Q I ⟨_,_,_,_,e,h,q⟩=>p pins s σ H Q I (f e h q)
def VTh(own:Nat)(g:TG)(G:TVg):Prop:=∀{W B:Addr->Prop}{H:Hp}{ρ:EV}{σ:St}{u:U}{v:V}{k:EV->Prop}{Q:St->Hp->Prop},EE W B H ρ σ->DU W B H u v->G u ρ k->(∀ρ' σ',EE W B H ρ' σ'->σ'.length=σ.length->(∀i,own<=i->σ'[i]? =σ[i]?)->k ρ'->Q σ' H)->g v σ H Q
def EE.set{W B:Addr->Prop}{H:Hp}{ρ:EV}{σ:St}{u:U}(e:EE W B H ρ σ)(d:DU W B H u v):EE W B H (ρ.set i (.sh u)) (σ.set i (some v)):=by
 refine⟨e.eb,by rw[Bm,Bm,e.len],λj u' h=>?_,λj s w h hs=>?_⟩
 ·rcases bI h with ⟨rfl,q,hl⟩|⟨ne,h⟩
  ·cases q;exact⟨v,get_set (e.len▸hl),d⟩
  ·obtain⟨v',h1,h2⟩:=e.sh j u' h;exact⟨v',by rw[cT ne];exact h1,h2⟩
 ·rcases bI h with ⟨rfl,rfl,hl⟩|⟨ne,h⟩
  ·cases hs
  ·obtain⟨p,S,h1,h2⟩:=e.hd j s w h hs;exact⟨p,S,by rw[cT ne];exact h1,h2⟩
def dI{own i:Nat}(h:i<own):VTh own (rA i) (kY i):=λe d h1 q=>q _ _ (e.set d) (Bm ..) (λj hj=>cT ∅) h1
def aG3:List Nat->TGs
 | []=>aWl
 |i::is=>aSi (rA i) (aG3 is)
theorem aGa{own:Nat}{W B:Addr->Prop}{H:Hp}{Q:St->Hp->Prop}{k:EV->Prop}:∀{is:List Nat}{us:List U}{vs:List V}{ρ:EV}{σ:St},(∀i∈is,i<own)->EE W B H ρ σ->DUs W B H us vs->us.length=is.length->k ((is.zip us).foldl (λρ x=>ρ.set x.1 (.sh x.2)) ρ)->
  (∀ρ' σ',EE W B H ρ' σ'->σ'.length=σ.length->(∀i,own<=i->σ'[i]? =σ[i]?)->k ρ'->Q σ' H)->aG3 is vs σ H Q
 | [],[],_,_,_,_,e,d,_,h,q=>⟨d,q _ _ e rfl (λ_ _=>rfl) h⟩
 |i::is,u::us,_,ρ,σ,hi,e,⟨v,r,e1,d1,d2⟩,l,h,q=>⟨v,r,e1,aGa (λj hj=>hi j (Ag _ hj)) (e.set (i:=i) d1) d2 (Im l) h λρ' σ' e' l' a' h'=>q ρ' σ' e' (l'.trans (Bm ..)) (λj hj=>(a' j hj).trans (cT (by have:=hi i Ah;lia))) h'⟩
def aO4{own:Nat}{K:Ab}{is:List Nat}{n:Nat}(hl:is.length=n)(h:∀i∈is,i<own):VTh own (aWm K n (aG3 is)) (aS0 is):=λ{W B H ρ σ u v k Q} e d h1 q=>by
 match u,d,h1 with
 |.tp us,⟨a,xs,e1,_,ha,ds⟩,⟨l,h1⟩=>exact⟨a,xs,e1,SqT.of ha,by rw[<-ds.length,l,hl],aGa h e ds l h1 q⟩
def aTe:Sl->Sl
 |.ow l=> .br l
 |.oo w=> .bo w
 |s=>s
def aJi:∀s:Sl,(aTe s).hold=s.hold
 |.no=>rfl
 |.sh _=>rfl
 |.ow _=>rfl
 |.br _=>rfl
 |.oo _=>rfl
 |.bo _=>rfl
def tX(no:Nat)(cap:#v[9])(ρ:EV):EV:=Al no .no++cap.map λp=>match (ρ[p.2]? :Option Sl)with
 |some s=>aTe s
 |_=> .no
def aDl{no:Nat}{cap:#v[9]}{ρ:EV}{s:Sl}(h:(tX no cap ρ)[i]? =some s)(hs:s≠.no):∃(j:Nat)(s0:Sl),no<=i/\(∀σ:St,(mW no cap σ)[i]? =some ((σ[j]? :Option (Option V))).join)/\ρ[j]? =some s0/\s=aTe s0:=by
 unfold tX at h;rw[Eb]at h;split at h
 ·rw[Bk]at h;split at h
  ·cases h;exact(hs rfl).elim
  ·cases h
 ·rename_i hn;rw[Cy]at hn h;rw[Ay]at h;cases hc:cap[i-no]? with
  |none=>rw[hc]at h;cases h
  |some p=>
   rw[hc]at h;have h':=Bq h;dsimp only at h';split at h'
   ·rename_i s0 h0;refine⟨p.2,s0,∅,λσ=>?_,h0,h'.symm⟩;unfold mW;rw[Fm (by rw[Cy];lia),Cy,Ay,hc];rfl
   ·exact(hs h'.symm).elim
def EE.cap{W B:Addr->Prop}{H:Hp}{ρ:EV}{σ:St}{no:Nat}{cap:#v[9]}(e:EE W B H ρ σ):EE W B H (tX no cap ρ) (mW no cap σ):=by
 refine⟨e.eb,by simp[tX,mW],λi u h=>?_,λi s w h hs=>?_⟩
 ·obtain⟨j,s0,_,c,h,e0⟩:=aDl h (by intro z;cases z);have:s0=.sh u:=by cases s0<;>cases e0<;>rfl
  obtain⟨v,h1,h2⟩:=e.sh j u (this▸h);exact⟨v,by rw[c,h1];rfl,h2⟩
 ·obtain⟨j,s0,_,c,h0,rfl⟩:=aDl h (by rintro rfl;cases hs);rw[aJi]at hs;obtain⟨p,S,h1,h2⟩:=e.hd j s0 w h0 hs;exact⟨p,S,by rw[c,h1];rfl,h2⟩
def lB(f:U->(Option U->Prop)->Prop):List U->List U->(List U->Prop)->Prop
 | [],acc,R=>R acc
 |u::r,acc,R=>f u λo=>match o with
  |some x=>lB f r (acc++[x]) R
  |none=>lB f r acc R
def aX4(G:TVg)(F:TV)(ρ:EV):U->(Option U->Prop)->Prop:=λu k=>G u ρ λρ1=>F ρ1 λs=>s.es λx=>k (some x)
structure CI(W B:Addr->Prop)(H1:Hp)(D:Addr)(ρ:EV)(us:List U)(acc:List V)(σ:St)(H:Hp):Prop where
 ee:EE W (λb=>B b∨b=D) H ρ σ
 od:∀(i:Nat)(s:Sl)(w:Own),ρ[i]? =some s->s.hold=some w->∃p S,σ[i]? =some (some (V.ref p))/\(∀b,S b->¬W b)/\¬S D/\w.φ W (λb=>B b∨b=D) S H p
 fw:Fw W H1 H
 dl:H D=some (.lst acc)
 du:DUs W (λb=>B b∨b=D) H us acc
def EE.plus{W B:Addr->Prop}{H:Hp}{ρ:EV}{σ:St}{D:Addr}{x:HO}(e:EE W B H ρ σ)(n:H D=none)(m:Mt x:=by trivial):EE W (λb=>B b∨b=D) (upd H D x) ρ σ:=by
 have f:=e.eb.new (o:=x) n;have k:∀b o,¬B b->H b=some o->¬(B b∨b=D)/\upd H D x b=some o:=λb o nb h=>⟨λz=>z.elim nb (aR h n),(e.eb.keep f b o nb h).2⟩;refine⟨⟨λp hp=>?_,λp hp=> .inl (e.eb.wb p hp),f.wo⟩,e.len,λi u h=>?_,λi s w h hs=>?_⟩
 ·rcases hp with hp|hp
  ·exact(e.eb.to f).bl p hp
  ·rw[hp,aM];exact⟨_,rfl,m⟩
 ·obtain⟨v,h1,h2⟩:=e.sh i u h;exact⟨v,h1,DU.mono k u h2⟩
 ·obtain⟨p,S,h1,h2,h3⟩:=e.hd i s w h hs;exact⟨p,S,h1,h2,w.mono k (λb hb=>let⟨y,hx,_⟩:=w.th h3 b hb;aL (aR hx n)) h3⟩
def EE.as{W B:Addr->Prop}{H:Hp}{ρ:EV}{σ σ':St}(e:EE W B H ρ σ)(ρo:∀(i:Nat)(s:Sl),ρ[i]? =some s->s≠Sl.no->σ'[i]? =σ[i]?)(l:σ'.length=σ.length):EE W B H ρ σ':=
 ⟨e.eb,e.len.trans l.symm,λi u h=>by rw[ρo i _ h (by intro z;cases z)];exact e.sh i u h,λi s w h hs=>by
  rw[ρo i s h (by rintro rfl;cases hs)];exact e.hd i s w h hs⟩
def CI.to{W B:Addr->Prop}{H1 H H2:Hp}{D:Addr}{ρ:EV}{us:List U}{acc:List V}{σ σ':St}(c:CI W B H1 D ρ us acc σ H)(nw:¬W D)(f:Fw W H H2)(ρo:∀(i:Nat)(s:Sl),ρ[i]? =some s->s≠Sl.no->σ'[i]? =σ[i]?)(l:σ'.length=σ.length):CI W B H1 D ρ us acc σ' H2:=
 ⟨(c.ee.to f).as ρo l,λi m w h hs=>by
  rw[ρo i m h (by rintro rfl;cases hs)];obtain⟨p,S,h1,h2,h3,h4⟩:=c.od i m w h hs;exact⟨p,S,h1,h2,h3,w.to c.ee.eb f h2 h4⟩,c.fw.trans f,f.fr _ _ nw c.dl,DUs.mono (c.ee.eb.keep f) us c.du⟩
def CI.put{W B:Addr->Prop}{H1 H:Hp}{D:Addr}{ρ:EV}{us:List U}{acc:List V}{σ:St}{u:U}(c:CI W B H1 D ρ us acc σ H)(n1:H1 D=none)(nw:¬W D)(d:DU W (λb=>B b∨b=D) H u v):CI W B H1 D ρ (us++[u]) (acc++[v]) σ (upd H D (.lst (acc++[v]))):=by
 have k:∀b o,¬(B b∨b=D)->H b=some o->¬(B b∨b=D)/\upd H D (.lst (acc++[v])) b=some o:=λb o nb h=>⟨nb,(aL (λz=>nb (.inr z))).trans h⟩;have ww:∀p,W p->Wll (upd H D (.lst (acc++[v]))) p:=λp hp=>by
  obtain⟨x,y,z,h⟩:=c.fw.wo p hp;exact⟨x,y,z,(aL (λq:p=D=>nw (by rw[<-q];exact hp))).trans h⟩
 have od:∀(i:Nat)(s:Sl)(w:Own),ρ[i]? =some s->s.hold=some w->∃p S,σ[i]? =some (some (V.ref p))/\(∀b,S b->¬W b)/\¬S D/\w.φ W (λb=>B b∨b=D) S (upd H D (.lst (acc++[v]))) p:=λi s w h hs=>by
  obtain⟨p,S,h1,h2,h3,h4⟩:=c.od i s w h hs;exact⟨p,S,h1,h2,h3,w.mono k (λb hb=>aL (λq:b=D=>h3 (by rw[<-q];exact hb))) h4⟩
 refine⟨⟨⟨λp hp=>?_,c.ee.eb.wb,ww⟩,c.ee.len,λi u' h=>?_,λi m w h hs=>let⟨p,S,h1,h2,_,h4⟩:=od i m w h hs;⟨p,S,h1,h2,h4⟩⟩,od,⟨λb o w h=>?_,ww⟩,aM,DUs.mono k _ (c.du.app (DUs.one d))⟩
 ·by_cases z:p=D
  ·rw[z,aM];exact⟨_,rfl,trivial⟩
  ·rw[aL z];exact c.ee.eb.bl p hp
 ·obtain⟨v',h1,h2⟩:=c.ee.sh i u' h;exact⟨v',h1,DU.mono k u' h2⟩
 ·rw[aL (aR h n1)];exact c.fw.fr b o w h
def aLr{no:Nat}{cap:#v[9]}{ρ:EV}{σ σ':St}(a:∀i,no<=i->σ'[i]? =σ[i]?):∀(i:Nat)(s:Sl),(tX no cap ρ)[i]? =some s->s≠Sl.no->σ'[i]? =σ[i]? :=λi s h n=>let⟨_,_,q,_⟩:=aDl h n;a i q
structure WkC(W B:Addr->Prop)(H1:Hp)(J:It)(l:List U):Prop where
 stop:∀{B2 H2},Tr B H1 B2 H2->Fw W H1 H2->J.stop l.length H2
 go:∀{B2 H2} i,Tr B H1 B2 H2->Fw W H1 H2->i<l.length->J.go i H2
 yld:∀{B2 H2}(i:Nat){x H' u},EB W B2 H2->Tr B H1 B2 H2->Fw W H1 H2->l[i]? =some u->J.yld i H2 x H'->Fw W H2 H'/\DU W B2 H' u x
def aTb(wi:TI)(F:TVa):Prop:=∀{W B:Addr->Prop}{ρ:EV}{σ:St}{H:Hp}{R:List U->Prop}{Q:It->Hp->Prop},EE W B H ρ σ->F ρ R->(∀l J H',R l->Fw W H H'->WkC W B H' J l->Q J H')->wi σ H Q
def VIc(X:Cx)(tg iter:Bw)(F:TVa):Prop:=∃wi,PI X tg iter wi/\aTb wi F
def vic{X:Cx}{tg iter:Bw}{F:TVa}(h:VI X tg iter F):VIc X tg iter F:=let⟨wi,p,f⟩:=h;⟨wi,p,λe h q=>f e h λl J H' h1 w k=>q l J H' h1 w ⟨λt _=>k.stop t,λi t _ hi=>k.go i t hi,λi _ _ _ e t _ h y=>k.yld i e t h y⟩⟩
def aZo(F:TV):TVa:=λρ R=>F ρ λs=>match s.rd with
 |.ls l=>R l
 |_=>False
def aZw{X:Cx}{tg e:Bw}{F:TV}(h:VE X e F):VIc X tg e (aZo F):=let⟨_,p,f⟩:=h;⟨_,aD5 p,λ{W B ρ σ H R Q} e h q=>f e h λs v H1 h1 w r=>by
 have d:=r.db e.eb;revert h1 d;generalize s.rd=u;intro h1 d;split at h1
 ·obtain⟨a,xs,rfl,nw,ha,ds⟩:=d.ls (e.to w).eb;refine⟨a,rfl,⟨xs,SqL.of ha⟩,q _ _ _ h1 w ⟨λ_ f=>⟨xs,SqL.of (f.fr _ _ nw ha),by rw[ds.length];exact Am _⟩,λi _ f h=>⟨xs,xs[i]'(by rw[<-ds.length];exact h),SqL.of (f.fr _ _ nw ha),Ak _⟩,λi x H' u e t f h y=>?_⟩⟩;obtain⟨rfl,y⟩:=y;obtain⟨x',g1,g2⟩:=ds.get h;rw[y xs (SqL.of (f.fr _ _ nw ha))]at g1;cases g1;exact⟨e.refl,DU.mono t u g2⟩
 ·exact h1.elim⟩
def aF5(no:Nat)(cap:#v[9])(Fi:TVa)(G:TVg)(F:TV):TV:=λρ R=>Fi ρ λl=>l.length<=10000/\lB (aX4 G F (tX no cap ρ)) l [] λus=>R (.ow us)
def CW(W B:Addr->Prop)(H1:Hp)(D:Addr)(ρ:EV)(l:List U)(f:U->(Option U->Prop)->Prop)(R:List U->Prop)(i m:Nat)(σ:St)(H:Hp):Prop:=m=l.length-i/\i<=l.length/\∃us acc,CI W B H1 D ρ us acc σ H/\us.length<=i/\lB f (l.drop i) us R
def CW.beg{W B:Addr->Prop}{H1:Hp}{D:Addr}{ρ:EV}{σ:St}{no:Nat}{cap:#v[9]}{l:List U}{f:U->(Option U->Prop)->Prop}{R:List U->Prop}(e:EE W B H1 ρ σ)(n1:H1 D=none)(h:lB f l [] R):CW W B H1 D (tX no cap ρ) l f R 0 l.length (mW no cap σ) (upd H1 D (.lst [])):=by
 refine⟨by simp,Bt _,[],[],⟨e.cap.plus n1,λi m w h hs=>?_,e.eb.new n1,aM,rfl⟩,Am _,h⟩;obtain⟨p,S,h1,h2,h3⟩:=e.cap.hd i m w h hs;have f:=e.eb.new (o:=.lst []) n1;refine⟨p,S,h1,h2,λz=>?_,w.mono (λb o nb h=>⟨λz=>z.elim nb (aR h n1),(e.eb.keep f b o nb h).2⟩) (λb hb=>let⟨x,hx,_⟩:=w.th h3 b hb;aL (aR hx n1)) h3⟩;obtain⟨x,hx,_⟩:=w.th h3 D z;rw[n1]at hx;cases hx
def CW.turn{W B:Addr->Prop}{H1 H H3:Hp}{D:Addr}{ρ:EV}{σ σ0:St}{no:Nat}{cap:#v[9]}{l:List U}{f:U->(Option U->Prop)->Prop}{R:List U->Prop}{i m:Nat}{J:It}{x:V}(e:EE W B H1 ρ σ0)(n1:H1 D=none)(ll:l.length<=10000)(wk:WkC W B H1 J l)(hlt:i<l.length)(c:CW W B H1 D (tX no cap ρ) l f R i m σ H)(y:J.yld i H x H3):
  ∃u us,EE W (λb=>B b∨b=D) H3 (tX no cap ρ) σ/\DU W (λb=>B b∨b=D) H3 u x/\f u (λo=>match o with|some y=>lB f (l.drop (i+1)) (us++[y]) R|none=>lB f (l.drop (i+1)) us R)/\
   (∀(y:U)(v:V)(σ':St)(H':Hp),lB f (l.drop (i+1)) (us++[y]) R->Fw W H3 H'->DU W (λb=>B b∨b=D) H' y v->σ'.length=σ.length->(∀i,no<=i->σ'[i]? =σ[i]?)->∃ys,H' D=some (.lst ys)/\ys.length<sizeLine/\∃m',m'<m/\CW W B H1 D (tX no cap ρ) l f R (i+1) m' σ' (upd H' D (.lst (ys++[v]))))/\
   (∀(σ':St)(H':Hp),lB f (l.drop (i+1)) us R->Fw W H3 H'->σ'.length=σ.length->(∀i,no<=i->σ'[i]? =σ[i]?)->∃m',m'<m/\CW W B H1 D (tX no cap ρ) l f R (i+1) m' σ' H'):=by
 have nw:¬W D:=λw=>e.eb.dm D (e.eb.wb D w) n1;obtain⟨rfl,hi,us,acc,c,hl,h2⟩:=c;rw[Qr hlt]at h2;have tr:Tr B H1 (λb=>B b∨b=D) H:=λb o nb h=>⟨λz=>z.elim nb (aR h n1),(e.eb.keep c.fw b o nb h).2⟩;obtain⟨w3,d⟩:=wk.yld i c.ee.eb tr c.fw (Ak hlt) y;have c3:=c.to (σ':=σ) nw w3 (λ_ _ _ _=>rfl) rfl;have hz:(10000:Nat)<sizeLine:=by decide
 refine⟨l[i],us,c3.ee,d,h2,λy v σ' H' h3 f3 d3 l3 a3=>?_,λσ' H' h3 f3 l3 a3=>⟨l.length-(i+1),∅,rfl,hlt,us,acc,c3.to nw f3 (aLr a3) l3,∅,h3⟩⟩;have c4:=c3.to nw f3 (aLr a3) l3;have hz2:=c4.du.length;refine⟨acc,c4.dl,∅,l.length-(i+1),∅,rfl,hlt,us++[y],acc++[v],c4.put n1 nw d3,?_,h3⟩;rw[An];show us.length+1<=i+1
 lia
def CW.end_{W B:Addr->Prop}{H0 H1 H:Hp}{D:Addr}{ρ:EV}{σ:St}{l:List U}{f:U->(Option U->Prop)->Prop}{R:Sl->Prop}(w:Fw W H0 H1)(n1:H1 D=none)(c:CW W B H1 D ρ l f (λus=>R (.ow us)) l.length m σ H)(q:∀s v H',R s->Fw W H0 H'->RO W B H0 H' s v->Q v H'):Q (.ref D) H:=by
 obtain⟨_,_,us,acc,c,_,h2⟩:=c;rw[Vm]at h2;exact q _ _ _ h2 (w.trans c.fw) (RO.back (s:=.ow us) w ⟨D,acc,rfl,n1,c.dl,c.du⟩)
def zU{no:Nat}{cap:#v[9]}{Fi:TVa}{G:TVg}{F:TV}(hi:aTb wi Fi)(hg:VTh no g G):VT (vU no cap wi g (tV F)) (aF5 no cap Fi G F):=λ{W B ρ σ H R Q} e h q=>hi e h λl J H1 h1 w wk D n1=>by
 have e1:=e.to w;refine⟨CW W B H1 D (tX no cap ρ) l _ _,⟨_,CW.beg e1 n1 h1.2⟩,λi m σ2 H2 c=>?_⟩;have tr:Tr B H1 (λb=>B b∨b=D) H2:=let⟨_,_,_,_,c,_⟩:=c;λb o nb h=>⟨λz=>z.elim nb (aR h n1),(e1.eb.keep c.fw b o nb h).2⟩;have fw:Fw W H1 H2:=let⟨_,_,_,_,c,_⟩:=c;c.fw;by_cases hlt:i<l.length
 ·refine .inr ⟨wk.go i tr fw hlt,λx H3 y=>?_⟩;obtain⟨u,us,e3,d3,h3,put,_⟩:=c.turn e1 n1 h1.1 wk hlt y;refine hg e3 d3 h3 λρ' σ' e' l' a' h'=>⟨W,_,ρ',_,e',h',λs v H5 h5 w5 r5=>?_⟩;obtain⟨y,hy,dy⟩:=r5.du e'.eb h5;exact put y v σ' H5 hy w5 dy l' a'
 ·have hi':=c.2.1;obtain rfl:i=l.length:=by lia
  exact .inl ⟨wk.stop tr fw,c.end_ w n1 q⟩
def oW{elt iter tg:Bw}{own:List Str}{cap:#v[9]}{Fi:TVa}{G:TVg}{F:TV}(sc0:Scope)(N0:List Str)(hsc:X.env.scope=sc0)(hN:X.N=N0)(hcell:HC X)
  (ok:wH scope sc0 cap N0) (hc:X.calm=true) (hi:VIc X tg iter Fi) (hg:∀cl C s2 H2 fp,PG #v[6] tg g) (hG:VTh own.length g G) (he:∀cl C s2 H2 fp,VE #v[6] elt F)
  (hs:FS X iter:=by intro _;rfl):VE X #v[5] (aF5 own.length cap Fi G F):=
 let⟨_,p,f⟩:=hi;⟨_,aW1 sc0 N0 hsc hN hcell ok hc p hg (λcl C s2 H2 fp=>(he cl C s2 H2 fp).can) hs,zU f hG⟩
def aS1{x:Str}{elt iter tg:Bw}{own:List Str}{cap:#v[9]}{pos spos py:Pos}{Fi:TVa}{G:TVg}{F:TV}(hnd:X.N.Nodup)(sc0:Scope)(N0:List Str)(hsc:X.env.scope=sc0)(hN:X.N=N0)(hcell:HC X)
  (ok:wH scope sc0 cap N0) (hc:X.calm=true) (hi:VIc X tg iter Fi) (hg:∀cl C s2 H2 fp,PG #v[6] tg g) (hG:VTh own.length g G) (he:∀cl C s2 H2 fp,VE #v[6] elt F)
  (hi':X.N[i]? =some x:=by rfl) (hx:Loc X.env.scope x:=by exact Ex rfl) (hsw:Dt #v[5] (some (.Name x py)) spos.line X.env=pure true:=by rfl)
  (hs:FS X iter:=by intro _;rfl) (hf:FL X x:=by trivial):VS X (.Assign [.Name x py] #v[5] spos) (aRa i (aF5 own.length cap Fi G F)):=
 let⟨_,p,f⟩:=hi;⟨_,aSq hnd hi' hx sc0 N0 hsc hN hcell ok hc p hg (λcl C s2 H2 fp=>(he cl C s2 H2 fp).can) hsw hs hf,λo h j=>zU f hG o.ee h λs v H1 h1 w r=>xJ o w r h1 j.nx⟩
def uL{a:Bw}{op}{F:TV}(h:VE X a F):VE X (.BoolOp op [a] pos) F:=let⟨_,p,f⟩:=h;⟨_,aUf p,f⟩
def aHt(g:List U->(Sl->Prop)->Prop)(G:TVa):TV:=λρ R=>G ρ λus=>g us R
def bD{id:String}{g:List U->(Sl->Prop)->Prop}{x:Str}{a:Bw}{es:List Bw}{G:TVa}{p pos:Pos}(hc:gF X (.builtin id) r)(cb:CB r g)(hm:X.mg x=none)(hv:Gc x=some (.builtin id))(ha:VB X (a::es) G)(hg:Gl X x:=by rfl)(hn:x≠"__name__":=by decide)(hdb:ND x:=by decide)
  (he:SE X a es:=by rfl) (hpl:BT X pos es:=by rfl):VE X (.Call (.Name x p) (a::es) [] pos) (aHt g G):=
 let⟨_,p,f⟩:=ha;⟨_,jT hc hg hm hv p hn hdb he hpl,λe h q=>f e h λus vs H1 h1 w d=>cb (e.to w).eb d h1 λs z H2 h2 w2 r=>q _ _ _ h2 (w.trans w2) (r.back w)⟩
def dX{T:String}{g:List U->(Sl->Prop)->Prop}{x:Str}{a:Bw}{es:List Bw}{G:TVa}{p pos:Pos}(hc:gF X (.type T) r)(cb:CB r g)(hm:X.mg x=none)(hv:Gc x=some (.type T))(ha:VB X (a::es) G)(hg:Gl X x:=by rfl)(hn:x≠"__name__":=by decide)(hdb:ND x:=by decide)
  (he:SE X a es:=by rfl) (hpl:BT X pos es:=by rfl):VE X (.Call (.Name x p) (a::es) [] pos) (aHt g G):=
 let⟨_,p,f⟩:=ha;⟨_,xG hc hg hm hv p hn hdb he hpl,λe h q=>f e h λus vs H1 h1 w d=>cb (e.to w).eb d h1 λs z H2 h2 w2 r=>q _ _ _ h2 (w.trans w2) (r.back w)⟩
def gIx:U->U->(Sl->Prop)->Prop
 |.ls l,.v (.int i),R=>∃u,atI l i=some u/\R (.sh u)
 |.tp l,.v (.int i),R=>∃u,atI l i=some u/\R (.sh u)
 |_,_,_=>False
def bO{K:Ab}:O2 (rIx K) gIx:=λ{W B H u v x y R Q} e d1 d2 h q=>by
 unfold gIx at h;split at h
 ·exact .inl (aT1 e d1 d2 h q)
 ·exact .inr (.inl (aT2 e d1 d2 h q))
 ·exact h.elim
def aWi:U->U->(Sl->Prop)->Prop
 |.v (.int i),.v (.int j),R=>R (.sh (.n (i+j)))
 |.v (.str a),.v (.str b),R=>a.length+b.length<=10000/\R (.sh (.s (a++b)))
 |.ls l,.ls m,R=>l.length+m.length<=10000/\R (.ow (l++m))
 |.tp l,.tp m,R=>l.length+m.length<=10000/\R (.sh (.tp (l++m)))
 |_,_,_=>False
def sz4{n:Nat}(h:n<=10000):n<=sizeLine:=Bd h ⋯
def aSr(X:Cx):R2:=λx y H Q=>(∃i j,x=.int i/\y=.int j/\Q (.int (i+j)) H)∨(∃i j,x=.str i/\y=.str j/\i.length+j.length<=sizeLine/\Q (.str (i++j)) H)∨aW6 x y H Q∨aSs X.K x y H Q∨∃a b ys,x=.ref a/\y=.ref b/\SqT X.K H a []/\SqT X.K H b ys/\Q (.ref b) H
def bV:OpR X (Gs .Add) (aSr X):=tZ.or (aHd.or (aT7.or (aQa.or aNg)))
def cM:O2 (aSr X) aWi:=λ{W B H u v x y R Q} e d1 d2 h q=>by
 unfold aWi at h;split at h
 ·exact .inl ⟨_,_,d1.int,d2.int,q _ _ _ h e.refl ⟨rfl,rfl⟩⟩
 ·exact .inr (.inl ⟨_,_,d1.fl.1,d2.fl.1,sz4 h.1,q _ _ _ h.2 e.refl ⟨rfl,rfl⟩⟩)
 ·obtain⟨p,xs,rfl,_,h1,ds⟩:=d1.ls e;obtain⟨p',ys,rfl,_,h2,ds'⟩:=d2.ls e;have:=ds.length;have:=ds'.length;refine .inr (.inr (.inl ⟨p,p',xs,ys,rfl,rfl,h1,h2,sz4 ∅,λr n=>?_⟩));have f:=e.new (o:=.lst (xs++ys)) n;exact q _ _ _ h.2 f ⟨r,_,rfl,n,aM,DUs.mono (λb o nb h=>⟨λz=>z.elim nb (aR h n),(e.keep f b o nb h).2⟩) _ (ds.app ds')⟩
 ·rename_i l m;obtain⟨p,xs,rfl,_,h1,ds⟩:=d1.tp;obtain⟨p',ys,rfl,nb,h2,ds'⟩:=d2.tp;have:=ds.length;have:=ds'.length;cases l with
  |nil=>
   rw[show xs=[]from ds]at h1;exact .inr (.inr (.inr (.inr ⟨p,p',ys,rfl,rfl,SqT.of h1,SqT.of h2,q (.sh (.tp m)) _ _ h.2 e.refl ⟨p',ys,rfl,nb,h2,ds'⟩⟩)))
  |cons a l=>
   refine .inr (.inr (.inr (.inl ⟨p,p',xs,ys,rfl,rfl,SqT.of h1,SqT.of h2,?_,sz4 ∅,λz=>?_,λ_ r n=>?_⟩)))
   ·intro z;rw[z]at ds;obtain⟨_,_,e1,_⟩:=ds;cases e1
   ·subst z;have hm:m=[]:=Ic.mp (by simpa using this);subst hm;exact q _ _ _ h.2 e.refl ⟨p,xs,rfl,by assumption,h1,by rw[Bs];exact ds⟩
   ·have f:=e.new (o:=.tup (xs++ys)) n;exact q _ _ _ h.2 f ⟨r,_,rfl,e.nw n,aM,DUs.mono (e.keep f) _ (ds.app ds')⟩
 ·exact h.elim
def aHu(g g':U->U->(Sl->Prop)->Prop)(a b c:TV):TV:=λρ R=>a ρ λs=>b ρ λs'=>g s.rd s'.rd λr=>match r.rd with
 |.v (.bl k)=>(k=true->c ρ λs''=>g' s'.rd s''.rd R)/\(k=false->R (.sh (.b false)))
 |_=>False
def aGc{r r':R2}{g g':U->U->(Sl->Prop)->Prop}{ta tb tc:TE}{F G E:TV}(o:O2 r g)(o':O2 r' g')(ha:VT ta F)(hb:VT tb G)(hc:VT tc E):VT (aHm r r' ta tb tc) (aHu g g' F G E):=λe h q=>by
 refine ha e h λs v H1 h1 f1 r1=>?_;have e1:=e.to f1;refine hb e1 h1 λs' v' H2 h2 f2 r2=>?_;have e2:=e1.to f2;have db2:=r2.db e1.eb;refine o e2.eb ((r1.db e.eb).to e1.eb f2) db2 h2 λs3 z H3 h3 f3 r3=>?_;have d:=r3.db e2.eb;revert h3 d;generalize s3.rd=u;intro h3 d;split at h3
 ·rename_i k;refine⟨k,d.fl.1,?_⟩;have e3:=e2.to f3;cases k with
  |true=>
   refine aAq (hc e3 (h3.1 rfl) λs4 v4 H4 h4 f4 r4=>?_);refine o' (e3.to f4).eb ((db2.to e2.eb f3).to e3.eb f4) (r4.db e3.eb) h4 λs5 v5 H5 h5 f5 r5=>?_;have ff:=((f1.trans f2).trans f3).trans f4;exact q _ _ _ h5 (ff.trans f5) (r5.back ff)
  |false=>exact yX (q _ _ _ (h3.2 rfl) ((f1.trans f2).trans f3) ⟨rfl,rfl⟩)
 ·exact h3.elim
def aF8{op op':Ss}{r r':R2}{g g':U->U->(Sl->Prop)->Prop}{a b c:Bw}{F G E:TV}(ho:OpR X (Ed op) r)(ho':OpR X (Ed op') r')(o:O2 r g)(o':O2 r' g')(ha:VE X a F)(hb:VE X b G)(hc:VE X c E)(hm:Ux [op,op'] [b,c]=false:=by with_unfolding_all rfl):VE X (.Compare a [op,op'] [b,c] pos) (aHu g g' F G E):=
 let⟨_,p,f⟩:=ha;let⟨_,p1,f1⟩:=hb;let⟨_,p2,f2⟩:=hc;⟨_,aNn ho ho' p p1 p2 hm,aGc o o' f f1 f2⟩
def aF7{op op':Ss}{r r':R2}{g g':U->U->(Sl->Prop)->Prop}{a b c:Bw}{F G E:TV}(ho:OpR X (Ed op) r)(ho':OpR X (Ed op') r')(o:O2 r g)(o':O2 r' g')(ha:VE X a F)(hb:VE X b G)(hc:VE X c E)(hm:Ux [op,op'] [b,c]=false:=by with_unfolding_all rfl):VC X (.Compare a [op,op'] [b,c] pos) (nM (aHu g g' F G E)):=
 let⟨_,p,f⟩:=ha;let⟨_,p1,f1⟩:=hb;let⟨_,p2,f2⟩:=hc;⟨_,aNy ho ho' p p1 p2 hm,zV (aGc o o' f f1 f2)⟩
def vUn(g:Int->Int)(a:TV):TV:=λρ R=>a ρ λs=>match s.rd with
 |.v (.int i)=>R (.sh (.n (g i)))
 |_=>False
def uK{a:Bw}{F:TV}(ha:VE X a F):VE X (.UnaryOp .USub a pos) (vUn (λi=> -i) F):=let⟨_,p,f⟩:=ha;⟨_,aW3 aU5 p,λe h q=>f e h λs v H1 h1 f1 r=>by
 have d:=r.db e.eb;revert h1 d;generalize s.rd=u;intro h1 d;split at h1
 ·exact⟨_,d.int,q _ _ _ h1 f1 ⟨rfl,rfl⟩⟩
 ·exact h1.elim⟩
def aU8(a:TV)(k:Str):TV:=λρ R=>a ρ λs=>match s.rd with
 |.dk ns us=>wO k ns us R
 |_=>False
theorem zK{W B:Addr->Prop}{H:Hp}{f:Str}{R:Sl->Prop}:∀{ns:List Str}{us:List U}{xs:List V},DUs W B H us xs->wO f ns us R->∃u v,R (.sh u)/\DU W B H u v/\vW ((ns.map Cr).zip xs:List (Key×V)) (Cr f)=some v
 |n::ns,u::us,_,⟨x,r,e,h,t⟩,q=>by
  subst e;rcases q with ⟨rfl,q⟩|⟨ne,q⟩
  ·exact⟨u,x,q,h,by rw[Da,Hz,vX rfl]⟩
  ·obtain⟨u',v,h1,h2,h3⟩:=zK t q;refine⟨u',v,h1,h2,?_⟩;rw[Da,Hz,rQ (λz=>ne (Lx z))];exact h3
def cX{a:Bw}{k:Str}{j pos p}{F:TV}(hu:X.A.units+1<cLine)(ha:VE X a F)(hs:aPg (.Constant (.str k) j p):=by exactλ_ _=>rfl):VE X (.Subscript a (.Constant (.str k) j p) pos) (aU8 F k):=let⟨_,p,f⟩:=ha;⟨_,aIo hu p jD hs,λe h q=>f e h λs v H1 h1 f1 r=>by
 have d:=r.db e.eb;revert h1 d;generalize s.rd=u;intro h1 d;split at h1
 ·obtain⟨p,xs,rfl,_,hp,_,ds⟩:=d.dk;obtain⟨u,v,h2,h3,h4⟩:=zK ds h1;refine⟨p,v,rfl,?_,q _ _ _ h2 f1 h3⟩;rw[<-h4];exact zW.k (k:=Cr k) hp
 ·exact h1.elim⟩
def DBs.one{W B:Addr->Prop}{H:Hp}{u:U}{vs:List V}(h:DBs W B H [u] vs):∃x,vs=[x]/\DB W B H u x:=by
 obtain⟨x,r,e,d,t⟩:=h;obtain rfl:r=[]:=t;exact⟨x,e,d⟩
def DBs.two{W B:Addr->Prop}{H:Hp}{u v:U}{vs:List V}(h:DBs W B H [u,v] vs):∃x y,vs=[x,y]/\DB W B H u x/\DB W B H v y:=by
 obtain⟨x,r,e,d,y,r',rfl,d',t⟩:=h;obtain rfl:r'=[]:=t;exact⟨x,y,e,d,d'⟩
def aTn:List U->(Sl->Prop)->Prop
 | [.ls l],R=>R (.sh (.n l.length))
 | [.tp l],R=>R (.sh (.n l.length))
 |_,_=>False
def cR{K:Ab}:CB (λxs H Q=>∃p ys,xs=[.ref p]/\(SqL K H p ys∨SqT K H p ys)/\Q (.int ys.length) H) aTn:=λ{W B H us vs R Q} e d h q=>by
 unfold aTn at h;split at h
 ·obtain⟨x,rfl,dd⟩:=DBs.one d;obtain⟨p,xs,rfl,_,hp,ds⟩:=dd.ls e;exact⟨p,xs,rfl,.inl (SqL.of hp),by rw[<-ds.length];exact q _ _ _ h e.refl ⟨rfl,rfl⟩⟩
 ·obtain⟨x,rfl,dd⟩:=DBs.one d;obtain⟨p,xs,rfl,_,hp,ds⟩:=dd.tp;exact⟨p,xs,rfl,.inr (SqT.of hp),by rw[<-ds.length];exact q _ _ _ h e.refl ⟨rfl,rfl⟩⟩
 ·exact h.elim
def DUs.bls{W B:Addr->Prop}{H:Hp}:∀{bs:List Bool}{xs:List V},DUs W B H (bs.map U.b) xs->xs=bs.map V.bl
 | [],_,h=>h
 |_::_,_,⟨x,r,e,d,t⟩=>by rw[e,d.1,DUs.bls t];rfl
def DUs.ints{W B:Addr->Prop}{H:Hp}:∀{ns:List Int}{xs:List V},DUs W B H (ns.map U.n) xs->xs=ns.map V.int
 | [],_,h=>h
 |_::_,_,⟨x,r,e,d,t⟩=>by rw[e,d.1,DUs.ints t];rfl
inductive aRs(f:List Bool->Bool)(us:List U)(R:(Sl->Prop)):Prop
 |mk (bs:List Bool) (q0_:us=[.ls (bs.map U.b)]) (q1_:R (.sh (.b (f bs)))):aRs f us R
def aYx(f:List Bool->Bool):List U->(Sl->Prop)->Prop:=λus R=>aRs f us R
def aDm{X:Cx}{f:List Bool->Bool}(hc:X.calm=true):CB (λxs H Q=>∃(p:Addr)(bs:List Bool),xs=[.ref p]/\SqL X.K H p (bs.map V.bl)/\X.calm=true/\Q (.bl (f bs)) H) (aYx f):=λ{W B H us vs R Q} e d ⟨bs,eu,h⟩ q=>by
 subst eu;obtain⟨x,rfl,dd⟩:=DBs.one d;obtain⟨p,xs,rfl,_,hp,ds⟩:=dd.ls e;rw[ds.bls]at hp;exact⟨p,bs,rfl,SqL.of hp,hc,q _ _ _ h e.refl ⟨rfl,rfl⟩⟩
def aTm:List U->(Sl->Prop)->Prop
 | [.v (.int i)],R=>R (.sh (.n i))
 | [.v (.bl k)],R=>R (.sh (.n (if k then 1 else 0)))
 |_,_=>False
def aDn:CB (λxs H Q=>(∃i,xs=[.int i]/\Q (.int i) H)∨∃k,xs=[.bl k]/\Q (.int (if k then 1 else 0)) H) aTm:=λ{W B H us vs R Q} e d h q=>by
 unfold aTm at h;split at h
 ·obtain⟨x,rfl,dd⟩:=DBs.one d;exact .inl ⟨_,by rw[dd.int],q _ _ _ h e.refl ⟨rfl,rfl⟩⟩
 ·obtain⟨x,rfl,dd⟩:=DBs.one d;exact .inr ⟨_,by rw[dd.fl.1],q _ _ _ h e.refl ⟨rfl,rfl⟩⟩
 ·exact h.elim
def aSj:List U->(Sl->Prop)->Prop
 | [.ls l],R=>R (.ow l)
 | [.tp l],R=>R (.ow l)
 |_,_=>False
def sE{K:Ab}:CB (aN0 K) aSj:=λ{W B H us vs R Q} e d h q=>by
 have fin:∀{l ys}(ds:DUs W B H l ys)(h:R (.ow l)) r,H r=none->Q (.ref r) (upd H r (.lst ys)):=λ{l ys} ds h r n=>by
  have f:=e.new (o:=.lst ys) n;exact q _ _ _ h f ⟨r,_,rfl,n,aM,DUs.mono (λb o nb h=>⟨λz=>z.elim nb (aR h n),(e.keep f b o nb h).2⟩) _ ds⟩
 unfold aSj at h;split at h
 ·obtain⟨x,rfl,dd⟩:=DBs.one d;obtain⟨p,xs,rfl,_,hp,ds⟩:=dd.ls e;exact⟨p,xs,rfl,.inl (SqL.of hp),fin ds h⟩
 ·obtain⟨x,rfl,dd⟩:=DBs.one d;obtain⟨p,xs,rfl,_,hp,ds⟩:=dd.tp;exact⟨p,xs,rfl,.inr (SqT.of hp),fin ds h⟩
 ·exact h.elim
def aMe:List U->(Sl->Prop)->Prop
 | [.ls l],R=>R (.sh (.tp l))
 | [.tp l],R=>R (.sh (.tp l))
 |_,_=>False
def aAf{K:Ab}:CB (aIu K) aMe:=λ{W B H us vs R Q} e d h q=>by
 unfold aMe at h;split at h
 ·obtain⟨x,rfl,dd⟩:=DBs.one d;obtain⟨p,xs,rfl,_,hp,ds⟩:=dd.ls e;refine⟨p,xs,rfl,.inl ⟨SqL.of hp,λr n=>?_⟩⟩;have f:=e.new (o:=.tup xs) n;exact q _ _ _ h f ⟨r,_,rfl,e.nw n,aM,DUs.mono (e.keep f) _ ds⟩
 ·obtain⟨x,rfl,dd⟩:=DBs.one d;obtain⟨p,xs,rfl,nb,hp,ds⟩:=dd.tp;exact⟨p,xs,rfl,.inr ⟨SqT.of hp,q _ _ _ h e.refl ⟨p,xs,rfl,nb,hp,ds⟩⟩⟩
 ·exact h.elim
def dH{x:Str}{i:Int}{t:Tok}(hm:X.mg x=some (.int i t))(hg:Gl X x:=by rfl)(hd:ND x:=by decide):VE X (.Name x pos) (vC (.n i)):=⟨_,aIp (v:=.int i) hg hm ⟨_,rfl⟩ hd,aPa rfl⟩
def aGb{st:Stmt}:VS X st (λ_ _=>False):=⟨_,aFn,λ_ h _=>h⟩
def aX8(neg:Bool)(F:TV):TV:=λρ R=>F ρ λs=>match s.rd with
 |.v x=>R (.sh (.b (if neg then !decide (x=.non)else decide (x=.non))))
 |.op _=>False
 |_=>R (.sh (.b neg))
def DB.non{W B:Addr->Prop}{H:Hp}{u:U}(e:EB W B H)(d:DB W B H u y)(h1:∀x,u≠.v x)(h2:∀o,u≠.op o):y≠.non:=by
 intro z;subst z;cases u with
 |v x=>exact h1 x rfl
 |op o=>exact h2 o rfl
 |tp l=>obtain⟨_,_,q,_⟩:=d.tp;cases q
 |ls l=>obtain⟨_,_,q,_⟩:=d.ls e;cases q
 |ob C ns us=>obtain⟨_,_,_,q,_⟩:=d.ob;cases q
 |dk ns us=>obtain⟨_,_,q,_⟩:=d.dk;cases q
 |wl=>
  rcases d with ⟨_,q,_⟩|⟨_,_,_,q,_⟩<;>cases q
def aRi{F:TV}(f:VT t F):VT (aSw t) (aX8 true F):=λe h q=>f e h λs v H1 h1 w r=>by
 have d:=r.db e.eb;revert h1 d;generalize s.rd=u;intro h1 d;split at h1
 ·rw[d.fl.1];exact q _ _ _ h1 w ⟨rfl,rfl⟩
 ·exact h1.elim
 ·rename_i n1 n2;rw[decide_eq_false (d.non (e.to w).eb n1 n2)];exact q _ _ _ h1 w ⟨rfl,rfl⟩
def aYp{F:TV}(h:VT t F):VTc (tB t) (nM F):=zV h
def aEm{a:Bw}{j pos pos'}{F:TV}(ha:VE X a F):VC X (.Compare a [.IsNot] [.Constant .none j pos'] pos) (nM (aX8 true F)):=let⟨_,p,f⟩:=ha;⟨_,aUi (aQd p),aYp (aRi f)⟩
inductive Tg where
 |non|bl|int|str|tp|ls|dk
def tyU:U->Option Tg
 |.v .non=>some .non
 |.v (.bl _)=>some .bl
 |.v (.int _)=>some .int
 |.v (.str _)=>some .str
 |.tp _=>some .tp
 |.ls _=>some .ls
 |.dk _ _=>some .dk
 |_=>none
def Tg.nm:Tg->String
 |.non=>"NoneType"|.bl=>"bool"|.int=>"int"|.str=>"str"|.tp=>"tuple"|.ls=>"list"|.dk=>"dict"
def isT:Tg->Tg->Bool
 |.non,.non=>true
 |.bl,.bl=>true
 |.bl,.int=>true
 |.int,.int=>true
 |.str,.str=>true
 |.tp,.tp=>true
 |.ls,.ls=>true
 |.dk,.dk=>true
 |_,_=>false
def aXy{W B:Addr->Prop}{H:Hp}{u:U}{t:Tg}{K:Ab}(e:EB W B H)(d:DB W B H u y)(h:tyU u=some t):uP K H y (.type t.nm):=by
 unfold tyU at h;split at h<;>cases h
 ·rw[d.fl.1];exact .non
 ·rw[d.fl.1];exact .bl _
 ·rw[d.fl.1];exact .int _
 ·rw[d.fl.1];exact .str _
 ·obtain⟨p,xs,rfl,_,h,_⟩:=d.tp;exact .tup h
 ·obtain⟨p,xs,rfl,_,h,_⟩:=d.ls e;exact .lst h
 ·obtain⟨p,xs,rfl,_,h,_⟩:=d.dk;exact .dK h
def aTw{K:Ab}{t n:Tg}(hn:n≠.non):Dk K (.type t.nm) (.type n.nm)=some (isT t n):=by
 cases t<;>cases n<;>first|rfl|exact(hn rfl).elim
def aZn(n:Tg)(F:TV):TV:=λρ R=>F ρ λs=>∃t,tyU s.rd=some t/\R (.sh (.b (isT t n)))
def kW{x:Str}{a:Bw}{F:TV}{p p' pos:Pos}(n:Tg)(hn:n≠.non)(hm:X.mg "isinstance"=none)(hm2:X.mg x=none)(hv:Gc x=some (.type n.nm))(ha:VE X a F)(hg:Gl X "isinstance":=by rfl)(hg2:Gl X x:=by rfl)(h1:x≠"__name__":=by decide)(h2:ND x:=by decide)
  (hs:Bc [a,.Name x p'] X.env=(false,eval a X.env)::Bc [.Name x p'] X.env:=by rfl) (hs2:Bc [.Name x p'] X.env=(false,eval (.Name x p') X.env)::Bc [] X.env:=by rfl) (hpl:BT X pos [.Name x p']:=by rfl):
  VE X (.Call (.Name "isinstance" p) [a,.Name x p'] [] pos) (aZn n F):=
 let⟨_,q,f⟩:=ha;⟨_,jT aEz hg hm Rp (bK q (bK (aIm (v:=.ty n.nm) hg2 hm2 hv rfl h1 h2) dN hs2) hs) ⋯ ⋯ hs hpl,λe h q=>f e h λs v H1 ⟨t,ht,h1⟩ w r=>
  ⟨_,_,_,_,rfl,aXy (K:=X.K) (e.to w).eb (r.db e.eb) ht,aTw hn,q _ _ _ h1 w ⟨rfl,rfl⟩⟩⟩
def gIn(neg:Bool):U->U->(Sl->Prop)->Prop
 |u,.ls l,R=>u.dt 40/\U.dts 40 l/\R (.sh (.b (if neg then !(l.any λe=>e.eq u)else l.any λe=>e.eq u)))
 |u,.tp l,R=>u.dt 40/\U.dts 40 l/\R (.sh (.b (if neg then !(l.any λe=>e.eq u)else l.any λe=>e.eq u)))
 |_,_,_=>False
theorem aGx(u:U):∀l:List U,((U.ds l).any λe=>e.eq u.d)=l.any λe=>e.eq u
 | []=>rfl
 |a::l=>by rw[U.ds,Ig,Ig,aGx u l];rfl
def aSo{K:Ab}{neg:Bool}:O2 (aUo K neg) (gIn neg):=λ{W B H u v x y R Q} e d1 d2 h q=>by
 unfold gIn at h;split at h
 ·obtain⟨t1,t2,h⟩:=h;obtain⟨p,xs,rfl,_,hp,ds⟩:=d2.ls e;have h1:=U.dep 40 u t1;have h2:=U.deps 40 _ t2;exact⟨u.d,p,xs,_,d1.den t1,rfl,.inl (SqL.of hp),DUs.dens 40 _ t2 ds,∅,by rw[aGx];exact q _ _ _ h e.refl ⟨rfl,rfl⟩⟩
 ·obtain⟨t1,t2,h⟩:=h;obtain⟨p,xs,rfl,_,hp,ds⟩:=d2.tp;have h1:=U.dep 40 u t1;have h2:=U.deps 40 _ t2;exact⟨u.d,p,xs,_,d1.den t1,rfl,.inr (SqT.of hp),DUs.dens 40 _ t2 ds,∅,by rw[aGx];exact q _ _ _ h e.refl ⟨rfl,rfl⟩⟩
 ·exact h.elim
inductive aRt(us:List U)(R:(Sl->Prop)):Prop
 |mk (ns:List Int) (q0_:us=[.ls (ns.map U.n)]) (q1_:ns.length<=1000) (q2_:(∀n∈ns,0<=n/\n<=1000)) (q3_:R (.sh (.n ns.sum))):aRt us R
def aYz:List U->(Sl->Prop)->Prop:=λus R=>aRt us R
def aTf{K:Ab}:CB (aXf K) aYz:=λ{W B H us vs R Q} e d ⟨ns,eu,hl,hn,h⟩ q=>by
 subst eu;obtain⟨x,rfl,dd⟩:=DBs.one d;obtain⟨p,xs,rfl,_,hp,ds⟩:=dd.ls e;rw[ds.ints]at hp;exact⟨p,ns,rfl,SqL.of hp,hl,hn,q _ _ _ h e.refl ⟨rfl,rfl⟩⟩
def gII(f:Int->Int->Int):List U->(Sl->Prop)->Prop
 | [.v (.int i),.v (.int j)],R=>R (.sh (.n (f i j)))
 |_,_=>False
def aR9{f:Int->Int->Int}:CB (λxs H Q=>∃i j,xs=[.int i,.int j]/\Q (.int (f i j)) H) (gII f):=λ{W B H us vs R Q} e d h q=>by
 unfold gII at h;split at h
 ·obtain⟨x,y,rfl,d1,d2⟩:=DBs.two d;exact⟨_,_,by rw[d1.int,d2.int],q _ _ _ h e.refl ⟨rfl,rfl⟩⟩
 ·exact h.elim
def aYe(F:TVa)(D:TV):TV:=λρ R=>F ρ λus=>D ρ λs=>∃ns:List Int,us=[.ls (ns.map U.n)]/\match s.rd with
 |.v (.int d)=>(ns=[]->R (.sh (.n d)))/\∀m:Int,m∈ns->(∀a∈ns,a<=m)->R (.sh (.n m))
 |_=>False
def zR{a:Bw}{k:Bw}{kp:Pos}{F:TVa}{D:TV}{p pos:Pos}(hc:X.calm=true)(hm:X.mg "max"=none)(ha:VB X [a] F)(hk:VE X k D)(hg:Gl X "max":=by rfl)
  (hkw:∀{tk:TE},PE X k tk->PK X [⟨some "default",k,kp⟩] (aOm tk aQ2):=by exactλh=>aQi h aUh)
  (hall:(Gh pos (Do [⟨some "default",k,kp⟩] X.env)).all (·.1.isSome)=true:=by rfl) (hks:(Gh pos (Do [⟨some "default",k,kp⟩] X.env)).filterMap (·.1)=[("default":Str)]:=by rfl)
  (he:SE X a []:=by rfl) (hpl:BT X pos [a]:=by rfl) (hpk:(Gh pos (Do [⟨some "default",k,kp⟩] X.env)).any (·.1.isNone)=false:=by rfl):
  VE X (.Call (.Name "max" p) [a] [⟨some "default",k,kp⟩] pos) (aYe F D):=
 let⟨_,q1,f1⟩:=ha;let⟨_,q2,f2⟩:=hk;⟨_,aKm (aJe hc) hg hm boot_max q1 (hkw q2) hall hks ⋯ ⋯ he hpl hpk,λe h q=>f1 e h λus vs H1 h1 w1 d1=>f2 (e.to w1) h1 λs v H2 h2 w2 r2=>by
  obtain⟨ns,eu,h2⟩:=h2;subst eu;have e2:=(e.to w1).to w2;obtain⟨x,rfl,d⟩:=DBs.one (DBs.to (e.to w1).eb w2 d1);obtain⟨p,xs,rfl,_,hp,ds⟩:=d.ls e2.eb;rw[ds.ints]at hp;have dd:=r2.db (e.to w1).eb;revert h2 dd;generalize s.rd=u;intro h2 dd;split at h2
  ·rw[dd.int];exact⟨p,ns,_,rfl,rfl,SqL.of hp,λz=>q _ _ _ (h2.1 z) (w1.trans w2) ⟨rfl,rfl⟩,λm hm ha=>q _ _ _ (h2.2 m hm ha) (w1.trans w2) ⟨rfl,rfl⟩⟩
  ·exact h2.elim⟩
def huD{A:Bl}(hr:cO k A):A.units+101<cLine:=by have:=hr.un;lia
def Rbl{R:Sl->Prop}{c d:Bool}(q:R (.sh (.b d)))(h:c=d):R (.sh (.b c)):=h▸q
theorem eO{g:TVg}{b:TVS}{E:lW}(I:List U->EV->Prop)(hn:∀ρ,I [] ρ->E.nx ρ)(hc:∀u r ρ,I (u::r) ρ->(∀ρ',I r ρ'->gK g b E r ρ')->gK g b E (u::r) ρ):∀{l ρ},I l ρ->gK g b E l ρ
 | [],ρ,h=>hn ρ h
 |u::r,ρ,h=>hc u r ρ h λ_ h'=>eO I hn hc h'
theorem fJ{f:U->(Option U->Prop)->Prop}{R:List U->Prop}{h:U->U}:∀{l acc:List U},(∀u∈l,∀k,k (some (h u))->f u k)->R (acc++l.map h)->lB f l acc R
 | [],acc,_,r=>by rw[Hs,Bs]at r;exact r
 |u::l,acc,hf,r=>hf u Ah _ (fJ (λx hx=>hf x (Ag _ hx)) (by rw[Cv];exact r))
abbrev Tke:Type:=Int×List Int
def tkU(x:Tke):U:=.tp [.n x.1,.tp (x.2.map U.n)]
def DUs.mapInts{W B:Addr->Prop}{H:Hp}:∀{ns:List Int},DUs W B H (ns.map U.n) (ns.map V.int)
 | []=>rfl
 |_::_=>⟨_,_,rfl,⟨rfl,rfl⟩,DUs.mapInts⟩
theorem aOq{W B:Addr->Prop}{H:Hp}:∀{xs:List Tke}{zs:List V},DUs W B H (xs.map tkU) zs->∃ps:List (Tke×Addr),zs=ps.map (λx=>V.ref x.2)/\ps.map (·.1)=xs/\∀x∈ps,PKy H x/\DU W B H (tkU x.1) (.ref x.2)
 | [],_,h=>⟨[],h,rfl,λ_ z=>nomatch z⟩
 |x::xs,_,⟨v,r,e,d,t⟩=>by
  obtain⟨ps,e1,e2,h⟩:=aOq t;obtain⟨a,ys,rfl,nb,ha,y1,_,rfl,f1,y2,r2,rfl,⟨q,zs,rfl,nq,hq,dz⟩,e3⟩:=id d;obtain rfl:r2=[]:=e3;rw[f1.1]at ha;refine⟨(x,a)::ps,by rw[e,e1];rfl,by rw[Da,e2],λz hz=>?_⟩;rcases Ao.mp hz with rfl|hz
  ·exact⟨⟨q,ha,by rw[dz.ints]at hq;exact hq⟩,d⟩
  ·exact h z hz
theorem aOr{W B:Addr->Prop}{H:Hp}:∀{ps:List (Tke×Addr)},(∀x∈ps,DU W B H (tkU x.1) (.ref x.2))->DUs W B H ((ps.map (·.1)).map tkU) (ps.map λx=>V.ref x.2)
 | [],_=>rfl
 |x::ps,h=>⟨_,_,rfl,h x Ah,aOr λy hy=>h y (Ag _ hy)⟩
def aYj(F:TVa):TV:=λρ R=>F ρ λus=>∃xs:List Tke,us=[.ls (xs.map tkU)]/\xs.length<=60/\∀ys:List Tke,ys.Pairwise (λx y=>pL x y=true)->(∀y,y∈ys↔y∈xs)->R (.ow (ys.map tkU))
def aVd(F:TVa):TV:=λρ R=>F ρ λus=>∃ns:List Nat,us=[.ls (ns.map λk:Nat=>U.n k)]/\(∀n∈ns,n∈[1,2,3])/\∀zs∈fO,(∀z,z∈zs↔z∈ns)->R (.ow (zs.map λk:Nat=>U.n k))
def DUs.nats{W B:Addr->Prop}{H:Hp}:∀{ns:List Nat}{xs:List V},DUs W B H (ns.map λk:Nat=>U.n k) xs->xs=yJ ns
 | [],_,h=>h
 |_::_,_,⟨x,r,e,d,t⟩=>by rw[e,d.1,DUs.nats t];rfl
def DUs.ofNats{W B:Addr->Prop}{H:Hp}:∀{ns:List Nat},DUs W B H (ns.map λk:Nat=>U.n k) (yJ ns)
 | []=>rfl
 |_::_=>⟨_,_,rfl,⟨rfl,rfl⟩,DUs.ofNats⟩
def aI5{a:Bw}{F:TVa}{p p' pos pos':Pos}(hr:cO k X.A)(hc:X.calm=true)(h1:X.mg "sorted"=none)(h2:X.mg "set"=none)(ha:VB X [a] F)(g1:Gl X "sorted":=by rfl)(g2:Gl X "set":=by rfl)(hs:SE X a []:=by rfl)(hpl:BT X pos' []:=by rfl)
  (hs':Bc [.Call (.Name "set" p') [a] [] pos'] X.env=(false,eval (.Call (.Name "set" p') [a] [] pos') X.env)::Bc [] X.env:=by rfl) (hpl':BT X pos []:=by rfl):VE X (.Call (.Name "sorted" p) [.Call (.Name "set" p') [a] [] pos'] [] pos) (aYj F):=
 let⟨_,q,f⟩:=ha;⟨_,jT (aDk (by have:=hr.un;lia) hc) g1 h1 boot_sorted (bK (xG (aJh (by have:=hr.un;lia) hc) g2 h2 boot_set q ⋯ ⋯ hs hpl) dN hs') ⋯ ⋯ hs' hpl',λ{W B ρ σ H R Q} e h q=>f e h λus vs H1 ⟨xs,eu,xl,h1⟩ w1 d=>by
  subst eu;have e1:=e.to w1;obtain⟨x,rfl,dd⟩:=DBs.one d;obtain⟨p,zs,rfl,_,hp,ds⟩:=dd.ls e1.eb;obtain⟨ps,rfl,rfl,hk⟩:=aOq ds;rw[Ac]at xl;refine⟨p,ps,rfl,SqL.of hp,λx hx=>(hk x hx).1,∅,⟨ps.map (·.1),by rw[Ac];lia,λx hx=>Az.mpr ⟨x,hx,rfl⟩⟩,λl zs nl nd sub all zl=>?_⟩;have w2:=e1.eb.new (o:=.ext (kZ X.prog X.w l zs)) nl;have k2:∀x∈zs,PKy (upd H1 l (.ext (kZ X.prog X.w l zs))) x/\DU W B (upd H1 l (.ext (kZ X.prog X.w l zs))) (tkU x.1) (.ref x.2):=λx hx=>by
   obtain⟨⟨q,a1,a2⟩,a3⟩:=hk x (sub x hx);exact⟨⟨q,(aL (aR a1 nl)).trans a1,(aL (aR a2 nl)).trans a2⟩,DU.mono (e1.eb.keep w2) _ a3⟩
  have e2:=e1.to w2;refine⟨l,zs,rfl,aM,λx hx=>(k2 x hx).1,∅,λm ys nm pm pw=>?_⟩;have w3:=e2.eb.new (o:=.lst (ys.map λx=>V.ref x.2)) nm;refine q (.ow ((ys.map (·.1)).map tkU)) _ _ (h1 _ ?_ λy=>?_) ((w1.trans w2).trans w3) (RO.back (s:=.ow _) (w1.trans w2) ⟨m,_,rfl,nm,aM,aOr λx hx=>?_⟩)
  ·rw[Iv];exact pw
  ·constructor
   ·intro hy;obtain⟨x,hx,rfl⟩:=Az.mp hy;exact Az.mpr ⟨x,sub x (pm.mem_iff.mp hx),rfl⟩
   ·intro hy;obtain⟨x,hx,rfl⟩:=Az.mp hy;obtain⟨z,hz,e⟩:=all x hx;exact Az.mpr ⟨z,pm.mem_iff.mpr hz,e⟩
  ·exact DU.mono (λb o nb h=>⟨λz=>z.elim nb (aR h nm),(e2.eb.keep w3 b o nb h).2⟩) _ (k2 x (pm.mem_iff.mp hx)).2⟩
def aO3{a:Bw}{F:TVa}{p p' pos pos':Pos}(hc:X.calm=true)(h1:X.mg "sorted"=none)(h2:X.mg "set"=none)(ha:VB X [a] F)(g1:Gl X "sorted":=by rfl)(g2:Gl X "set":=by rfl)(hs:SE X a []:=by rfl)(hpl:BT X pos' []:=by rfl)
  (hs':Bc [.Call (.Name "set" p') [a] [] pos'] X.env=(false,eval (.Call (.Name "set" p') [a] [] pos') X.env)::Bc [] X.env:=by rfl) (hpl':BT X pos []:=by rfl):VE X (.Call (.Name "sorted" p) [.Call (.Name "set" p') [a] [] pos'] [] pos) (aVd F):=
 let⟨_,q,f⟩:=ha;⟨_,jT (aDj hc) g1 h1 boot_sorted (bK (xG (aJg hc) g2 h2 boot_set q ⋯ ⋯ hs hpl) dN hs') ⋯ ⋯ hs' hpl',λ{W B ρ σ H R Q} e h q=>f e h λus vs H1 ⟨ns,eu,hn,h1⟩ w1 d=>by
  subst eu;have e1:=e.to w1;obtain⟨x,rfl,dd⟩:=DBs.one d;obtain⟨p,zs,rfl,_,hp,ds⟩:=dd.ls e1.eb;rw[ds.nats]at hp;refine⟨p,ns,rfl,SqL.of hp,hn,λl zs nl sub all=>?_⟩;have w2:=e1.eb.new (o:=.ext (aB5 X.w l zs)) nl;have e2:=e1.to w2;refine⟨l,zs,rfl,aM,λm nm=>?_⟩;have w3:=e2.eb.new (o:=.lst (yJ zs)) nm;exact q (.ow _) _ _ (h1 zs sub all) ((w1.trans w2).trans w3) (RO.back (s:=.ow _) (w1.trans w2) ⟨m,_,rfl,nm,aM,DUs.ofNats⟩)⟩
inductive aV5(C:Addr)(F:List U->(List Str->List U->Prop)->Prop)(vs:List V)(H:Hp)(Q:VK)(z3_:XK):Prop
 |mk (x dx vs' H1 W B us R:_) (q0_:vs=.ref x::vs') (q1_:H1 x=none) (q2_:H x=some (.ins C dx [])) (q3_:aS8 H1 H) (q4_:EB W B H1) (q5_:DUs W B H1 us vs') (q6_:F us R) (q7_:∀ns ws xs H',R ns ws->Fw W H1 H'->H' x=some (.ins C dx (ns.zip xs))->ns.length=xs.length->DUs W B H' ws xs->Q .non H'):aV5 C F vs H Q z3_
def spI(C:Addr)(F:List U->(List Str->List U->Prop)->Prop):Sp:=λvs H Q z3_=>aV5 C F vs H Q z3_
structure MkU(P:Ap)(w:Bh)(K:Ab)(mg:Str->#v[8])(base:Heap)(k:Nat)(C:Addr)(x:Str)(ps:List Str)(F:List U->(List Str->List U->Prop)->Prop):Prop where
 ex:∃f fd,↥k f fd ps (spI C F)/\Mk K C f/\mg x=some (.ref C)/\Binds K fd ps []
def aYd(C:Addr)(F:List U->(List Str->List U->Prop)->Prop)(a:TVa):TV:=λρ R=>a ρ λus=>F us λns ws=>R (.sh (.ob C ns ws))
def jM{x:Str}{F:List U->(List Str->List U->Prop)->Prop}{a:Bw}{es:List Bw}{G:TVa}{p pos:Pos}(M:MkU X.prog X.w X.K X.mg X.base k C x ps F)(hr:cO (k+1) X.A)(ha:VA X (a::es) G)(hg:Gl X x:=by rfl)
  (hdb:ND x:=by decide) (he:SE X a es:=by rfl) (hpl:BT X pos es:=by rfl):VE X (.Call (.Name x p) (a::es) [] pos) (aYd C F G):=by
 obtain⟨f,fd,Fo,Mk_,hm,hb⟩:=M.ex;obtain⟨_,p,g⟩:=ha;refine⟨_,aIq Mk_ Fo hr hg hm hb .nil (E:=E0) yM p hdb he hpl,λ{W B ρ σ H R Q} e h q=>g e h λus vs H1 h1 _ w d=>λx dx nx nd ne=>?_⟩;have e1:=(e.to w).eb;refine⟨x,dx,vs,H1,W,B,us,_,by rw[Bs],nx,aM,λb o hb=>?_,e1,d,h1,λns ws xs H' hR fw hx hl ds=>⟨rfl,q (.sh (.ob C ns ws)) _ _ hR (w.trans fw) ⟨x,dx,xs,rfl,e1.nw nx,hx,hl,ds⟩⟩⟩;rw[aL (aR hb nx),aL (aR hb nd)];exact hb
def aF4{F:TV}{σ:St}{H:Hp}{W B:Addr->Prop}{ρ:EV}{R:Sl->Prop}(e:EE W B H ρ σ)(h:F ρ R)(q:∀s v H',R s->Fw W H H'->RO W B H H' s v->Q v H'):tV F σ H Q:=⟨W,B,ρ,R,e,h,q⟩
def aBe{F:TVc}{σ:St}{H:Hp}{Q:Bool->Hp->Prop}{W B:Addr->Prop}{ρ:EV}(e:EE W B H ρ σ)(h:F ρ R)(q:∀c H',R c->Fw W H H'->Q c H'):tVc F σ H Q:=⟨W,B,ρ,R,e,h,q⟩
section
variable {W B:Addr->Prop}{H H':Hp}
def mX{ρ:EV}{σ:St}{u:U}(d:DU W B H u v)(e:EE W B H ρ σ):EE W B H (.sh u::ρ) (some v::σ):=by
 refine⟨e.eb,by rw[Aq,Aq,e.len],λi u' h=>?_,λi s w h hs=>?_⟩
 ·cases i with
  |zero=>cases h;exact⟨v,rfl,d⟩
  |succ i=>exact e.sh i u' h
 ·cases i with
  |zero=>cases h;cases hs
  |succ i=>exact e.hd i s w h hs
def aLu(e:EB W B H):EE W B H [] []:=⟨e,rfl,nofun,nofun⟩
def pG{ρ:EV}{σ:St}{v:Option V}(e:EE W B H ρ σ):EE W B H (.no::ρ) (v::σ):=by
 refine⟨e.eb,by rw[Aq,Aq,e.len],λi u' h=>?_,λi s w h hs=>?_⟩
 ·cases i with
  |zero=>cases h
  |succ i=>exact e.sh i u' h
 ·cases i with
  |zero=>cases h;cases hs
  |succ i=>exact e.hd i s w h hs
mutual
theorem DU.data(k:∀b o,¬B b->H b=some o->(∃xs,o=.tup xs)∨(∃xs,o=.lst xs)->H' b=some o):∀(n:Nat)(u:U){v:V},u.dt n->DU W B H u v->DU W B H' u v
 |_,.v _,_,_,h=>h
 |n+1,.tp l,_,t,⟨p,xs,e,nb,hp,ds⟩=>⟨p,xs,e,nb,k _ _ nb hp (.inl ⟨_,rfl⟩),DUs.data k n l t ds⟩
 |n+1,.ls l,_,t,⟨p,xs,e,nb,hp,ds⟩=>⟨p,xs,e,nb,k _ _ nb hp (.inr ⟨_,rfl⟩),DUs.data k n l t ds⟩
theorem DUs.data(k:∀b o,¬B b->H b=some o->(∃xs,o=.tup xs)∨(∃xs,o=.lst xs)->H' b=some o):∀(n:Nat)(l:List U){xs:List V},U.dts n l->DUs W B H l xs->DUs W B H' l xs
 |_,[],_,_,h=>h
 |n,u::l,_,⟨t,t'⟩,⟨x,r,e,h,h'⟩=>⟨x,r,e,DU.data k n u t h,DUs.data k n l t' h'⟩
end
def Fw.upd{H1:Hp}{x:Addr}{o:HO}(f:Fw W H1 H)(n:H1 x=none)(nw:¬W x):Fw W H1 (upd H x o):=⟨λb u w h=>(aL (aR h n)).trans (f.fr b u w h),λp hp=>by
 obtain⟨a,b,c,h⟩:=f.wo p hp;exact⟨a,b,c,(aL (λz:p=x=>nw (by rw[<-z];exact hp))).trans h⟩⟩
def gH{x C dx:Addr}{fs:List (Str×V)}{o:HO}(h:H x=some (.ins C dx fs)):∀b u,¬B b->H b=some u->(∃xs,u=.tup xs)∨(∃xs,u=.lst xs)->upd H x o b=some u:=λb u _ hb ht=>by
 refine(aL (λz:b=x=>?_)).trans hb;rw[z,h]at hb;rcases ht with ⟨xs,rfl⟩|⟨xs,rfl⟩<;>cases hb
end
section
variable {W W' B:Addr->Prop}{H:Hp}
mutual
def Nw:U->Prop
 |.v _=>True
 |.tp l=>Nws l
 |.ls l=>Nws l
 |.ob _ _ us=>Nws us
 |.dk _ us=>Nws us
 |_=>False
def Nws:List U->Prop
 | []=>True
 |u::l=>Nw u/\Nws l
end
mutual
theorem DU.nw:∀(u:U){v:V},Nw u->DU W B H u v->DU W' B H u v
 |.v _,_,_,h=>h
 |.tp l,_,n,⟨p,xs,e,nb,hp,t⟩=>⟨p,xs,e,nb,hp,DUs.nw l n t⟩
 |.ls l,_,n,⟨p,xs,e,nb,hp,t⟩=>⟨p,xs,e,nb,hp,DUs.nw l n t⟩
 |.ob _ _ us,_,n,⟨p,dx,xs,e,nb,hp,hl,t⟩=>⟨p,dx,xs,e,nb,hp,hl,DUs.nw us n t⟩
 |.dk _ us,_,n,⟨p,xs,e,nb,hp,hl,t⟩=>⟨p,xs,e,nb,hp,hl,DUs.nw us n t⟩
theorem DUs.nw:∀(l:List U){xs:List V},Nws l->DUs W B H l xs->DUs W' B H l xs
 | [],_,_,h=>h
 |u::l,_,⟨n,n'⟩,⟨x,r,e,h,t⟩=>⟨x,r,e,DU.nw u n h,DUs.nw l n' t⟩
end
end
def Sl.nw:Sl->Prop
 |.sh u=>Nw u
 |.ow l=>Nws l
 |_=>False
def vWl(i:Nat)(G:TVS):TVS:=λE ρ=>match (ρ[i]? :Option Sl)with
 |some (.ow [.v (.int _),.v (.int _),.v (.int _)])=>G {nx:=λ_=>False,rt:=λs=>s.nw/\E.rt s} (ρ.set i (.sh .wl))
 |_=>False
open Classical in
theorem jP{f:U->(Option U->Prop)->Prop}{R:List U->Prop}(P:U->Prop):∀{l acc:List U},(∀u∈l,∀k:Option U->Prop,(∀x,P x->k (some x))->f u k)->(∀xs:List U,xs.length=l.length->(∀x∈xs,P x)->R (acc++xs))->lB f l acc R
 | [],acc,_,r=>by
  have:=r [] rfl nofun
  rw[Bs]at this;exact this
 |u::l,acc,hf,r=>hf u Ah _ λx hx=>jP P (λy hy=>hf y (Ag _ hy)) λxs el hp=>by
  rw[Cv];exact r (x::xs) (by rw[Aq,Aq,el]) λy hy=>by
   rcases Ao.mp hy with rfl|hy
   ·exact hx
   ·exact hp y hy
section
variable {W B:Addr->Prop}{H H':Hp}{ρ ρ':EV}{σ:St}
end
abbrev zk(ns:List Str)(xs:List V):List (Key×V):=(ns.map Cr).zip xs
def aIt{k:Str}(l:ns.length=xs.length)(h:k∉ns):putK (zk ns xs) (Cr k) v=zk (ns++[k]) (xs++[v]):=by
 unfold putK zk;rw[if_neg,Em,Vx (by rw[Ac];exact l)]
 ·rfl
 ·intro z;obtain⟨x,hx,e⟩:=Vn.mp z;have e:=of_decide_eq_true e;have h2:=(Ln (show(x.1,x.2)∈_ from hx)).1;rw[e]at h2;obtain⟨n,hn,en⟩:=Az.mp h2;cases en;exact h hn
section
variable {W W' B B':Addr->Prop}{H H':Hp}
end
variable {o i value:Bw}{pos pos':Pos}{td ty tv:TE}
def dkO(ns:List Str)(us:List U):Own:=⟨λW B S H p=>(∀b,S b↔b=p)/\∃xs,H p=some (.dK (zk ns xs))/\ns.length=xs.length/\DUs W B H us xs,λk e ⟨s,xs,h,l,d⟩=>⟨s,xs,(e _ ((s _).mpr rfl)).trans h,l,DUs.mono k us d⟩,λk ⟨s,xs,h,l,d⟩=>⟨s,xs,h,l,DUs.wm k us d⟩,λ⟨s,_,h,_⟩ b hb=>by rw[(s b).mp hb];exact⟨_,h,trivial⟩⟩
section
variable {W B:Addr->Prop}{H0 H H1:Hp}{A:Nat->Addr->Prop}{ρ:EV}{σ:St}
def EO.rep(o:EO W B H0 A ρ σ H){i:Nat}{s:Sl}{w:Own}(hs:s.hold=some w)(hb:s.brd=false)(f:∀b y,¬W b->¬S b->H b=some y->H1 b=some y)(fw:∀p,W p->Wll H1 p)(n:∀b,S b->A i b∨H b=none)(d:w.φ W (λb=>B b∨(∃j,j≠i/\A j b)∨S b) S H1 p)(hg:σ[i]? =some (some (.ref p))):
  EO W B H0 (λj q=>(j=i/\S q)∨(j≠i/\A j q)) (ρ.set i s) σ H1:=by
 have n0:∀b,S b->H0 b=none:=λb hb=>(n b hb).elim (o.an i b) o.fw.none_;have k:∀b y,¬Bx B A b->H b=some y->¬Bx B (λj q=>(j=i/\S q)∨(j≠i/\A j q)) b/\H1 b=some y:=λb y nb h=>by
  have ns:¬S b:=λz=>(n b z).elim (λz=>nb (.inr ⟨i,z⟩)) λz=>by rw[z]at h;cases h
  exact⟨λz=>z.elim (λz=>nb (.inl z)) λ⟨j,z⟩=>z.elim (λz=>ns z.2) λz=>nb (.inr ⟨j,z.2⟩),f b y (λz=>nb (.inl (o.eb.wb b z))) ns h⟩
 have oth:∀{j b},j≠i->A j b->¬S b:=λ{j b} ne h z=>(n b z).elim (λz=>ne (o.inj j i b h z)) (o.awn h);refine⟨o.eb,⟨λb y w h=>f b y w (λz=>by rw[n0 b z]at h;cases h) (o.fw.fr b y w h),fw⟩,by rw[Bm,o.len],λj q h=>h.elim (λh=>n0 q h.2) λh=>o.an j q h.2,λj q h=>?_,λj j' q h h'=>?_,λj u h=>?_,λj m v h hm=>?_,λj m h=>?_⟩
 ·rcases h with ⟨_,h⟩|⟨ne,h⟩
  ·exact w.th d q h
  ·obtain⟨y,h1,h2⟩:=o.aw j q h;exact⟨y,f q y (o.nw h) (oth ne h) h1,h2⟩
 ·rcases h with ⟨e1,e2⟩|⟨ne,h⟩<;>rcases h' with ⟨e3,e4⟩|⟨ne',h'⟩
  ·rw[e1,e3]
  ·exact(oth ne' h' e2).elim
  ·exact(oth ne h e4).elim
  ·exact o.inj j j' q h h'
 ·rcases bI h with ⟨rfl,rfl,hl⟩|⟨ne,h⟩
  ·cases hs
  ·obtain⟨v',h1,h2⟩:=o.sh j u h;exact⟨v',h1,DU.mono k u h2⟩
 ·rcases bI h with ⟨rfl,rfl,hl⟩|⟨ne,h⟩
  ·rw[hs]at hm;cases hm;refine⟨p,hg,w.at_ (w.mono (λb y nb h=>⟨λz=>nb (z.elim .inl λ⟨j,z⟩=> .inr (z.elim (λz=> .inr z.2) λz=> .inl ⟨j,z⟩)),h⟩) (λ_ _=>rfl) d) λb=>⟨λh=>h.elim (λh=>h.2) λh=>absurd rfl h.1,λh=> .inl ⟨rfl,h⟩⟩⟩
  ·obtain⟨q,h1,h3⟩:=o.hd j m v h hm;exact⟨q,h1,v.at_ (v.mono k (λb hb=>let⟨y,hy,_⟩:=v.th h3 b hb;(f b y (o.nw hb) (oth ne hb) hy).trans hy.symm) h3) λb=>⟨λh=>h.elim (λh=>absurd h.1 ne) λh=>h.2,λh=> .inr ⟨ne,h⟩⟩⟩
 ·rcases bI h with ⟨rfl,rfl,hl⟩|⟨ne,h⟩
  ·exact hb
  ·exact o.nb j m h
end
def tPa(ns:List Str)(F:TVa)(trs:List (TE×TE)):Prop:=∀{W B:Addr->Prop}{ρ:EV}{σ:St}{H:Hp}{R:List U->Prop}{Q:List (V×V)->Hp->Prop},EE W B H ρ σ->F ρ R->(∀us vs H',R us->us.length=ns.length->Fw W H H'->DUs W B H' us vs->Q ((ns.map V.str).zip vs) H')->aEh trs σ H Q
def VPs(X:Cx)(pos:Pos)(ks:List (Option Bw))(vs:List Bw)(ns:List Str)(F:TVa):Prop:=∃trs,PPs X pos ks vs trs/\tPa ns F trs
def aX2(ns:List Str)(F:TVa):TV:=λρ R=>F ρ λus=>R (.oo (dkO ns us))
theorem aAy:∀{ns as:List Str}{vs xs:List V},as.length=xs.length->ns.length=vs.length->(as++ns).Nodup->pM (zk as xs) (zk ns vs)=zk (as++ns) (xs++vs)
 | [],as,[],xs,_,_,_=>by rw[Bs,Bs];rfl
 |n::ns,as,v::vs,xs,h1,h2,nd=>by
  show pM (putK (zk as xs) (Cr n) v) (zk ns vs)=_;have hn:n∉as:=λz=>(Ui.mp nd).2.2 n z n Ah rfl;rw[aIt h1 hn,aAy (by rw[An,An,h1];rfl) (Im h2) (by rw[Cv];exact nd),Cv,Cv];rfl
def aZl(i:Nat)(G:TVS):TVS:=λE ρ=>∃ns us,ρ[i]? =some (.oo (dkO ns us))/\G E (ρ.set i (.sh (.dk ns us)))
theorem aJa:∀(ns:List Str)(vs:List V),(ns.map V.str).zip vs=((ns.map Cr:List Key).zip vs).map λkv=>(kV kv.1,kv.2)
 | [],_=>rfl
 |_::_,[]=>rfl
 |_::ns,_::vs=>congrArg _ (aJa ns vs)
def aO5{pos:Pos}:VPs X pos [] [] [] aEj:=⟨_,aQl,λe h q=>q [] [] _ h rfl e.eb.refl rfl⟩
def sY{pos:Pos}{k:Str}{j p}{v:Bw}{ks:List (Option Bw)}{vs:List Bw}{F:TV}{G:TVa}(hv:VE X v F)(hr:VPs X pos ks vs ns G):VPs X pos (some (.Constant (.str k) j p)::ks) (v::vs) (k::ns) (yS F G):=by
 obtain⟨_,p1,f1⟩:=hv;obtain⟨_,p2,f2⟩:=hr;refine⟨_,aNv jD p1 p2,λe h q=>f1 e h λs v H1 h1 w1 r1=>?_⟩;obtain⟨u,h1,d⟩:=r1.du e.eb h1;exact f2 (e.to w1) h1 λus vs H2 h2 l2 w2 d2=>q (u::us) (v::vs) H2 h2 (by rw[Aq,l2];rfl) (w1.trans w2) ⟨v,vs,rfl,DU.mono ((e.to w1).eb.keep w2) u d,d2⟩
def aI2{pos:Pos}{keys:List (Option Bw)}{values:List Bw}{F:TVa}(h:VPs X pos keys values ns F)(nd:ns.Nodup)(nl:ns.length<=15)(hall:keys.all (·.isSome)=true:=by rfl)(hl:keys.length=values.length:=by rfl)(h0:keys≠[]:=by exactλz=>nomatch z)(h15:keys.length<=15:=by decide):VE X (.Dict keys values pos) (aX2 ns F):=by
 obtain⟨_,p,f⟩:=h;refine⟨_,aQf p hall hl h0 h15,λ{W B ρ σ H R Q} e h q p n=>?_⟩;have e1:=e.plus (x:=.dK []) n;have w0:=e.eb.new (o:=.dK []) n;have nW:¬W p:=λz=>e.eb.nw n (e.eb.wb p z);refine f e1 h λus vs H2 h2 l2 w2 d2=>⟨w2.fr p _ nW aM,zk ns vs,?_,?_,?_⟩
 ·unfold zk;exact aJa ns vs
 ·unfold zk;rw[Ib,Ac];lia
 ·have lv:=d2.length;rw[show pM [] (zk ns vs)=zk ns vs from aAy (as:=[]) (xs:=[]) rfl ∅ nd];have w3:Fw W H (upd H2 p (.dK (zk ns vs))):=(w0.trans w2).upd n nW;refine q (.oo (dkO ns us)) _ _ h2 w3 ⟨p,(·=p),rfl,λb hb=>by rw[hb];exact n,λ_=>Qe,vs,aM,∅,DUs.mono (λb y nb h=>⟨nb,(aL (λz=>nb (.inr z))).trans h⟩) us d2⟩
def yV(l:List U)(lo hi:Option Int):List U:=(l.drop (HT.sIx l.length 0 lo)).take (HT.sIx l.length l.length hi-HT.sIx l.length 0 lo)
def DUs.cut{W B:Addr->Prop}{H:Hp}{l:List U}{lo hi:Option Int}(d:DUs W B H l xs):DUs W B H (yV l lo hi) (aBo xs lo hi):=by
 unfold yV aBo;rw[d.length];exact(d.drop _).take _
abbrev TVo:=EV->(Option Int->Prop)->Prop
def VTo(t:TO)(F:TVo):Prop:=∀{W B:Addr->Prop}{ρ:EV}{σ:St}{H:Hp}{R:Option Int->Prop}{Q:Option Int->Hp->Prop},EE W B H ρ σ->F ρ R->(∀o H',R o->Fw W H H'->Q o H')->t σ H Q
def VO(X:Cx)(e:Option Bw)(F:TVo):Prop:=∃t,PO X e t/\VTo t F
def aZp:TVo:=λ_ R=>R none
def aZr(F:TV):TVo:=λρ R=>F ρ λs=>match s.rd with
 |.v (.int i)=>R (some i)
 |_=>False
def vSl(F:TV)(L M:TVo):TV:=λρ R=>F ρ λs=>L ρ λlo=>M ρ λhi=>match s.rd with
 |.ls l=>R (.ow (yV l lo hi))
 |.tp l=>¬(HT.sIx l.length 0 lo=0/\HT.sIx l.length l.length hi=l.length)/\R (.sh (.tp (yV l lo hi)))
 |_=>False
def sW:VO X none aZp:=⟨_,aQj,λe h q=>q _ _ h e.eb.refl⟩
def sX{e:Bw}{F:TV}(h:VE X e F):VO X (some e) (aZr F):=by
 obtain⟨_,p,f⟩:=h;refine⟨_,aQk p,λe h q=>f e h λs v H1 h1 w r=>?_⟩;have d:=r.db e.eb;revert h1 d;generalize s.rd=u;intro h1 d;split at h1
 ·exact⟨_,d.int,q _ _ h1 w⟩
 ·exact h1.elim
def aCz{a:Bw}{lo hi:Option Bw}{p2 pos:Pos}{F:TV}{L M:TVo}(ha:VE X a F)(hl:VO X lo L)(hh:VO X hi M):VE X (.Subscript a (.Slice lo hi none p2) pos) (vSl F L M):=by
 obtain⟨_,p,f⟩:=ha;obtain⟨_,p1,f1⟩:=hl;obtain⟨_,p2,f2⟩:=hh;refine⟨_,aNs (aQ0.or aUw) p p1 p2,λ{W B ρ σ H R Q} e h q=>f e h λs v H1 h1 w1 r1=>f1 (e.to w1) h1 λlo H2 h2 w2=>f2 ((e.to w1).to w2) h2 λhi H3 h3 w3=>?_⟩;have e3:=((e.to w1).to w2).to w3;have ww:=(w1.trans w2).trans w3;have d:=((r1.db e.eb).to (e.to w1).eb w2).to ((e.to w1).to w2).eb w3;revert h3 d;generalize s.rd=u;intro h3 d;split at h3
 ·obtain⟨a,xs,rfl,_,ha,ds⟩:=d.ls e3.eb;refine .inl ⟨a,xs,rfl,SqL.of ha,λp n=>?_⟩;have f4:=e3.eb.new (o:=.lst (aBo xs lo hi)) n;exact q _ _ _ h3 (ww.trans f4) (RO.back (s:=.ow _) ww ⟨p,_,rfl,n,aM,DUs.mono (λb o nb h=>⟨λz=>z.elim nb (aR h n),(e3.eb.keep f4 b o nb h).2⟩) _ ds.cut⟩)
 ·obtain⟨a,xs,rfl,_,ha,ds⟩:=d.tp;refine .inr ⟨a,xs,rfl,SqT.of ha,by rw[<-ds.length];exact h3.1,λp n=>?_⟩;have f4:=e3.eb.new (o:=.tup (aBo xs lo hi)) n;exact q _ _ _ h3.2 (ww.trans f4) ⟨p,_,rfl,e3.eb.nw n,aM,DUs.mono (e3.eb.keep f4) _ ds.cut⟩
 ·exact h3.elim
section
variable {W W' B B':Addr->Prop}{H H':Hp}{f:Tke->List U}
variable {l:List Tke}{xs:List (Tke×Addr×Value)}
end
mutual
def U.tt:U->Prop
 |.v _=>True
 |.tp l=>U.tts l
 |_=>False
def U.tts:List U->Prop
 | []=>True
 |u::l=>U.tt u/\U.tts l
end
section
variable {W W' B B':Addr->Prop}{H:Hp}
mutual
theorem DU.tt(e:EB W' B' H):∀(u:U){v:V},u.tt->DU W B H u v->DU W' B' H u v
 |.v _,_,_,h=>h
 |.tp l,_,t,⟨p,xs,e1,_,hp,ds⟩=>⟨p,xs,e1,λz=>by
  obtain⟨o,h,m⟩:=e.bl p z;rw[hp]at h;cases h;exact m,hp,DUs.tt e l t ds⟩
theorem DUs.tt(e:EB W' B' H):∀(l:List U){xs:List V},U.tts l->DUs W B H l xs->DUs W' B' H l xs
 | [],_,_,h=>h
 |u::l,_,⟨t,t'⟩,⟨x,r,e1,h,h'⟩=>⟨x,r,e1,DU.tt e u t h,DUs.tt e l t' h'⟩
end
end
def EE.more{W B:Addr->Prop}{H H1:Hp}{ρ:EV}{σ:St}{x:HO}(e:EE W B H ρ σ)(f:Fw W H H1)(n:H p=none)(h1:H1 p=some x)(m:Mt x):EE W (λb=>B b∨b=p) H1 ρ σ:=by
 have k:∀b o,¬B b->H b=some o->¬(B b∨b=p)/\H1 b=some o:=λb o nb h=>⟨λz=>z.elim nb (aR h n),(e.eb.keep f b o nb h).2⟩;have e1:=(e.to f).eb;refine⟨⟨λq hq=>hq.elim (e1.bl q) λz=>⟨x,by rw[z];exact h1,m⟩,λq hq=> .inl (e1.wb q hq),e1.wo⟩,e.len,λi u h=>?_,λi s w h hs=>?_⟩
 ·obtain⟨v,h1,h2⟩:=e.sh i u h;exact⟨v,h1,DU.mono k u h2⟩
 ·obtain⟨p,S,h1,h2,h3⟩:=e.hd i s w h hs;exact⟨p,S,h1,h2,w.mono k (λb hb=>let⟨y,hx,_⟩:=w.th h3 b hb;(f.fr b y (h2 b hb) hx).trans hx.symm) h3⟩
section
open PySem.W
variable {prog:Ap}{w:Bh}{A:Bl}{E:#v[a]}{s:Ae}
end
section
open PySem.W
variable {prog:Ap}{w:Bh}{A:Bl}{E:#v[a]}{s:Ae}{α:Type} [DecidableEq α] [Inhabited α]{knd:Ii prog w α}{ok:α->Prop}{lt:α->α->Bool}
end
section
open PySem.Builtin.Dict
variable {prog:Ap}{w:Bh}{A:Bl}{E:#v[a]}{s:Ae}{K:Type} [DecidableEq K]{knd:Ii prog w K}
end
open PyProof.Rows in
open PyProof.Rows in
section
variable {prog:Ap}{w:Bh}{A:Bl}{E:#v[a]}{s:Ae}
end
variable {prog:Ap}
def aRq(g:TG):Prop:=∀x σ H(Q Q':St->Hp->Prop),(∀σ H,Q σ H->Q' σ H)->g x σ H Q->g x σ H Q'
def aPs{i:Nat}:aRq (rA i):=λ_ _ _ _ _ m h=>m _ _ h
section
variable {X:Cx}
def aVn{i:Nat}{x:Str}{elt iter tg:Bw}{own:List Str}{cap:#v[9]}{pos spos py:Pos}{Fi:TVa}{G:TVg}{F:TV}(gm:aRq g)(hnd:X.N.Nodup)(sc0:Scope)(N0:List Str)(hsc:X.env.scope=sc0)(hN:X.N=N0)(hcell:HC X)
  (ok:aHw scope sc0 cap N0) (hc:X.calm=true) (hi:VIc X tg iter Fi) (hg:∀cs,fG X scope cs->∀C s2 H2 fp,PG (cF X (dM own cap) scope cs C s2 H2 fp) tg g) (hG:VTh own.length g G) (he:∀cs,fG X scope cs->∀C s2 H2 fp,VE (cF X (dM own cap) scope cs C s2 H2 fp) elt F)
  (hi':X.N[i]? =some x:=by rfl) (hx:Loc X.env.scope x:=by exact Ex rfl) (hsw:Dt #v[5] (some (.Name x py)) spos.line X.env=pure true:=by rfl)
  (hs:FS X iter:=by intro _;rfl) (hf:FL X x:=by trivial):VS X (.Assign [.Name x py] #v[5] spos) (aRa i (aF5 own.length cap Fi G F)):=
 let⟨_,p,f⟩:=hi;⟨_,let⟨_,S⟩:=aTi hsc hN hcell ok;aFo hnd hi' hx S hc p gm hg (λcs cf C s2 H2 fp=>(he cs cf C s2 H2 fp).can) hsw hs hf,λo h j=>zU f hG o.ee h λs v H1 h1 w r=>xJ o w r h1 j.nx⟩
section
variable {elt iter tg ci:Bw}{Nc:List Str}{scope isc:Scope}{cs:List (Str×Addr)}{C:Addr}{s2:Ae}{H2:Hp}{fp:List Addr}{own:List Str}{icap:#v[9]}{pos:Pos}{Fi:TVa}{g:TG}{G:TVg}{Ct:TVc}{F:TV}
def aVh(fsc:Scope)(cf:fG X scope cs)(hfs:X.env.scope=fsc)(hk:fsc.kind=.function)(ok:aGj isc scope fsc icap Nc)(hc:X.calm=true)(hi:VIc (cF X Nc scope cs C s2 H2 fp) tg iter Fi)
  (hg:∀cl C' s3 H3 fp',PG (bU (cF X Nc scope cs C s2 H2 fp) (dM own icap) isc cl C' s3 H3 fp') tg g) (hG:VTh own.length g G) (he:∀cl C' s3 H3 fp',VE (bU (cF X Nc scope cs C s2 H2 fp) (dM own icap) isc cl C' s3 H3 fp') elt F)
  (hs:∀x,Lg iter (cF X Nc scope cs C s2 H2 fp).env x=pure x:=by intro _;rfl):VE (cF X Nc scope cs C s2 H2 fp) (.ListComp elt [⟨tg,iter,[],0⟩] isc pos) (aF5 own.length icap Fi G F):=
 let⟨_,p,f⟩:=hi;⟨_,aUb fsc cf hfs hk ok hc p hg (λcl C' s3 H3 fp'=>(he cl C' s3 H3 fp').can) hs,zU f hG⟩
end
end
def DUs.rep{W B:Addr->Prop}{H:Hp}{l:List U}(d:DUs W B H l xs):∀k,DUs W B H (Al k l).flatten (Al k xs).flatten
 |0=>rfl
 |k+1=>by rw[Ds,Ds,Ge,Ge];exact d.app (d.rep k)
open Classical in
def aX3(j:Nat)(F:TV):TVS:=λE ρ=>∃ns us,ρ[j]? =some (.oo (dkO ns us))/\F ρ λs=>∃ms ws,s=.oo (dkO ms ws)/\(ns++ms).Nodup/\ns.length+ms.length<=50/\E.nx (ρ.set j (.oo (dkO (ns++ms) (us++ws))))
def aRg{x:Str}{e:Bw}{p' apos cpos pos:Pos}{F:TV}(j:Nat)(he:VE X e F)(hN:X.N[j]? =some x:=by rfl)(hvs:Vis X.env.scope x:=by trivial)(hd:ND x:=by decide)
  (hcd:NC x:=by decide) (hbase:Eh (.Name x p') "update" X.env (eval (.Name x p') X.env)=eval (.Name x p') X.env:=by rfl)
  (hfew:((Ju cpos (Bc [e] X.env)).all (λx=> !x.1) && (Gh cpos (Do [] X.env)).all (λx=>x.1.isSome)
   && decide ([e].length+([]:List Jm).length+(if([]:List Jm).isEmpty then 0 else 1)<30))=true:=by rfl)
  (hline:EL apos cpos:=by rfl) (ht:Ju cpos (Bc [e] X.env)=[(false,eval e X.env)]:=by rfl)
  (hsw:Dt (.Call (.Attribute (.Name x p') "update" apos) [e] [] cpos) none pos.line X.env=pure false:=by rfl):VS X (.Expr (.Call (.Attribute (.Name x p') "update" apos) [e] [] cpos) pos) (aX3 j F):=by
 obtain⟨_,p,f⟩:=he;refine⟨_,lG (aQg (fK hN hvs hd hcd) p ⟨hbase,hfew,hline,ht⟩) hsw,λ{W B H0 A ρ σ H E D} o h jj=>?_⟩;obtain⟨ns,us,hj,h⟩:=h;obtain⟨q,g1,gs,xs,g3,_⟩:=o.hd j _ _ hj rfl;refine⟨_,g1,q,rfl,.inl ⟨_,.inl g3⟩,f o.ee h λs v H1 h1 w1 r1=>?_⟩;obtain⟨ms,ws,rfl,nd,ll,h2⟩:=h1;have o1:=o.to w1;obtain⟨q',g1',_,xs',g3',g4,g5⟩:=o1.hd j _ _ hj rfl;rw[g1]at g1';cases g1';obtain⟨b,S,rfl,sn,sb,ys,y1,y2,y3⟩:=r1;have ne:q≠b:=λz=>by
  have:=sn b ((sb b).mpr rfl);rw[<-z,g3]at this;cases this
 have kk:∀{x:HO} b y,¬Bx B A b->H1 b=some y->¬Bx B A b/\upd H1 q x b=some y:=λb y n h=>⟨n,(aL (λz:b=q=>n (by rw[z];exact .inr ⟨j,(gs q).mpr rfl⟩))).trans h⟩;refine⟨b,_,_,rfl,g3',y1,ne,?_,?_⟩
 ·have h1:(zk ns xs').length<=ns.length:=by unfold zk;rw[Ib,Ac];lia
  have h2:(zk ms ys).length<=ms.length:=by unfold zk;rw[Ib,Ac];lia
  lia
 ·rw[aAy g4 y2 nd];exact jj.nx (o1.chg g1 ((gs q).mpr rfl) (s':=.oo (dkO (ns++ms) (us++ws))) rfl rfl ⟨gs,_,aM,by rw[An,An,g4,y2],DUs.mono kk _ (g5.app (DUs.mono (λb y n h=>⟨λz=>n (.inl z),h⟩) ws y3))⟩) h2
variable {s:Ae}
inductive LlR(W B:Addr->Prop)(H:Hp):List (List U)->List Addr->Prop
 |nil:LlR W B H [] []
 |cons {l:List U} {ls:List (List U)} {q:Addr} {qs:List Addr} {vs:List V}:H q=some (.lst vs)->DUs W B H l vs->LlR W B H ls qs->LlR W B H (l::ls) (q::qs)
section
variable {W W' B B':Addr->Prop}{H H':Hp}{ls:List (List U)}{qs:List Addr}
def LlR.mono(k:∀b o,¬B b->H b=some o->¬B' b/\H' b=some o)(e:∀b∈qs,H' b=H b)(h:LlR W B H ls qs):LlR W B' H' ls qs:=by
 induction h with
 |nil=>exact .nil
 |cons h d t ih=>exact .cons ((e _ Ah).trans h) (DUs.mono k _ d) (ih λb hb=>e b (Ag _ hb))
def LlR.wm(k:∀p,W p->W' p)(h:LlR W B H ls qs):LlR W' B H ls qs:=by
 induction h with
 |nil=>exact .nil
 |cons h d t ih=>exact .cons h (DUs.wm k _ d) ih
def LlR.th(h:LlR W B H ls qs)(b:Addr)(hb:b∈qs):∃vs,H b=some (.lst vs):=by
 induction h with
 |nil=>cases hb
 |cons h d t ih=>
  rcases Ao.mp hb with rfl|z
  ·exact⟨_,h⟩
  ·exact ih z
end
def llO(ls:List (List U)):Own:=⟨λW B S H p=>∃qs:List Addr,(∀b,S b↔b=p∨b∈qs)/\p∉qs/\qs.Nodup/\H p=some (.lst (qs.map V.ref))/\LlR W B H ls qs,
 λk e ⟨qs,s,n,nd,h,r⟩=>⟨qs,s,n,nd,(e _ ((s _).mpr (.inl rfl))).trans h,r.mono k λb hb=>e b ((s b).mpr (.inr hb))⟩,λk ⟨qs,s,n,nd,h,r⟩=>⟨qs,s,n,nd,h,r.wm k⟩,
 λ⟨qs,s,n,nd,h,r⟩ b hb=>((s b).mp hb).elim (λz=>by rw[z];exact⟨_,h,trivial⟩) λz=>let⟨vs,g⟩:=r.th b z;⟨_,g,trivial⟩⟩
def aYb(j:Nat)(Fk Fv:TV):TVS:=λE ρ=>Fv ρ λs=>s.es λu=>match (ρ[j]? :Option Sl)with
 |some (.ow l)=>Fk ρ λs'=>∃(i:Int)(n:Nat),s'.rd=.n i/\ixN l.length i=some n/\E.nx (ρ.set j (.ow (l.set n u)))
 |_=>False
def DUs.setN{W B:Addr->Prop}{H:Hp}{u:U}(d:DU W B H u v):∀{l:List U}{xs:List V}(n:Nat),DUs W B H l xs->DUs W B H (l.set n u) (xs.set n v)
 | [],_,_,h=>by rw[show _=[]from h];exact rfl
 |_::_,_,0,⟨x,r,e,_,t⟩=>by rw[e];exact⟨v,r,rfl,d,t⟩
 |_::_,_,n+1,⟨x,r,e,h,t⟩=>by rw[e];exact⟨x,_,rfl,h,DUs.setN d n t⟩
def aEp{x:Str}{i value:Bw}{pos pos' p':Pos}{Fk Fv:TV}(j:Nat)(hk:VE X i Fk)(hv:VE X value Fv)(hN:X.N[j]? =some x:=by rfl)(hvs:Vis X.env.scope x:=by trivial)(hd:ND x:=by decide)
  (hcd:NC x:=by decide) (hs:Tc [.Subscript (.Name x p') i pos'] value pos.line X.env=pure false:=by rfl) (hw:Td [.Subscript (.Name x p') i pos'] value X.env=pure none:=by rfl)
  (h1:(Ha [.Subscript (.Name x p') i pos'] X.env).map (·.2)=[assign (.Subscript (.Name x p') i pos') X.env]:=by rfl)
  (ha:∀v,assign (.Subscript (.Name x p') i pos') X.env v=(do
   let ov<-holding [v] (eval (.Name x p') X.env)
   let iv<-holding [v,ov] (eval i X.env)
   Lr pos'
   holding [v,ov,iv] (Tf ov iv v)
   release [v,ov,iv] []):=by intro _;rfl):VS X (.Assign [.Subscript (.Name x p') i pos'] value pos) (aYb j Fk Fv):=by
 obtain⟨_,p1,f1⟩:=hk
 obtain⟨_,p2,f2⟩:=hv
 refine⟨_,aD7 p2 (aA1 (fK hN hvs hd hcd) p1 set_list ha) hs hw h1,λ{W B H0 A ρ σ H E D} o h jj=>f2 o.ee h λsv v H1 h1 w1 r1=>?_⟩
 obtain⟨u,h1,dv⟩:=r1.du o.ee.eb h1
 have o1:=o.to w1
 split at h1
 ·rename_i l hj
  obtain⟨q,xs,g1,g2,g3,g4⟩:=o1.ow j l hj
  refine⟨_,g1,f1 o1.ee h1 λs' v' H2 h2 w2 r2=>?_⟩
  obtain⟨i,n,ei,hi,h3⟩:=h2
  have d:=r2.db o1.ee.eb
  rw[ei]at d
  have o2:=o1.to w2
  obtain⟨q',ys,k1,k2,k3,k4⟩:=o2.ow j l hj
  rw[g1]at k1
  cases k1
  exact⟨q,ys,i,n,rfl,d.int,k3,by rw[<-k4.length];exact hi,jj.nx (o2.own g1 g2 (k4.setN (DU.mono (o1.ee.eb.keep w2) u dv) n)) h3⟩
 ·exact h1.elim
theorem aMw{k:Str}{v:V}:∀{ns:List Str}{xs:List V},k∉ns->(zk ns xs).map (λkv=>if kv.1=Cr k then(kv.1,v)else kv)=zk ns xs
 | [],_,_=>rfl
 |_::_,[],_=>rfl
 |a::ns,x::xs,h=>by
  show(if(Cr a:Key)=Cr k then(Cr a,v)else(Cr a,x))::(zk ns xs).map _=(Cr a,x)::zk ns xs;rw[if_neg (λz=>h (by rw[Lx z];exact Ah)),aMw λz=>h (Ag _ z)]
theorem aOe{k:Str}{v:V}:∀{ns:List Str}{xs:List V}{n:Nat},ns.length=xs.length->ns.Nodup->ns[n]? =some k->(zk ns xs).map (λkv=>if kv.1=Cr k then(kv.1,v)else kv)=zk ns (xs.set n v)
 | [],_,_,_,_,h=>by cases h
 |_::_,[],_,l,_,_=>by cases l
 |a::ns,x::xs,0,l,nd,h=>by
  cases h;show(if(Cr k:Key)=Cr k then(Cr k,v)else(Cr k,x))::(zk ns xs).map _=(Cr k,v)::zk ns xs;rw[if_pos rfl,aMw (El.mp nd).1]
 |a::ns,x::xs,n+1,l,nd,h=>by
  have h:ns[n]? =some k:=h;show(if(Cr a:Key)=Cr k then(Cr a,v)else(Cr a,x))::(zk ns xs).map _=(Cr a,x)::zk ns (xs.set n v);rw[if_neg (λz=>(El.mp nd).1 (by rw[Lx z];exact Cf h)),aOe (Im l) (El.mp nd).2 h]
def aNz{k:Str}{n:Nat}(l:ns.length=xs.length)(nd:ns.Nodup)(h:ns[n]? =some k):putK (zk ns xs) (Cr k) v=zk ns (xs.set n v):=by
 unfold putK;rw[if_pos]
 ·exact aOe l nd h
 ·have hn:=(Ax.mp h).1;refine Vn.mpr ⟨(Cr k,xs[n]'∅),Cf (i:=n) ?_,decide_eq_true rfl⟩;unfold zk;rw[List.getElem?_zip_eq_some,Ay,h];exact⟨rfl,Ak _⟩
def DUs.set{W B:Addr->Prop}{H:Hp}{u:U}(d:DU W B H u v):∀{us:List U}{xs:List V}{n:Nat},DUs W B H us xs->DUs W B H (us.set n u) (xs.set n v)
 | [],_,_,h=>by rw[show _=[]from h];exact rfl
 |_::_,_,0,⟨x,r,e,_,t⟩=>by rw[e];exact⟨v,r,rfl,d,t⟩
 |_::_,_,n+1,⟨x,r,e,h,t⟩=>by rw[e];exact⟨x,_,rfl,h,DUs.set d t⟩
def aU7(i:Nat)(k:Str)(F:TV):TVS:=λE ρ=>F ρ λs=>s.es λu=>∃ns us n,ρ[i]? =some (.oo (dkO ns us))/\ns.length<=50/\ns.Nodup/\ns[n]? =some k/\E.nx (ρ.set i (.oo (dkO ns (us.set n u))))
def aO7{x:Str}{k:Str}{j pk}{value:Bw}{pos pos' p':Pos}{F:TV}(i:Nat)(hr:cO m X.A)(hv:VE X value F)(hN:X.N[i]? =some x:=by rfl)(hvs:Vis X.env.scope x:=by trivial)(hd:ND x:=by decide)
  (hcd:NC x:=by decide) (hs:Dt value (some (.Subscript (.Name x p') (.Constant (.str k) j pk) pos')) pos.line X.env=pure false:=by rfl):VS X (.Assign [.Subscript (.Name x p') (.Constant (.str k) j pk) pos'] value pos) (aU7 i k F):=by
 obtain⟨_,p2,f2⟩:=hv;refine⟨_,aIs (by have:=hr.un;lia) (fK hN hvs hd hcd) jD p2 hs,λ{W B H0 A ρ σ H E D} o h jj=>f2 o.ee h λsv v H1 h1 w1 r1=>?_⟩;obtain⟨u,⟨ns,us,n,hi,hl,nd,hn,h2⟩,dv⟩:=r1.du o.ee.eb h1;have o1:=o.to w1;obtain⟨p,g1,gs,xs,g2,g3,g4⟩:=o1.hd i _ _ hi rfl;have kk:∀{x:HO} b y,¬Bx B A b->H1 b=some y->¬Bx B A b/\upd H1 p x b=some y:=λb y n h=>⟨n,(aL (λz:b=p=>n (by rw[z];exact .inr ⟨i,(gs p).mpr rfl⟩))).trans h⟩;refine⟨_,g1,p,_,rfl,aC2.k (k:=Cr k) g2 ?_,?_⟩
 ·have:(zk ns xs).length<=ns.length:=by unfold zk;rw[Ib,Ac];lia
  exact Ik (Bd this hl) ⋯
 ·rw[aNz g3 nd hn];exact jj.nx (o1.chg g1 ((gs p).mpr rfl) (s':=.oo (dkO ns (us.set n u))) rfl rfl ⟨gs,_,aM,by rw[Bm,g3],DUs.mono kk _ (DUs.set dv g4)⟩) h2
abbrev XU:=Addr->V->Prop
def XL(W B:Addr->Prop)(H0:Hp)(T:XU)(E:XK):Prop:=∀{C dx:Addr}{v:V}{H:Hp},T C v->lC v=true->Fw W H0 H->¬B dx->H dx=some (.xd [("at",v)])->E (.ref C) (some dx) H
def XL.to{W B B':Addr->Prop}{H0 H1:Hp}{T:XU}(h:XL W B H0 T E)(f:Fw W H0 H1)(k:∀b,B b->B' b):XL W B' H1 T E:=λt e w n=>h t e (f.trans w) λz=>n (k _ z)
def aLx(C:Addr)(v:V):Opq:=⟨λ_ B H y=>lC v=true/\∃e dx,y=.ref e/\¬B e/\¬B dx/\H e=some (aEr e C dx)/\H dx=some (.xd [("at",v)]),
 λk ⟨f,e,dx,h1,h2,h3,h4,h5⟩=>⟨f,e,dx,h1,(k _ _ h2 h4).1,(k _ _ h3 h5).1,(k _ _ h2 h4).2,(k _ _ h3 h5).2⟩,λ_ h=>h⟩
inductive aV7(F:List U->(Sl->Prop)->XU->Prop)(vs:List V)(H:Hp)(Q:VK)(E:XK):Prop
 |mk (W B us R T:_) (q0_:EB W B H) (q1_:DUs W B H us vs) (q2_:F us R T) (q3_:(∀s v H',R s->Fw W H H'->RO W B H H' s v->Q v H')) (q4_:XL W B H T E):aV7 F vs H Q E
def spX(F:List U->(Sl->Prop)->XU->Prop):Sp:=λvs H Q E=>aV7 F vs H Q E
def VTx(E:XK)(t:TS)(G:XU->TVS):Prop:=∀{W B:Addr->Prop}{H0:Hp}{A:Nat->Addr->Prop}{ρ:EV}{σ:St}{H:Hp}{N:lW}{D:Ends}{T:XU},EO W B H0 A ρ σ H->G T N ρ->aK8 W B H0 N D->XL W B H0 T E->t D σ H
def VSx(X:Cx)(E:XK)(st:Stmt)(G:XU->TVS):Prop:=∃t,PS X st t/\VTx E t G
def aDa(X:Cx)(E:XK)(st:List Stmt)(G:XU->TVS):Prop:=∃t,PSs X st t/\VTx E t G
def VEx(X:Cx)(E:XK)(e:Bw)(F:XU->TV):Prop:=∃t,PE X e t/\∀{W B:Addr->Prop}{ρ:EV}{σ:St}{H:Hp}{R:Sl->Prop}{Q:VK}{T:XU},EE W B H ρ σ->F T ρ R->(∀s v H',R s->Fw W H H'->RO W B H H' s v->Q v H')->XL W B H T E->t σ H Q
inductive aH1(K:Ab)(vs:List V)(H:Hp)(Q:VK)(z3_:XK):Prop
 |mk (e C:Addr) (y:V) (q0_:vs=[.ref e,y]) (q1_:H e=some (oJ e C none)) (q2_:wJ K C) (q3_:Fd K C "at"=some none) (q4_:∀dx,H dx=none->dx≠e->Q .non (upd (upd H dx (.xd [("at",y)])) e (oJ e C (some dx)))):aH1 K vs H Q z3_
def rP(K:Ab):Sp:=λvs H Q z3_=>aH1 K vs H Q z3_
structure Ng(K:Ab)(mg:Str->#v[8])(x:Str)(C f:Addr):Prop where
 rs:Rs K C f
 cls:wJ K C
 tk:Fd K C "at"=some none
 mg:mg x=some (.ref C)
def aVb(C:Addr)(F:TV):XU->TVS:=λT _ ρ=>F ρ λs=>∃v,s=.sh (.v v)/\T C v
def aIy{K:Ab}{W B:Addr->Prop}{H0 H1:Hp}{C e:Addr}{T:XU}(N:wJ K C)(tk:Fd K C "at"=some none)(eb:EB W B H0)(w:Fw W H0 H1)(l:XL W B H0 T E)(t:T C v)(fv:lC v=true)(he:H1 e=none):
  rP K [.ref e,v] (upd H1 e (oJ e C none)) (λz H2=>z=.non/\∃dx,H2 e=some (oJ e C (some dx))/\E (.ref C) (some dx) (qX H2 e)) E0:=by
 refine⟨e,C,v,rfl,aM,N,tk,λdx h1 h2=>⟨rfl,dx,aM,l t fv ⟨λb o n hb=>?_,λp hp=>?_⟩ (λz=>?_) ?_⟩⟩
 ·have hb1:=w.fr b o n hb;have n1:b≠e:=aR hb1 he;have n2:b≠dx:=aR (o:=o) (by rw[aL n1];exact hb1) h1;rw[gG n1,aL n1,aL n2,aL n1];exact hb1
 ·obtain⟨x,y,z,q⟩:=w.wo p hp;have n1:p≠e:=aR q he;have n2:p≠dx:=aR (o:=.lst _) (by rw[aL n1];exact q) h1;exact⟨x,y,z,by rw[gG n1,aL n1,aL n2,aL n1];exact q⟩
 ·obtain⟨o,q,_⟩:=(eb.to w).bl dx z;rw[aL h2,q]at h1;cases h1
 ·rw[gG h2,aL h2,aM]
variable {E:XK}
def aYr{st:Stmt}{G:TVS}(h:VS X st G):VSx X E st (λ_=>G):=let⟨_,p,f⟩:=h;⟨_,p,λo g j _=>f o g j⟩
def aC0{st:List Stmt}{G:TVS}(h:VSs X st G):aDa X E st (λ_=>G):=let⟨_,p,f⟩:=h;⟨_,p,λo g j _=>f o g j⟩
def qH{st:Stmt}{G:XU->TVS}(h:VSx X E st G):aDa X E [st] G:=let⟨_,p,f⟩:=h;⟨_,cI p,f⟩
def mR{st:Stmt}{F G:XU->TVS}(h:VSx X E st F)(h':aDa X E rest G):aDa X E (st::rest) (λT=>aQ9 (F T) (G T)):=
 let⟨_,p,f⟩:=h;let⟨_,p',f'⟩:=h';⟨_,bC p p',λo g j l=>f o g ⟨λo1 g1=>f' o1 g1 j l,j.bk,j.ct,j.rt,j.mr⟩ l⟩
def aGd{c:Bw}{a b:List Stmt}{pos:Pos}{C:TVc}{F G:XU->TVS}(hc:VC X c C)(ha:aDa X E a F)(hb:aDa X E b G):VSx X E (.If c a b pos) (λT=>vIf C (F T) (G T)):=
 let⟨_,p,f⟩:=hc;let⟨_,p1,f1⟩:=ha;let⟨_,p2,f2⟩:=hb;⟨_,vK p p1 p2,λo h j l=>f o.ee h λc H1 h1 w=>by
  cases c with
  |true=>exact aAq (f1 (o.to w) (h1.1 rfl) j l)
  |false=>exact yX (f2 (o.to w) (h1.2 rfl) j l)⟩
def rR{C f:Addr}{fd:Bb}{x:Str}{a:Bw}{p pos apos:Pos}{F:TV}(M:Ng X.K X.mg x C f)(G:bG X.prog X.w X.K X.mg X.base CX0 1 f fd ["self","at"] (rP X.K))(hb:Binds X.K fd ["self","at"] [])(hr:cO 2 X.A)(hc:X.calm=true)(hex:X.ex=[])(hW:aJb X E)(ha:VE X a F)(hg:Gl X x:=by rfl)
  (hdb:ND x:=by decide) (hs:SE X a []:=by rfl) (hpl:BT X apos []:=by rfl):
  VSx X E (.Raise (some (.Call (.Name x p) [a] [] apos)) none pos) (aVb C F):=
 let⟨_,q,f⟩:=ha;⟨_,rF M.rs G hr hg M.mg hb hc hex hW (bK q dN hs) hdb hs hpl,λo g _ l=>f o.ee g λs v H1 ⟨y,es,t⟩ w r=>by
  subst es;obtain⟨rfl,fv⟩:=(show v=y/\lC y=true from r);exact⟨by show 1<=sizeLine;decide,λe he=>aIy M.cls M.tk o.eb (o.fw.trans w) l t fv he⟩⟩
def aBg{x:Str}{F:List U->(Sl->Prop)->XU->Prop}{a:Bw}{es:List Bw}{G:TVa}{p pos:Pos}(C:Cal X.prog X.w X.K X.mg X.base (CXe X.prog X.w) k x ps (spX F))(hr:cO k X.A)(hx:jX (CXe X.prog X.w) X E)(ha:VA X (a::es) G)(hg:Gl X x:=by rfl)
  (hdb:ND x:=by decide) (he:SE X a es:=by rfl) (hpl:BT X pos es:=by rfl):VEx X E (.Call (.Name x p) (a::es) [] pos) (λT ρ R=>G ρ λus=>F us R T):=by
 obtain⟨f,fd,Fo,hm,hk,hb⟩:=C.ex;obtain⟨_,q,g⟩:=ha;exact⟨_,aIn Fo hr hg hm hk hb .nil hx q hdb he hpl,λ{W B ρ σ H R Q T} e h k l=>g e h λus vs H1 h1 _ w d=>⟨W,B,us,R,T,(e.to w).eb,by rw[Bs];exact d,h1,λs v H' hs w' r=>k s v H' hs (w.trans w') (r.back w),l.to w λ_ z=>z⟩⟩
def aZu{e:Bw}{F:XU->TV}(h:VEx X (λ_ _ _=>False) e F):VE X e (F λ_ _=>False):=let⟨_,p,f⟩:=h;⟨_,p,λe g q=>f e g q λz=>z.elim⟩
def aWz:jX (CXe X.prog X.w) X (λ_ _ _=>False):=by
 intro pins σ H s e s' I h;obtain⟨_,_,_,_,_,_,_,_,_,_,h⟩:=h;exact h.elim
def aYq{e:Bw}{pos:Pos}{F:XU->TV}(he:VEx X E e F)(hs:Dt e none pos.line X.env=pure false:=by rfl):VSx X E (.Expr e pos) (λT N ρ=>F T ρ λ_=>N.nx ρ):=
 let⟨_,p,f⟩:=he;⟨_,lG p hs,λo h j l=>f o.ee h (λs v H1 h1 w r=>j.nx (o.to w) h1) (l.to o.fw λ_=> .inl)⟩
def aVs{i:Nat}{x:Str}{e:Bw}{pos pos':Pos}{F:XU->TV}(hN:X.N.Nodup)(he:VEx X E e F)(hi:X.N[i]? =some x:=by rfl)(hx:Loc X.env.scope x:=by first|exact Ex rfl|exact Fy rfl)(hs:Dt e (some (.Name x pos')) pos.line X.env=pure false:=by rfl)(hf:FL X x:=by trivial):
  VSx X E (.Assign [.Name x pos'] e pos) (λT N ρ=>F T ρ (aOw i ρ N.nx)):=
 let⟨_,p,f⟩:=he;⟨_,uA hN hi hx p hs hf,λo h j l=>f o.ee h (λs v H1 h1 w r=>xJ o w r h1 j.nx) (l.to o.fw λ_=> .inl)⟩
def aE5{W B:Addr->Prop}{us:List U}{vs:List V}{H:Hp}{N:List Str}(eb:EB W B H)(d:DUs W B H us vs):EO W B H (λ_ _=>False) (us.map .sh++Al (N.length-us.length) .no) (start N vs) H:=by
 refine⟨eb,eb.refl,?_,λ_ _ z=>z.elim,λ_ _ z=>z.elim,λ_ _ _ z=>z.elim,λi u h=>?_,λi s w h hs=>?_,λi s h=>?_⟩
 ·simp only[start,An,Ac,Cy,d.length]
 ·rw[Eb]at h;split at h
  ·rename_i hl;rw[Ac]at hl;rw[Ay,Ak hl]at h;cases h;obtain⟨v,h1,h2⟩:=d.get (Ak hl);refine⟨v,?_,DU.mono (λb x n h=>⟨λz=>z.elim n λ⟨_,z⟩=>z,h⟩) _ h2⟩;unfold start;rw[Cq (by rw[Ac, <-d.length];exact hl),Ay,h1];rfl
  ·rw[Bk]at h;split at h<;>cases h
 ·rw[Eb]at h;split at h
  ·rw[Ay]at h;cases hu:us[i]? <;>rw[hu]at h<;>cases h;cases hs
  ·rw[Bk]at h;split at h<;>cases h;cases hs
 ·rw[Eb]at h;split at h
  ·rw[Ay]at h;cases hu:us[i]? <;>rw[hu]at h<;>cases h;rfl
  ·rw[Bk]at h;split at h<;>cases h;rfl
def aYm{P:Ap}{w:Bh}{K:Ab}{mg:Str->#v[8]}{base:Heap}{x qual:Str}{st:Stmt}{f:Addr}{fd:Bb}{N ps:List Str}{G:XU->TVS}{F:List U->(Sl->Prop)->XU->Prop}(Fn:Fun K x qual st f fd)(S:aP N ps (aF st))
  (hb:∀(cdv:Value)(A:Bl)(outer:List Env)(s:Ae)(H:Hp)(E:XK),aJb (uV (CXe P w) P w K mg base N qual (aF st) f cdv A outer s H E) E->cO k (A.deeper (Ke qual (aF st) #v[0] f cdv))->aDa (uV (CXe P w) P w K mg base N qual (aF st) f cdv A outer s H E) E (dO st) G)
  (hF:∀us R T,F us R T->us.length=ps.length/\G T {nx:=λ_=>R (.sh .no),rt:=R} (us.map .sh++Al (N.length-us.length) .no)):bG P w K mg base (CXe P w) (k+1) f fd ps (spX F):=by
 refine Fun.okE Fn S (λvs H Q E h=>?_) (λX cdv A outer s H vs Q E eX hW _ hr h=>?_)
 ·obtain⟨W,B,us,R,T,eb,d,h,_⟩:=h;rw[<-d.length];exact(hF us R T h).1
 ·subst eX;obtain⟨t,p,g⟩:=hb cdv A outer s H E hW hr;obtain⟨W,B,us,R,T,eb,d,h,q,l⟩:=h;exact⟨t,p,g (aE5 eb d) (hF us R T h).2 ⟨λo h=>q _ _ _ h o.fw ⟨rfl,rfl⟩,λ_ z=>z.elim,λ_ z=>z.elim,λw r h=>q _ _ _ h w r,λ_ _ z=>z.elim⟩ l⟩
def lW.gone(i:Nat)(N:lW):lW:=⟨λρ=>N.nx (ρ.set i .no),N.rt,λρ=>N.bk (ρ.set i .no),λρ=>N.ct (ρ.set i .no),λ_ _=>False⟩
def aYk(K:Ab)(CT:Addr)(i k:Nat)(G:XU->TVS)(S:TVS):TVS:=λN ρ=>G (λC v=>Ll K (.ref C) (.ref CT)=some true/\S (N.gone i) ((Al k .no).set i (.sh (.op (aLx C v))))) N ρ
def EO.noC{W B:Addr->Prop}{H0 H:Hp}{A:Nat->Addr->Prop}{ρ:EV}{σ:St}{i:Nat}(o:EO W B H0 A ρ σ H):EO W B H0 (λj q=>j≠i/\A j q) (ρ.set i .no) (σ.set i none) H:=by
 refine⟨o.eb,o.fw,by rw[Bm,Bm,o.len],λj p h=>o.an j p h.2,λj p h=>o.aw j p h.2,λj j' p h h'=>o.inj j j' p h.2 h'.2,λj u' h=>?_,λj s w h hs=>?_,λj s h=>?_⟩
 ·rcases bI h with ⟨rfl,e,hl⟩|⟨ne,h⟩
  ·cases e
  ·obtain⟨v',h1,h2⟩:=o.sh j u' h;exact⟨v',by rw[cT ne];exact h1,DU.mono EO.kp u' h2⟩
 ·rcases bI h with ⟨rfl,rfl,hl⟩|⟨ne,h⟩
  ·cases hs
  ·obtain⟨p,g1,g3⟩:=o.hd j s w h hs;exact⟨p,by rw[cT ne];exact g1,w.at_ (w.mono EO.kp (λ_ _=>rfl) g3) (aDy ne)⟩
 ·rcases bI h with ⟨rfl,rfl,hl⟩|⟨ne,h⟩
  ·rfl
  ·exact o.nb j s h
def aVr{G:XU->TVS}{S:TVS}{x n:Str}{i k:Nat}{p pos pos':Pos}(hm:X.mg x=some (.ref CT))(hN:X.N.Nodup)(hb:∀pins W E,aH3 (X.tried pins W) E->aDa (X.tried pins W) E body G)(hs:∀e,VSs (X.suite e) (b₀::rest) S)(hk:X.N.length=k:=by rfl)(hi:X.N[i]? =some n:=by rfl)(hst:X.stack=X.env::X.outer:=by rfl)(hf:X.env.frame=some X.env.locals:=by rfl)(hg:Gl X x:=by rfl)
  (hloc:X.env.kindOf n=some .local:=by rfl) (hlx:X.env.scope.names.lookup n=some .local:=by rfl) (hdb:ND x:=by decide):VS X (.Try body [.ExceptHandler (some (.Name x p)) (some n) (b₀::rest) pos] [] [] pos') (aYk X.K CT i k G S):=by
 refine⟨_,aQm (tb:=λE D σ H=>∃(W B:Addr->Prop)(H0:Hp)(A:Nat->Addr->Prop)(ρ:EV)(N:lW)(T:XU),EO W B H0 A ρ σ H/\G T N ρ/\aK8 W B H0 N D/\XL W B H0 T E) (ts:=λD σ H=>∃(W B:Addr->Prop)(H0:Hp)(A:Nat->Addr->Prop)(ρ:EV)(N:lW),EO W B H0 A ρ σ H/\S N ρ/\aK8 W B H0 N D) hst hf hg hm hN hi hloc hlx (λpins W' E hW=>?_) (λe=>?_) hdb,λ{W B H0 A ρ σ H N D} o g j=>⟨W,B,H0,A,ρ,N,_,o,g,j,λ{C dx v H1} t fv w nd hd=>?_⟩⟩
 ·obtain⟨t,p,f⟩:=hb pins W' E hW;intro pins s σ H D I ⟨W,B,H0,A,ρ,N,T,o,g,j,l⟩;exact p pins s σ H D I (f o g j l)
 ·obtain⟨t,p,f⟩:=hs e;intro pins s σ H D I ⟨W,B,H0,A,ρ,N,o,g,j⟩;exact p pins s σ H D I (f o g j)
 ·obtain⟨ex,g⟩:=t;refine⟨C,dx,rfl,rfl,ex,λe he=>?_⟩;have eb1:=o.eb.to w;have nB:¬B e:=λz=>eb1.dm e z he;have ned:dx≠e:=λz=>by rw[z,he]at hd;cases hd
  have w2:Fw W H0 (upd H1 e (aEr e C dx)):=w.upd (w.none_ he) λz=>nB (o.eb.wb e z);rw[hk];refine⟨W,B,H0,λ_ _=>False,_,_,⟨o.eb,w2,by simp,λ_ _ z=>z.elim,λ_ _ z=>z.elim,λ_ _ _ z=>z.elim,λj' u h=>?_,λj' s w' h hs=>?_,λj' s h=>?_⟩,g,⟨λo' h=>j.nx o'.noC h,λo' h=>j.bk o'.noC h,λo' h=>j.ct o'.noC h,j.rt,λ_ _ z=>z.elim⟩⟩
  ·rcases bI h with ⟨rfl,e',hl⟩|⟨ne,h⟩
   ·cases e';refine⟨_,get_set (by simpa using hl),fv,e,dx,rfl,λz=>z.elim nB λ⟨_,z⟩=>z,λz=>z.elim nd λ⟨_,z⟩=>z,aM,(aL ned).trans hd⟩
   ·rw[Bk]at h;split at h<;>cases h
  ·rcases bI h with ⟨rfl,e',hl⟩|⟨ne,h⟩
   ·cases e';cases hs
   ·rw[Bk]at h;split at h<;>cases h;cases hs
  ·rcases bI h with ⟨rfl,e',hl⟩|⟨ne,h⟩
   ·cases e';rfl
   ·rw[Bk]at h;split at h<;>cases h;rfl
def aOu(K:Ab)(c:Value)(F:TV):TV:=λρ R=>F ρ λs=>∃C v b,s.rd=.op (aLx C v)/\dY K C/\Dk K (.ref C) c=some b/\R (.sh (.b b))
def aD3{x:Str}{pos:Pos}(hg:Gl X x)(hm:X.mg x=some (.ref C))(hd:ND x:=by decide):PE X (.Name x pos) (tC (.ref C)):=aIp (v:=.ref C) hg hm rfl hd
def aVi{x:Str}{D:Addr}{a:Bw}{F:TV}{p p' pos:Pos}(hm:X.mg "isinstance"=none)(hm2:X.mg x=some (.ref D))(ha:VE X a F)(hg:Gl X "isinstance":=by rfl)(hg2:Gl X x:=by rfl)(h2:ND x:=by decide)
  (hs:Bc [a,.Name x p'] X.env=(false,eval a X.env)::Bc [.Name x p'] X.env:=by rfl) (hs2:Bc [.Name x p'] X.env=(false,eval (.Name x p') X.env)::Bc [] X.env:=by rfl) (hpl:BT X pos [.Name x p']:=by rfl):
  VE X (.Call (.Name "isinstance" p) [a,.Name x p'] [] pos) (aOu X.K (.ref D) F):=
 let⟨_,q,f⟩:=ha;⟨_,jT aLo hg hm Rp (bK q (bK (aD3 hg2 hm2 h2) dN hs2) hs) ⋯ ⋯ hs hpl,λe h q=>f e h λs v H1 ⟨C,y,b,es,Z,k,h1⟩ w r=>by
  have d:=r.db e.eb;rw[es]at d;obtain⟨fv,a,dx,rfl,_,_,h3,_⟩:=d.op;exact⟨a,C,dx,_,D,b,rfl,h3,Z,.inl ⟨rfl,k⟩,q _ _ _ h1 w ⟨rfl,rfl⟩⟩⟩
def aVf(K:Ab)(F:TV):TV:=λρ R=>F ρ λs=>∃C v,s.rd=.op (aLx C v)/\dY K C/\Dq K C=true/\Bo K (.ref C) "at"=some none/\R (.sh (.v v))
def aVk{a:Bw}{F:TV}{pos:Pos}(ha:VE X a F)(hb:Eh a "at" X.env (eval a X.env)=eval a X.env:=by rfl):VE X (.Attribute a "at" pos) (aVf X.K F):=
 let⟨_,q,f⟩:=ha;⟨_,aNq q hb,λe h q=>f e h λs v H1 ⟨C,y,es,Z,hd,hf,h1⟩ w r=>by
  have d:=r.db e.eb;rw[es]at d;obtain⟨fv,a,dx,rfl,_,_,h3,h4⟩:=d.op;exact⟨a,C,dx,_,y,rfl,h3,h4,Z,hd,hf,rfl,q _ _ _ h1 w ⟨rfl,fv⟩⟩⟩
abbrev MU:=U->Prop
def noB:Addr->Prop:=λ_=>False
def Tpl(H H':Hp):Prop:=∀b xs,H b=some (.tup xs)->H' b=some (.tup xs)
def Zs(M:MU)(H0:Hp)(rt:V->Hp->Prop):Prop:=∀u v H',M u->Tpl H0 H'->DU noB noB H' u v->rt v H'
def VTz(t:TS)(G:MU->TVS):Prop:=∀{W B:Addr->Prop}{H0:Hp}{A:Nat->Addr->Prop}{ρ:EV}{σ:St}{H:Hp}{N:lW}{D:Ends}{M:MU},EO W B H0 A ρ σ H->G M N ρ->aK8 W B H0 N D->Zs M H0 D.rt->t D σ H
def VSz(X:Cx)(st:List Stmt)(G:MU->TVS):Prop:=∃t,PSs X st t/\VTz t G
inductive aV8(F:List U->(Sl->Prop)->MU->Prop)(vs:List V)(H:Hp)(Q:VK)(z3_:XK):Prop
 |mk (W B us R M:_) (q0_:EB W B H) (q1_:DUs W B H us vs) (q2_:F us R M) (q3_:(∀s v H',R s->Fw W H H'->RO W B H H' s v->Q v H')) (q4_:Zs M H Q):aV8 F vs H Q z3_
def spZ(F:List U->(Sl->Prop)->MU->Prop):Sp:=λvs H Q z3_=>aV8 F vs H Q z3_
def Fw.tpl{H H':Hp}(o:∀p,W p->Wll H p)(f:Fw W H H'):Tpl H H':=λb xs h=>f.fr b _ (λw=>by obtain⟨_,_,_,e⟩:=o b w;rw[h]at e;cases e) h
def Tpl.trans{H H1 H2:Hp}(a:Tpl H H1)(b:Tpl H1 H2):Tpl H H2:=λc xs h=>b c xs (a c xs h)
def iZ{st:Stmt}{F:TVS}{G:MU->TVS}(h:VS X st F)(h':VSz X rest G):VSz X (st::rest) (λM=>aQ9 F (G M)):=
 let⟨_,p,f⟩:=h;let⟨_,p',f'⟩:=h';⟨_,bC p p',λo g j z=>f o g ⟨λo1 g1=>f' o1 g1 j z,j.bk,j.ct,j.rt,j.mr⟩⟩
def aVt{st:List Stmt}{G:MU->TVS}(i:Nat)(h:VSz X st G):VSz X st (λM=>aZl i (G M)):=by
 obtain⟨_,p,f⟩:=h;refine⟨_,p,λ{W B H0 A ρ σ H E D M} o h j z=>?_⟩;obtain⟨ns,us,hi,h⟩:=h;exact f (o.frz (u:=.dk ns us) hi rfl λn ⟨s,xs,h1,h2,h3⟩=>⟨_,xs,rfl,n _ ((s _).mpr rfl),h1,h2,h3⟩) h j z
def U.t1:U->Bool
 |.v _=>true
 |.tp l=>l.all λu=>match u with
  |.v _=>true
  |_=>false
 |_=>false
def Sl.t1:Sl->Sl
 |.sh u=>bif u.t1 then .sh u else .no
 |_=> .no
def DU.t1{W B:Addr->Prop}{H H':Hp}(k:Tpl H H'):∀{u:U}{v:V},u.t1=true->DU W B H u v->DU noB noB H' u v
 |.v _,_,_,h=>h
 |.tp l,_,t,⟨p,xs,e,_,hp,ds⟩=>⟨p,xs,e,id,k _ _ hp,by
  have t:(l.all λu=>match u with
   |.v _=>true
   |_=>false)=true:=t
  clear hp;induction l generalizing xs with
  |nil=>exact ds
  |cons u l ih=>
   obtain⟨x,r,rfl,d,ds⟩:=ds;rw[Nr,Dp]at t;match u,t.1,d with
   |.v y,_,d=>exact⟨x,r,rfl,d,ih t.2 r ds t.2⟩⟩
def aRj{F:TV}(f:VT te F):VTs (aU2 te) (aOx F):=λ{W B H0 A ρ σ H E D} o h j=>f o.ee h λs v H1 h1 w r=>by
  have fw:=o.fw.trans w;have less:∀{H:Hp} b(x:HO),¬Bx B A b->H b=some x->¬B b/\H b=some x:=λb x n h=>⟨λz=>n (.inl z),h⟩;match s,h1,r with
  |.sh u,h1,r=>exact j.rt fw (s:=.sh u) (DU.mono less u r) h1
  |.ow l,h1,⟨p,xs,e1,h2,h3,h4⟩=>
   refine j.rt fw (s:=.ow l) ?_ h1;exact RO.back (s:=.ow l) o.fw ⟨p,xs,e1,h2,h3,DUs.mono (λb x n h=>⟨λz=>n (z.elim (λz=> .inl (.inl z)) .inr),h⟩) l h4⟩
  |.oo w,h1,⟨p,S,e1,h2,h3⟩=>
   refine j.rt fw (s:=.oo w) ?_ h1;exact RO.back (s:=.oo w) o.fw ⟨p,S,e1,h2,w.mono (λb x n h=>⟨λz=>n (z.elim (λz=> .inl (.inl z)) .inr),h⟩) (λ_ _=>rfl) h3⟩
  |.no,_,r=>exact r.elim
def aVc(i:Nat)(F:List U->(Sl->Prop)->MU->Prop)(G:TVa)(F2:TV):MU->TVS:=λM N ρ=>G ρ λus=>F us (aOw i ρ λρ'=>aOx F2 N ρ') λu=>F2 ((ρ.map Sl.t1).set i (.sh u)) λs=>∃u',s=.sh u'/\M u'
def aRk{k i:Nat}{x f:Str}{F:List U->(Sl->Prop)->MU->Prop}{a e2:Bw}{es:List Bw}{G:TVa}{F2:TV}{p pos pos' cpos pos2:Pos}(hN:X.N.Nodup)(C:Cal X.prog X.w X.K X.mg X.base CX0 k f ps (spZ F))(hr:cO k X.A)(hg:Gl X f)(ha:VA X (a::es) G)(he:VE X e2 F2)
  (hi:X.N[i]? =some x:=by rfl) (hx:Loc X.env.scope x:=by first|exact Ex rfl|exact Fy rfl) (hs:Dt (.Call (.Name f p) (a::es) [] cpos) (some (.Name x pos')) pos.line X.env=pure false:=by rfl) (hf:FL X x:=by trivial)
  (hdb:ND f:=by decide) (hst:SE X a es:=by rfl) (hpl:BT X cpos es:=by rfl):
  VSz X [.Assign [.Name x pos'] (.Call (.Name f p) (a::es) [] cpos) pos,.Return (some e2) pos2] (aVc i F G F2):=by
 obtain⟨_,p1,g⟩:=ha;obtain⟨te,p2,f2⟩:=he;refine⟨_,bC (uA hN hi hx (aNm C hr hg yM p1 hdb hst hpl) hs hf) (cI (rG p2)),λ{W B H0 A ρ σ H N D M} o h j z=>g o.ee h λus vs H1 h1 l1 w1 d=>?_⟩;have o1:=o.to w1;refine⟨_,_,us,_,_,o1.ee.eb,by rw[Bs];exact d,h1,λs v H2 h2 w2 r2=>xJ (Q:=λσ H=>aU2 te D σ H) o1 w2 r2 h2 λo2 h2=>aRj f2 o2 h2 j,λu v H2 m tp du=>?_⟩;have e:EE noB noB H2 ((ρ.map Sl.t1).set i (.sh u)) (σ.set i (some v)):=by
  refine⟨⟨nofun,nofun,nofun⟩,by rw[Bm,Bm,Ac,o.len],λj' u' h'=>?_,λj' s w' h' hs'=>?_⟩
  ·rcases bI h' with ⟨rfl,e,hl⟩|⟨ne,h'⟩
   ·cases e;exact⟨v,get_set (by rw[Ac]at hl;rw[<-o.len];exact hl),du⟩
   ·rw[Ay]at h';cases hρ:ρ[j']? with
    |none=>rw[hρ]at h';cases h'
    |some s=>
     rw[hρ]at h';have h':s.t1=.sh u':=Bq h';match s,h' with
     |.sh y,h'=>
      simp only[Sl.t1]at h';cases ht:y.t1 with
      |false=>rw[ht]at h';cases h'
      |true=>
       rw[ht]at h';cases h';obtain⟨v',k1,k2⟩:=o1.sh j' u' hρ;exact⟨v',by rw[cT ne];exact k1,DU.t1 tp ht k2⟩
  ·rcases bI h' with ⟨rfl,rfl,hl⟩|⟨ne,h'⟩
   ·cases hs'
   ·rw[Ay]at h';cases hρ:ρ[j']? with
    |none=>rw[hρ]at h';cases h'
    |some s0=>
     rw[hρ]at h';have h':s0.t1=s:=Bq h';subst h';have:s0.t1.hold=none:=by
      match s0 with
      |.sh y=>simp only[Sl.t1];cases y.t1<;>rfl
      |.no=>rfl
      |.ow _=>rfl
      |.br _=>rfl
      |.oo _=>rfl
      |.bo _=>rfl
     rw[this]at hs';cases hs'
 refine f2 e m λs v3 H3 ⟨u',es,mu⟩ w3 r3=>?_;subst es;exact z _ _ _ mu (((Fw.tpl o.eb.wo o1.fw).trans tp).trans (Fw.tpl nofun w3)) r3
def aYn{P:Ap}{w:Bh}{K:Ab}{mg:Str->#v[8]}{base:Heap}{x qual:Str}{st:Stmt}{f:Addr}{fd:Bb}{N ps:List Str}{G:MU->TVS}{F:List U->(Sl->Prop)->MU->Prop}(Fn:Fun K x qual st f fd)(S:aP N ps (aF st))
  (hb:∀(cdv:Value)(A:Bl)(outer:List Env)(s:Ae)(H:Hp)(E:XK),cO k (A.deeper (Ke qual (aF st) #v[0] f cdv))->VSz (uV CX0 P w K mg base N qual (aF st) f cdv A outer s H E).nox (dO st) G)
  (hF:∀us R M,F us R M->us.length=ps.length/\G M {nx:=λ_=>R (.sh .no),rt:=R} (us.map .sh++Al (N.length-us.length) .no)):↥(k+1) f fd ps (spZ F):=by
 refine Fn.ok S (λvs H Q E h=>?_) (λcdv A outer s H vs Q E hr h=>?_)
 ·obtain⟨W,B,us,R,M,eb,d,h,_⟩:=h;rw[<-d.length];exact(hF us R M h).1
 ·obtain⟨t,p,g⟩:=hb cdv A outer s H E hr;obtain⟨W,B,us,R,M,eb,d,h,q,z⟩:=h;exact⟨t,p,g (aE5 eb d) (hF us R M h).2 ⟨λo h=>q _ _ _ h o.fw ⟨rfl,rfl⟩,λ_ z=>z.elim,λ_ z=>z.elim,λw r h=>q _ _ _ h w r,λ_ _ z=>z.elim⟩ z⟩
section
variable {W B B':Addr->Prop}{H:Hp}
mutual
theorem DU.dat(k:∀b,B b->B' b∨∃kvs,H b=some (.dK kvs)):∀(n:Nat)(u:U){v:V},u.dt n->DU W B' H u v->DU W B H u v
 |_,.v _,_,_,h=>h
 |n+1,.tp l,_,t,⟨p,xs,e,nb,hp,ds⟩=>⟨p,xs,e,λz=>(k p z).elim nb λ⟨_,q⟩=>(by rw[hp]at q;cases q),hp,DUs.dat k n l t ds⟩
 |n+1,.ls l,_,t,⟨p,xs,e,nb,hp,ds⟩=>⟨p,xs,e,λz=>(k p z).elim nb λ⟨_,q⟩=>(by rw[hp]at q;cases q),hp,DUs.dat k n l t ds⟩
theorem DUs.dat(k:∀b,B b->B' b∨∃kvs,H b=some (.dK kvs)):∀(n:Nat)(l:List U){xs:List V},U.dts n l->DUs W B' H l xs->DUs W B H l xs
 |_,[],_,_,h=>h
 |n,u::l,_,⟨t,t'⟩,⟨x,r,e,h,h'⟩=>⟨x,r,e,DU.dat k n u t h,DUs.dat k n l t' h'⟩
end
end
def Sl.dat:Sl->Prop
 |.sh u=>u.dt 40
 |.ow l=>U.dts 40 l
 |_=>False
def mdO(ns:List Str)(us:List U)(a:Addr):Own:=⟨λW B S H p=>p=a/\(dkO ns us).φ W B S H p,λk e h=>⟨h.1,(dkO ns us).mono k e h.2⟩,λk h=>⟨h.1,(dkO ns us).wm k h.2⟩,λh=>(dkO ns us).th h.2⟩
def aU6(i j:Nat)(F:List U->(Sl->Prop)->Prop):TV:=λρ R=>∃u0 ns us,ρ[i]? =some (.sh u0)/\(ρ[j]? =some (.oo (dkO ns us))∨∃a,ρ[j]? =some (.oo (mdO ns us a)))/\F [u0,.dk ns us] λs=>s.dat/\R s
inductive aV4(F:U->List Str->List U->(List Str->List U->Prop)->Prop)(vs:List V)(H:Hp)(Q:VK)(z3_:XK):Prop
 |mk (W B u0 ns us R v0 p:_) (q0_:vs=[v0,.ref p]) (q1_:EB W B H) (q2_:¬B p) (q3_:DU W (λb=>B b∨b=p) H u0 v0) (q4_:(dkO ns us).φ W (λb=>B b∨b=p) (·=p) H p) (q5_:F u0 ns us R) (q6_:∀ns' us' H',R ns' us'->(∀b x,¬W b->b≠p->H b=some x->H' b=some x)->(∀p,W p->Wll H' p)->(dkO ns' us').φ W (λb=>B b∨b=p) (·=p) H' p->Q .non H'):aV4 F vs H Q z3_
def spD(F:U->List Str->List U->(List Str->List U->Prop)->Prop):Sp:=λvs H Q z3_=>aV4 F vs H Q z3_
def aOt(i j:Nat)(F:U->List Str->List U->(List Str->List U->Prop)->Prop):TVS:=λE ρ=>∃u0 ns us,ρ[i]? =some (.sh u0)/\ρ[j]? =some (.oo (dkO ns us))/\F u0 ns us λns' us'=>E.nx (ρ.set j (.oo (dkO ns' us')))
def putD(ns:List Str)(us:List U)(k:Str)(u:U)(R:List Str->List U->Prop):Prop:=(k∉ns/\R (ns++[k]) (us++[u]))∨∃n,ns.Nodup/\ns[n]? =some k/\R ns (us.set n u)
def aYg(i:Nat)(k:Str)(F:TV):TVS:=λE ρ=>F ρ λs=>s.es λu=>∃ns us a,ρ[i]? =some (.oo (mdO ns us a))/\ns.length<=50/\putD ns us k u λns' us'=>E.nx (ρ.set i (.oo (mdO ns' us' a)))
def aVa(i:Nat)(k k':Str)(F:TV):TVS:=λE ρ=>F ρ λs=>∃u u',s=.sh (.tp [u,u'])/\∃ns us a,ρ[i]? =some (.oo (mdO ns us a))/\ns.length<=48/\putD ns us k u λns us=>putD ns us k' u' λns' us'=>E.nx (ρ.set i (.oo (mdO ns' us' a)))
def aX9(a:TV)(k:Str):TV:=λρ R=>a ρ λs=>∃ns us a,s=.bo (mdO ns us a)/\wO k ns us R
def getD(k:Str)(ns:List Str)(us:List U)(R:Sl->Prop):Prop:=(k∉ns/\R (.sh .no))∨wO k ns us R
def aX7(a:TV)(k:Str):TV:=λρ R=>a ρ λs=>∃ns us,s.rd=.dk ns us/\getD k ns us R
def aEa{W B S:Addr->Prop}{H:Hp}{us:List U}{k:Str}{u:U}{R:List Str->List U->Prop}(l:ns.length=xs.length)(d:DUs W B H us xs)(dv:DU W B H u v)(s:∀b,S b↔b=p)(nb:B p)(h:putD ns us k u R):
  ∃ns' us',R ns' us'/\(ns'.length=ns.length∨ns'.length=ns.length+1)/\(dkO ns' us').φ W B S (upd H p (.dK (putK (zk ns xs) (Cr k) v))) p:=by
 have kk:∀{x:HO} b y,¬B b->H b=some y->¬B b/\upd H p x b=some y:=λb y n h=>⟨n,(aL (λz:b=p=>n (z▸nb))).trans h⟩;rcases h with ⟨hk,h⟩|⟨n,nd,hn,h⟩
 ·exact⟨_,_,h,.inr (by rw[An];rfl),s,xs++[v],by rw[aM,aIt l hk],by rw[An,An,l];rfl,DUs.mono kk _ (d.app (DUs.one dv))⟩
 ·exact⟨_,_,h,.inl rfl,s,xs.set n v,by rw[aM,aNz l nd hn],by rw[Bm,l],DUs.mono kk _ (DUs.set dv d)⟩
def aOy{f x y:Str}{F:List U->(Sl->Prop)->Prop}{p px py pos:Pos}(i j:Nat)(C:Cal X.prog X.w X.K X.mg X.base CX0 k f ps (spV F))(hr:cO k X.A)(hg:Gl X f:=by rfl)
  (hN:X.N[i]? =some x:=by rfl) (hN':X.N[j]? =some y:=by rfl) (hv:Vis X.env.scope x:=by trivial) (hv':Vis X.env.scope y:=by trivial) (hd:ND x:=by decide)
  (hcd:NC x:=by decide) (hd':ND y:=by decide) (hcd':NC y:=by decide) (hdb:ND f:=by decide)
  (he:Bc [.Name x px,.Name y py] X.env=(false,eval (.Name x px) X.env)::Bc [.Name y py] X.env:=by rfl) (he2:Bc [.Name y py] X.env=(false,eval (.Name y py) X.env)::Bc [] X.env:=by rfl) (hpl:BT X pos [.Name y py]:=by rfl):
  VE X (.Call (.Name f p) [.Name x px,.Name y py] [] pos) (aU6 i j F):=by
 refine⟨_,aNm C hr hg yM (bK (fK hN hv hd hcd) (bK (fK hN' hv' hd' hcd') dN he2) he) hdb he hpl,λ{W B ρ σ H R Q} e h q=>?_⟩;obtain⟨u0,ns,us,hi,hj,h⟩:=h;obtain⟨v0,g0,d0⟩:=e.sh i u0 hi;obtain⟨a,g1,nW,xs,hp,hl,ds⟩:∃p,σ[j]? =some (some (V.ref p))/\¬W p/\∃xs,H p=some (.dK (zk ns xs))/\ns.length=xs.length/\DUs W B H us xs:=by
  rcases hj with hj|⟨a,hj⟩
  ·obtain⟨p,S,g1,nw,s,xs,h1,h2,h3⟩:=e.hd j _ _ hj rfl;exact⟨p,g1,nw p ((s p).mpr rfl),xs,h1,h2,h3⟩
  ·obtain⟨p,S,g1,nw,_,s,xs,h1,h2,h3⟩:=e.hd j _ _ hj rfl;exact⟨p,g1,nw p ((s p).mpr rfl),xs,h1,h2,h3⟩
 have less:∀b o,¬B b->H b=some o->¬(B b/\b≠a)/\H b=some o:=λb o n h=>⟨λz=>n z.1,h⟩;have eb:EB W (λb=>B b/\b≠a) H:=⟨λb hb=>e.eb.bl b hb.1,λb hb=>⟨e.eb.wb b hb,λz=>nW (z▸hb)⟩,e.eb.wo⟩;refine⟨v0,g0,_,g1,W,_,[u0,.dk ns us],_,eb,⟨v0,_,rfl,DU.mono less _ d0,_,_,rfl,⟨a,xs,rfl,λz=>z.2 rfl,hp,hl,DUs.mono less _ ds⟩,rfl⟩,h,λs v H' ⟨dt,r⟩ fw ro=>q s v H' r fw ?_⟩;have hp':=fw.fr a _ nW hp;have kk:∀b,B b->(B b/\b≠a)∨∃kvs,H' b=some (.dK kvs):=λb hb=>by
  by_cases z:b=a
  ·exact .inr ⟨_,z▸hp'⟩
  ·exact .inl ⟨hb,z⟩
 match s,dt,ro with
 |.sh u,dt,ro=>exact DU.dat kk 40 u dt ro
 |.ow l,dt,⟨q,ys,e1,n1,h2,h3⟩=>exact⟨q,ys,e1,n1,h2,DUs.dat (λb hb=>hb.elim (λhb=>(kk b hb).imp .inl id) λz=> .inl (.inr z)) 40 l dt h3⟩
def aO6{f x y:Str}{F:U->List Str->List U->(List Str->List U->Prop)->Prop}{p px py pos epos:Pos}(i j:Nat)(C:Cal X.prog X.w X.K X.mg X.base CX0 k f ps (spD F))(hr:cO k X.A)(hg:Gl X f:=by rfl)
  (hN:X.N[i]? =some x:=by rfl) (hN':X.N[j]? =some y:=by rfl) (hv:Vis X.env.scope x:=by trivial) (hv':Vis X.env.scope y:=by trivial) (hd:ND x:=by decide)
  (hcd:NC x:=by decide) (hd':ND y:=by decide) (hcd':NC y:=by decide) (hdb:ND f:=by decide)
  (he:Bc [.Name x px,.Name y py] X.env=(false,eval (.Name x px) X.env)::Bc [.Name y py] X.env:=by rfl) (he2:Bc [.Name y py] X.env=(false,eval (.Name y py) X.env)::Bc [] X.env:=by rfl) (hpl:BT X pos [.Name y py]:=by rfl) (hs:Dt (.Call (.Name f p) [.Name x px,.Name y py] [] pos) none epos.line X.env=pure false:=by rfl):
  VS X (.Expr (.Call (.Name f p) [.Name x px,.Name y py] [] pos) epos) (aOt i j F):=by
 refine⟨_,lG (aNm C hr hg yM (bK (fK hN hv hd hcd) (bK (fK hN' hv' hd' hcd') dN he2) he) hdb he hpl) hs,λ{W B H0 A ρ σ H E D} o h jj=>?_⟩;obtain⟨u0,ns,us,hi,hj,h⟩:=h;obtain⟨v0,g0,d0⟩:=o.sh i u0 hi;obtain⟨a,g1,s,xs,hp,hl,ds⟩:=o.hd j _ _ hj rfl;have pq:=(s a).mpr rfl;have nW:¬W a:=o.nw pq;have eS:A j=(·=a):=funext λb=>propext (s b);have eq:∀b,((B b∨∃i,i≠j/\A i b)∨b=a)↔Bx B A b:=λb=>⟨λz=>z.elim (λz=>z.elim .inl λ⟨i,_,y⟩=> .inr ⟨i,y⟩) λz=> .inr ⟨j,(s b).mpr z⟩,λz=>z.elim (λz=> .inl (.inl z)) λ⟨i,y⟩=>by
  by_cases e:i=j
  ·rw[e]at y;exact .inr ((s b).mp y)
  ·exact .inl (.inr ⟨i,e,y⟩)⟩
 have e2:=o.ee.eb;have np:¬(B a∨∃i,i≠j/\A i a):=λz=>z.elim (o.now (o.an j a pq)) λ⟨i,n,y⟩=>n (o.inj i j a y pq);have eB:(λb=>(B b∨∃i,i≠j/\A i b)∨b=a)=Bx B A:=funext λb=>propext (eq b);refine⟨v0,g0,_,g1,W,λb=>B b∨∃i,i≠j/\A i b,u0,ns,us,_,v0,a,rfl,⟨λb hb=>e2.bl b ((eq b).mp (.inl hb)),λb hb=> .inl (o.eb.wb b hb),e2.wo⟩,np,by rw[eB];exact d0,by rw[eB];exact⟨λ_=>Qe,xs,hp,hl,ds⟩,h,λns' us' H' h1 kp wl fi=>?_⟩;refine jj.nx (o.rep (H1:=H') (i:=j) (s:=.oo (dkO ns' us')) (w:=dkO ns' us') (S:=(·=a)) (p:=a) rfl rfl (λb y w n h=>kp b y w n h) wl (λb hb=> .inl ((s b).mpr hb)) ((dkO ns' us').mono (λb x n h=>⟨λz=>n (z.elim (λz=> .inl (.inl z)) λz=>z.elim (λz=> .inl (.inr z)) .inr),h⟩) (λ_ _=>rfl) fi) g1) h1
def vY{x:Str}{k:Str}{j pk}{value:Bw}{pos pos' p':Pos}{F:TV}(i:Nat)(hr:cO m X.A)(hv:VE X value F)(hN:X.N[i]? =some x:=by rfl)(hvs:Vis X.env.scope x:=by trivial)(hd:ND x:=by decide)
  (hcd:NC x:=by decide) (hs:Dt value (some (.Subscript (.Name x p') (.Constant (.str k) j pk) pos')) pos.line X.env=pure false:=by rfl):VS X (.Assign [.Subscript (.Name x p') (.Constant (.str k) j pk) pos'] value pos) (aYg i k F):=by
 obtain⟨_,p2,f2⟩:=hv;refine⟨_,aIs (by have:=hr.un;lia) (fK hN hvs hd hcd) jD p2 hs,λ{W B H0 A ρ σ H E D} o h jj=>f2 o.ee h λsv v H1 h1 w1 r1=>?_⟩;obtain⟨u,⟨ns,us,a,hi,hl,h2⟩,dv⟩:=r1.du o.ee.eb h1;have o1:=o.to w1;obtain⟨p,g1,rfl,gs,xs,g2,g3,g4⟩:=o1.hd i _ _ hi rfl;obtain⟨ns',us',h3,_,φ⟩:=aEa g3 g4 dv gs (.inr ⟨i,(gs p).mpr rfl⟩) h2;refine⟨_,g1,p,_,rfl,aC2.k (k:=Cr k) g2 ?_,jj.nx (o1.chg g1 ((gs p).mpr rfl) (s':=.oo (mdO ns' us' p)) rfl rfl ⟨rfl,φ⟩) h3⟩;have:(zk ns xs).length<=ns.length:=by unfold zk;rw[Ib,Ac];lia
 exact Ik (Bd this hl) ⋯
inductive aLc(o:V)(i:V)(v:V)(H:Hp)(Q:(Hp->Prop)):Prop
 |mk (a H':_) (q0_:o=.ref a) (q1_:aC2 H a i v H') (q2_:Q H'):aLc o i v H Q
def aXc:V->V->V->Hp->(Hp->Prop)->Prop:=λo i v H Q=>aLc o i v H Q
def aOd(hu:X.A.units+1<cLine):aS7 X aXc:=by
 intro pins s σ H o i v ov iv u Q I ro ri rv h;obtain⟨a,H',rfl,g,q⟩:=h;cases ro;exact aCd hu I g ri rv λs' I'=>⟨H',I',q⟩
def aO8{x:Str}{k k':Str}{j pk j' pk'}{x1}{value:Bw}{pos pos' pos2 tpos p' p2':Pos}{F:TV}(i:Nat)(hr:cO m X.A)(hc:X.calm=true)(hv:VE X value F)(hN:X.N[i]? =some x:=by rfl)(hvs:Vis X.env.scope x:=by trivial)(hd:ND x:=by decide)
  (hcd:NC x:=by decide) (hs:Tc [.Tuple [.Subscript (.Name x p') (.Constant (.str k) j pk) pos',.Subscript (.Name x p2') (.Constant (.str k') j' pk') pos2] x1 tpos] value pos.line X.env=pure false:=by rfl) (hw:Td [.Tuple [.Subscript (.Name x p') (.Constant (.str k) j pk) pos',.Subscript (.Name x p2') (.Constant (.str k') j' pk') pos2] x1 tpos] value X.env=pure none:=by rfl)
  (h1:(Ha [.Tuple [.Subscript (.Name x p') (.Constant (.str k) j pk) pos',.Subscript (.Name x p2') (.Constant (.str k') j' pk') pos2] x1 tpos] X.env).map (·.2)=[assign (.Tuple [.Subscript (.Name x p') (.Constant (.str k) j pk) pos',.Subscript (.Name x p2') (.Constant (.str k') j' pk') pos2] x1 tpos) X.env]:=by rfl)
  (ha:∀v,assign (.Subscript (.Name x p') (.Constant (.str k) j pk) pos') X.env v=(do
   let ov<-holding [v] (eval (.Name x p') X.env)
   let iv<-holding [v,ov] (eval (.Constant (.str k) j pk) X.env)
   Lr pos'
   holding [v,ov,iv] (Tf ov iv v)
   release [v,ov,iv] []):=by intro _;rfl)
  (ha2:∀v,assign (.Subscript (.Name x p2') (.Constant (.str k') j' pk') pos2) X.env v=(do
   let ov<-holding [v] (eval (.Name x p2') X.env)
   let iv<-holding [v,ov] (eval (.Constant (.str k') j' pk') X.env)
   Lr pos2
   holding [v,ov,iv] (Tf ov iv v)
   release [v,ov,iv] []):=by intro _;rfl):VS X (.Assign [.Tuple [.Subscript (.Name x p') (.Constant (.str k) j pk) pos',.Subscript (.Name x p2') (.Constant (.str k') j' pk') pos2] x1 tpos] value pos) (aVa i k k' F):=by
 obtain⟨_,p2,f2⟩:=hv
 have hu:X.A.units+1<cLine:=by have:=hr.un;lia
 refine⟨_,aD7 p2 (aD4 hc (mH (aA1 (fK hN hvs hd hcd) jD (aOd hu) ha) (mH (aA1 (fK hN hvs hd hcd) jD (aOd hu) ha2) zN))) hs hw h1,λ{W B H0 A ρ σ H E D} o h jj=>f2 o.ee h λsv v H1 h1 w1 r1=>?_⟩
 obtain⟨u,u',rfl,ns,us,a,hi,hl,h2⟩:=h1
 obtain⟨q,ys,rfl,nq,hq,v1,_,rfl,d1,v2,_,rfl,d2,rfl⟩:=r1
 have o1:=o.to w1
 obtain⟨p,g1,rfl,gs,xs,g2,g3,g4⟩:=o1.hd i _ _ hi rfl
 have Bp:Bx B A p:=.inr ⟨i,(gs p).mpr rfl⟩
 obtain⟨ns',us',h3,l3,φ⟩:=aEa g3 g4 d1 gs Bp h2
 have kk:∀{x:HO} b y,¬Bx B A b->H1 b=some y->¬Bx B A b/\upd H1 p x b=some y:=λb y n h=>⟨n,(aL (λz:b=p=>n (z▸Bp))).trans h⟩
 obtain⟨gs',xs',g2',g3',g4'⟩:=φ
 obtain⟨ns2,us2,h5,l5,φ2⟩:=aEa g3' g4' (DU.mono kk _ d2) gs' Bp h3
 have le:∀{ns:List Str}{xs:List V},ns.length<=50->(zk ns xs).length<sizeLine:=λ{ns xs} hl=>by
  have:(zk ns xs).length<=ns.length:=by unfold zk;rw[Ib,Ac];lia
  exact Ik (Bd this hl) ⋯
 refine⟨q,_,rfl,SqT.of hq,rfl,v1,_,rfl,⟨_,g1,p,_,rfl,aC2.k (k:=Cr k) g2 (le ∅),v2,_,rfl,⟨_,g1,p,_,rfl,aC2.k (k:=Cr k') g2' (le ∅),rfl,?_⟩⟩⟩
 have φ3:=φ2
 rw[aI0]at φ3
 exact jj.nx (by rw[aI0];exact o1.chg g1 ((gs p).mpr rfl) (s':=.oo (mdO ns2 us2 p)) rfl rfl ⟨rfl,φ3⟩) h5
def aEo{a:Bw}{k:Str}{j pos p}{F:TV}(hr:cO m X.A)(ha:VE X a F)(hs:aPg (.Constant (.str k) j p):=by exactλ_ _=>rfl):VE X (.Subscript a (.Constant (.str k) j p) pos) (aX9 F k):=by
 obtain⟨_,p,f⟩:=ha;refine⟨_,aIo (by have:=hr.un;lia) p jD hs,λ{W B ρ σ H R Q} e h q=>f e h λs v H1 h1 f1 r=>?_⟩;obtain⟨ns,us,a,rfl,h1⟩:=h1;obtain⟨p,S,rfl,_,rfl,s,xs,hp,_,ds⟩:=r;obtain⟨u,v,h2,h3,h4⟩:=zK ds h1;exact⟨p,v,rfl,by rw[<-h4];exact zW.k (k:=Cr k) hp,q _ _ _ h2 f1 h3⟩
theorem aI1{k:Str}:∀{ns:List Str}{xs:List V},k∉ns->vW (zk ns xs) (Cr k)=none
 | [],_,_=>rfl
 |_::_,[],_=>rfl
 |a::ns,x::xs,h=>by
  show vW ((Cr a,x)::zk ns xs) _=_;rw[rQ (λz=>h (by rw[Lx z];exact Ah))];exact aI1 λz=>h (Ag _ z)
def aRb{a:Bw}{k:Str}{j p apos cpos}{F:TV}(hr:cO m X.A)(ha:VE X a F)(m1:M1 X a "get" apos (.Constant (.str k) j p) cpos:=by exact⟨rfl,rfl,rfl,rfl⟩):VE X (.Call (.Attribute a "get" apos) [.Constant (.str k) j p] [] cpos) (aX7 F k):=by
 obtain⟨_,p,f⟩:=ha;refine⟨_,aNp (by have:=hr.un;lia) p jD m1,λ{W B ρ σ H R Q} e h q=>f e h λs v H1 h1 f1 r=>?_⟩;obtain⟨ns,us,es,h1⟩:=h1;have d:=r.db e.eb;rw[es]at d;obtain⟨p,xs,rfl,_,hp,hl,ds⟩:=d.dk;refine⟨p,rfl,?_,?_⟩
 ·first|exact⟨_,.inl hp⟩|exact⟨_,.inl (.inl hp)⟩|exact .inl ⟨_,.inl hp⟩
 rcases h1 with ⟨hn,h1⟩|h1
 ·exact⟨none,by rw[<-aI1 (xs:=xs) hn];exact zW.k (k:=Cr k) hp,q _ _ _ h1 f1 ⟨rfl,rfl⟩⟩
 ·obtain⟨u,v,h2,h3,h4⟩:=zK ds h1;exact⟨some v,by rw[<-h4];exact zW.k (k:=Cr k) hp,q _ _ _ h2 f1 h3⟩
def aYo{X:Cx}{tg e:Bw}{F G:TVa}(h1:VI X tg e F)(h2:VI X tg e G):VI X tg e (λρ R=>F ρ R∨G ρ R):=
 let⟨w1,p1,f1⟩:=h1;let⟨w2,p2,f2⟩:=h2;⟨λσ H R=>w1 σ H R∨w2 σ H R,λpins s σ H R I h=>h.elim (p1 pins s σ H R I) (p2 pins s σ H R I),λe h q=>h.imp (λh=>f1 e h q) λh=>f2 e h q⟩
inductive aLa(K:Ab)(x:V)(y:V)(H:Hp)(Q:VK):Prop
 |mk (l k xs:_) (q0_:x=.ref l) (q1_:y=.int k) (q2_:SqT K H l xs) (q3_:xs≠[]) (q4_:0<=k) (q5_:k<1000) (q6_:xs.length<=1000) (q7_:(k=1->Q (.ref l) H)) (q8_:(k≠1->∀p,H p=none->Q (.ref p) (upd H p (.tup (Al k.toNat xs).flatten)))):aLa K x y H Q
def aSt(K:Ab):R2:=λx y H Q=>aLa K x y H Q
def oU{X:Cx}:OpR X (Gs .Mult) (aSt X.K):=λpins s σ H x y v u Q I rx ry ⟨l,k,xs,h1,h2,h3,h4,h5,h6,h7,h8,h9⟩=>aQb pins s σ H x y v u Q I rx ry ⟨l,k,xs,h1,h2,h3,h4,h5,h6,h7,h8,h9⟩
def aSk:U->U->(Sl->Prop)->Prop
 |.tp l,.v (.int k),R=>0<=k/\k<=100/\l≠[]/\l.length<=10/\R (.sh (.tp (Al k.toNat l).flatten))
 |_,_,_=>False
def sS{K:Ab}:O2 (aSt K) aSk:=λ{W B H u v x y R Q} e d1 d2 h q=>by
 unfold aSk at h;split at h
 ·rename_i l k;obtain⟨h0,hk,hn,hl,h⟩:=h;obtain⟨p,xs,rfl,nb,hp,ds⟩:=d1.tp;obtain rfl:=d2.int;have dl:=ds.length;refine⟨p,k,xs,rfl,rfl,SqT.of hp,λz=>hn (Ic.mp (by rw[dl,z];rfl)),h0,∅,∅,λz=>?_,λz r nr=>?_⟩
  ·refine q _ _ _ h e.refl ⟨p,xs,rfl,nb,hp,?_⟩;rw[z];show DUs W B H (l++[]) xs;rw[Bs];exact ds
  ·have f:=e.new (o:=.tup (Al k.toNat xs).flatten) nr;exact q _ _ _ h f ⟨r,_,rfl,e.nw nr,aM,DUs.mono (e.keep f) _ (ds.rep _)⟩
 ·exact h.elim
open Classical in
def aZv{P:Ap}{w:Bh}{K:Ab}{mg:Str->#v[8]}{base:Heap}{x qual:Str}{st:Stmt}{f:Addr}{fd:Bb}{N ps:List Str}{G:TVS}{F:U->List Str->List U->(List Str->List U->Prop)->Prop}(Fn:Fun K x qual st f fd)(S:aP N ps (aF st))(hp:ps.length=2)
  (hb:∀(cdv:Value)(A:Bl)(outer:List Env)(s:Ae)(H:Hp)(E:XK),cO k (A.deeper (Ke qual (aF st) #v[0] f cdv))->VSs (uV CX0 P w K mg base N qual (aF st) f cdv A outer s H E).nox (dO st) G)
  (hF:∀p u0 ns us R,F u0 ns us R->G {nx:=λρ=>∃ns' us',ρ[1]? =some (.oo (mdO ns' us' p))/\R ns' us',rt:=λ_=>False} (.sh u0:: .oo (mdO ns us p)::Al (N.length-2) .no)):↥(k+1) f fd ps (spD F):=by
 refine Fn.ok S (λvs H Q E h=>?_) (λcdv A outer s H vs Q E hr h=>?_)
 ·obtain⟨W,B,u0,ns,us,R,v0,p,rfl,_⟩:=h;exact hp.symm
 ·obtain⟨t,pt,g⟩:=hb cdv A outer s H E hr;obtain⟨W,B,u0,ns,us,R,v0,p,rfl,eb,nB,d,fi,h,q⟩:=h;have hx:∀b,Bx B (λi b=>i=1/\b=p) b↔(B b∨b=p):=λb=>⟨λz=>z.imp id λ⟨_,z⟩=>z.2,λz=>z.imp id λz=>⟨1,rfl,z⟩⟩;have eB:Bx B (λi b=>i=1/\b=p)=λb=>B b∨b=p:=funext λb=>propext (hx b);have n0:∀{b x},(if b=p then none else H b)=some x->b≠p/\H b=some x:=λ{b x} h=>by
   split at h
   ·cases h
   ·exact⟨by assumption,h⟩
  have no_:∀{i:Nat}{s:Sl},(Al (N.length-2) Sl.no)[i]? =some s->s=.no:=λ{i s} h=>by
   rw[Bk]at h;split at h<;>cases h;rfl
  have o:EO W B (λb=>if b=p then none else H b) (λi b=>i=1/\b=p) (.sh u0:: .oo (mdO ns us p)::Al (N.length-2) .no) (start N [v0,.ref p]) H:=by
   refine⟨⟨λb hb=>?_,eb.wb,λb hb=>?_⟩,⟨λb x _ h=>(n0 h).2,eb.wo⟩,?_,λi b h=>if_pos h.2,λi b h=>?_,λi j b h h'=>h.1.trans h'.1.symm,λi u h=>?_,λi s w h hs=>?_,λi s h=>?_⟩
   ·rw[if_neg λz:b=p=>nB (z▸hb)];exact eb.bl b hb
   ·obtain⟨x,y,z,h⟩:=eb.wo b hb;exact⟨x,y,z,(if_neg λe:b=p=>nB (e▸eb.wb b hb)).trans h⟩
   ·simp[start]
   ·rw[h.2];exact(dkO ns us).th fi p rfl
   ·match i,h with
    |0,h=>
     cases h;exact⟨v0,rfl,by rw[eB];exact d⟩
    |1,h=>cases h
    |i+2,h=>cases no_ (show(Al (N.length-2) Sl.no)[i]? =_ from h)
   ·match i,h with
    |0,h=>cases h;cases hs
    |1,h=>
     cases h;cases hs;refine⟨p,rfl,rfl,?_⟩;rw[eB];exact(dkO ns us).at_ fi λb=>⟨λz=>z.2,λz=>⟨rfl,z⟩⟩
    |i+2,h=>cases no_ (show(Al (N.length-2) Sl.no)[i]? =_ from h);cases hs
   ·match i,h with
    |0,h=>cases h;rfl
    |1,h=>cases h;rfl
    |i+2,h=>cases no_ (show(Al (N.length-2) Sl.no)[i]? =_ from h);rfl
  exact⟨t,pt,g o (hF p u0 ns us R h) ⟨λ{A ρ σ H'} o1 ⟨ns',us',h0,hR⟩=>by
   obtain⟨p',g1,rfl,g2⟩:=o1.hd 1 _ _ h0 rfl;have gs:=g2.1;exact q ns' us' H' hR (λb x nw ne h=>o1.fw.fr b x nw ((if_neg ne).trans h)) o1.fw.wo ((dkO ns' us').at_ ((dkO ns' us').mono (λb x n h=>⟨λz=>n (z.imp id λz=>⟨1,(gs b).mpr z⟩),h⟩) (λ_ _=>rfl) g2) λb=>(gs b).symm),λ_ z=>z.elim,λ_ z=>z.elim,λ_ _ z=>z.elim,λ_ _ z=>z.elim⟩⟩
def Sdc(H1:Hp)(D:Addr)(H2:Hp)(ls:List (List Int))(i:Nat):Prop:=∃qs:List Addr,H2 D=some (.lst (qs.map V.ref))/\qs.Nodup/\qs.length=i/\∀(k:Nat)(q:Addr),qs[k]? =some q->H1 q=none/\q≠D/\∃r,ls[k]? =some r/\H2 q=some (.lst (r.map V.int))
def aU9(Fi:TVa):TV:=λρ R=>Fi ρ λl=>∃ls:List (List Int),l=ls.map (λr=> .ls (r.map U.n))/\ls.length<=10000/\R (.oo (llO (ls.map λr=>r.map U.n)))
def DUs.intsV{W B:Addr->Prop}{H:Hp}:∀{r:List Int}{xs:List V},DUs W B H (r.map U.n) xs->xs=r.map V.int
 | [],_,h=>h
 |_::_,_,⟨x,r,e,d,t⟩=>by rw[e,d.1,DUs.intsV t];rfl
theorem aMu{W B:Addr->Prop}{H:Hp}:∀{ls:List (List Int)}{qs:List Addr},qs.length=ls.length->(∀(k:Nat)(q:Addr),qs[k]? =some q->∃r,ls[k]? =some r/\H q=some (.lst (r.map V.int)))->LlR W B H (ls.map λr=>r.map U.n) qs
 | [],_,l,_=>by rw[Ic.mp l];exact .nil
 |r::ls,[],l,_=>by cases l
 |r::ls,q::qs,l,h=>by
  obtain⟨_,e,hq⟩:=h 0 q rfl;cases e;exact .cons hq DUs.mapInts (aMu (Im l) λk q' hk=>h (k+1) q' hk)
def aPb{Fi:TVa}{F:TV}(f:aTb wi Fi)(hG:VTh 1 g (kY 0))(hF:∀(r:List Int)(ρ':EV)(R:Sl->Prop),ρ'[0]? =some (.sh (.ls (r.map U.n)))->R (.ow (r.map U.n))->F ρ' R):VT (vU 1 [] wi g (tV F)) (aU9 Fi):=λ{W B ρ σ H R Q} e h q=>by
 refine f e h λl J H1 h1 w wk D n1=>?_;obtain⟨ls,rfl,kl,h2⟩:=h1;have kl:(ls.map (λr:List Int=>U.ls (r.map U.n))).length<=10000:=by rw[Ac];exact kl
 have el:(ls.map (λr:List Int=>U.ls (r.map U.n))).length=ls.length:=Ac ..;have e1:=e.to w;have nW:∀{b},H1 b=none->¬W b:=λn z=>e1.eb.nw n (e1.eb.wb _ z);refine⟨λi m σ2 H2=>CW W B H1 D (tX 1 [] ρ) (ls.map λr=> .ls (r.map U.n)) (λu k=>k (some u)) (λ_=>True) i m σ2 H2/\Sdc H1 D H2 ls i,⟨_,CW.beg e1 n1 (fJ (h:=id) (λ_ _ _ h=>h) trivial),[],aM,Wk,rfl,nofun⟩,λi m σ2 H2 ⟨c,qs,s1,s2,s4,s3⟩=>?_⟩;have ceb:EB W (λb=>B b∨b=D) H2:=let⟨_,_,_,_,c,_⟩:=c;c.ee.eb;have fw:Fw W H1 H2:=let⟨_,_,_,_,c,_⟩:=c;c.fw;have tr:Tr B H1 (λb=>B b∨b=D) H2:=λb o nb h=>⟨λz=>z.elim nb (aR h n1),(e1.eb.keep fw b o nb h).2⟩;by_cases hlt:i<(ls.map (λr:List Int=>U.ls (r.map U.n))).length
 ·refine .inr ⟨wk.go i tr fw hlt,λx H3 y=>?_⟩;have w3:=(wk.yld i ceb tr fw (Ak hlt) y).1;obtain⟨u,us,e3,d3,h3,put,_⟩:=c.turn e1 n1 kl wk hlt y;have hx:=wk.yld i ceb tr fw (Ak hlt) y;have hi:i<ls.length:=by lia
  have eu:(ls.map (λr:List Int=>U.ls (r.map U.n)))[i]=.ls (ls[i].map U.n):=by simp
  have d3:DU W (λb=>B b∨b=D) H3 (.ls (ls[i].map U.n)) x:=eu▸hx.2;have h3:lB (λu k=>k (some u)) ((ls.map λr=>U.ls (r.map U.n)).drop (i+1)) (us++[.ls (ls[i].map U.n)]) λ_=>True:=fJ (h:=id) (λ_ _ _ h=>h) trivial;refine hG e3 d3 (k:=λr=>r=(tX 1 [] ρ).set 0 (.sh (.ls (ls[i].map U.n)))) rfl λρ' σ' e' l' a' h'=>?_;subst h';refine⟨W,_,_,λs=>s=.ow (ls[i].map U.n),e',hF _ _ _ (get_set (by simp[tX])) rfl,λs v H5 h5 w5 r5=>?_⟩;subst h5;obtain⟨p,xs,rfl,np,hp,dp⟩:=r5;obtain rfl:=DUs.intsV dp;have D3:H3 D=some (.lst (qs.map V.ref)):=w3.fr D _ (nW n1) s1;have D5:=w5.fr D _ (nW n1) D3;have pD:p≠D:=λz=>by rw[z,D3]at np;cases np
  have nB:¬(B p∨p=D):=λz=>e'.eb.dm _ z np;obtain⟨ys,y1,y2,y3,y4,y5⟩:=put (.ls (ls[i].map U.n)) (.ref p) σ' _ h3 w5 ⟨p,_,rfl,nB,hp,dp.less⟩ l' a';have ey:=D5.symm.trans y1;cases ey;have H1n:H1 p=none:=fw.none_ (w3.none_ np);have k5:∀(k:Nat)(x:Addr),qs[k]? =some x->H1 x=none/\x≠D/\∃r,ls[k]? =some r/\H5 x=some (.lst (r.map V.int)):=λk x hx=>by
   obtain⟨b1,b2,r,b3,b4⟩:=s3 k x hx;exact⟨b1,b2,r,b3,w5.fr _ _ (nW b1) (w3.fr _ _ (nW b1) b4)⟩
  refine⟨_,y1,y2,y3,y4,y5,qs++[p],by rw[Em];exact aM,?_,by rw[An,s4];rfl,λk x hx=>?_⟩
  ·rw[Ui];refine⟨s2,by simp,λa ha b hb z=>?_⟩;have hb:b=p:=by simpa using hb
   obtain⟨k,hk⟩:=Mj ha;obtain⟨b1,b2,r,b3,b4⟩:=s3 k a hk;have:=w3.fr a _ (nW b1) b4;rw[z,hb,np]at this;cases this
  ·rw[Eb]at hx;split at hx
   ·obtain⟨b1,b2,r,b3,b4⟩:=k5 k x hx;exact⟨b1,b2,r,b3,(aL b2).trans b4⟩
   ·have hx2:=(Ax.mp hx).1;have:k-qs.length=0:=by simpa using hx2
    rw[this]at hx;cases hx;have ek:k=i:=by lia
    subst ek;exact⟨H1n,pD,_,Ak hi,(aL pD).trans hp⟩
 ·have hi':=c.2.1;obtain rfl:i=(ls.map (λr:List Int=>U.ls (r.map U.n))).length:=by lia
  refine .inl ⟨wk.stop tr fw,?_⟩;refine q _ _ _ h2 (w.trans fw) (RO.back (s:=.oo _) w ⟨D,λb=>b=D∨b∈qs,rfl,λb hb=>hb.elim (λz=>by rw[z];exact n1) λz=>let⟨k,hk⟩:=Mj z;(s3 k b hk).1,qs,λ_=>Qe,λz=>let⟨k,hk⟩:=Mj z;(s3 k D hk).2.1 rfl,s2,s1,aMu ∅ λk q hk=>(s3 k q hk).2.2⟩)
def aVj{iter tg elt:Bw}{y:Str}{pos:Pos}{Fi:TVa}{F:TV}(ok:aC1 scope)(hc:X.calm=true)(hi:VIc X tg iter Fi)(hg:∀cl C s2 H2 fp,PG (bU X (dM [y] []) scope cl C s2 H2 fp) tg g)(hG:VTh 1 g (kY 0))
  (he:∀cl C s2 H2 fp,VE (bU X (dM [y] []) scope cl C s2 H2 fp) elt F) (hF:∀(r:List Int)(ρ':EV)(R:Sl->Prop),ρ'[0]? =some (.sh (.ls (r.map U.n)))->R (.ow (r.map U.n))->F ρ' R) (hs:FS X iter:=by intro _;rfl):VE X #v[5] (aU9 Fi):=
 let⟨_,p,f⟩:=hi;⟨_,aUa (own:=[y]) ok hc p hg (λcl C s2 H2 fp=>(he cl C s2 H2 fp).can) hs,aPb f hG hF⟩
def aVq{i:Nat}{x y:Str}{elt iter tg:Bw}{pos spos py:Pos}{Fi:TVa}{F:TV}(hnd:X.N.Nodup)(sc0:Scope)(N0:List Str)(hsc:X.env.scope=sc0)(hN:X.N=N0)(hcell:HC X)
  (ok:wH scope sc0 [] N0) (hc:X.calm=true) (hi:VIc X tg iter Fi) (hg:∀cl C s2 H2 fp,PG (bU X (dM [y] []) scope cl C s2 H2 fp) tg g) (hG:VTh 1 g (kY 0)) (he:∀cl C s2 H2 fp,VE (bU X (dM [y] []) scope cl C s2 H2 fp) elt F) (hF:∀(r:List Int)(ρ':EV)(R:Sl->Prop),ρ'[0]? =some (.sh (.ls (r.map U.n)))->R (.ow (r.map U.n))->F ρ' R)
  (hi':X.N[i]? =some x:=by rfl) (hx:Loc X.env.scope x:=by exact Ex rfl) (hsw:Dt #v[5] (some (.Name x py)) spos.line X.env=pure true:=by rfl)
  (hs:FS X iter:=by intro _;rfl) (hf:FL X x:=by trivial):VS X (.Assign [.Name x py] #v[5] spos) (aRa i (aU9 Fi)):=
 let⟨_,p,f⟩:=hi;⟨_,aSq (own:=[y]) (cap:=[]) hnd hi' hx sc0 N0 hsc hN hcell ok hc p hg (λcl C s2 H2 fp=>(he cl C s2 H2 fp).can) hsw hs hf,λo h j=>aPb f hG hF o.ee h λs v H1 h1 w r=>xJ o w r h1 j.nx⟩
mutual
def U.pd:U->PyData
 |.v .non=> .none
 |.v (.bl b)=> .bool b
 |.v (.int i)=> .int i
 |.v (.str x)=> .str x
 |.tp l=> .tuple (U.pds l)
 |.ls l=> .list (U.pds l)
 |_=> .none
def U.pds:List U->List PyData
 | []=>[]
 |u::l=>U.pd u::U.pds l
end
def rpV:V->Bool
 |.non=>true
 |.bl _=>true
 |.int _=>true
 |.str _=>true
 |_=>false
mutual
def U.rp:Nat->U->Prop
 |_,.v x=>rpV x=true
 |n+1,.tp l=>U.rps n l
 |n+1,.ls l=>U.rps n l
 |_,_=>False
def U.rps:Nat->List U->Prop
 |_,[]=>True
 |n,u::l=>U.rp n u/\U.rps n l
end
mutual
theorem U.rp_depth:∀(n:Nat)(u:U),u.rp n->u.pd.depth<=n
 |_,.v .non,_=>by simp[U.pd,Kc]
 |_,.v (.bl _),_=>by simp[U.pd,Kc]
 |_,.v (.int _),_=>by simp[U.pd,Kc]
 |_,.v (.str _),_=>by simp[U.pd,Kc]
 |n+1,.tp l,h=>by
  have:=U.rps_depth n l h;simp only[U.pd,Kc];lia
 |n+1,.ls l,h=>by
  have:=U.rps_depth n l h;simp only[U.pd,Kc];lia
theorem U.rps_depth:∀(n:Nat)(l:List U),U.rps n l->Os (U.pds l)<=n
 |_,[],_=>by simp[U.pds,Os]
 |n,u::l,⟨h,h'⟩=>by
  have:=U.rp_depth n u h;have:=U.rps_depth n l h';simp only[U.pds,Os];lia
end
mutual
theorem U.rp_nodict:∀(n:Nat)(u:U),u.rp n->u.pd.hasDict=false
 |_,.v .non,_=>rfl
 |_,.v (.bl _),_=>rfl
 |_,.v (.int _),_=>rfl
 |_,.v (.str _),_=>rfl
 |n+1,.tp l,h=>by simp only[U.pd,Vg];exact U.rps_nodict n l h
 |n+1,.ls l,h=>by simp only[U.pd,Vg];exact U.rps_nodict n l h
theorem U.rps_nodict:∀(n:Nat)(l:List U),U.rps n l->Sv (U.pds l)=false
 |_,[],_=>rfl
 |n,u::l,⟨h,h'⟩=>by simp only[U.pds,Sv,U.rp_nodict n u h,U.rps_nodict n l h'];rfl
end
section
variable {P:Ap}{w:Bh}{W B:Addr->Prop}{H:Hp}{h:Heap}
mutual
theorem DU.reads(hk:HOk P w H h):∀(n:Nat)(u:U){v:V}{x:Value},u.rp n->DU W B H u v->RelV v x->∃as,Reads h x u.pd as
 |_,.v y,v,x,hr,d,r=>by
  obtain rfl:=d.1;cases v with
  |non=>obtain rfl:x=Cb:=r;exact⟨_,.none⟩
  |bl b=>obtain rfl:x=Hn b:=r;exact⟨_,.bool b⟩
  |int i=>obtain⟨t,rfl⟩:∃t,x=Df i t:=r;exact⟨_,.int i t⟩
  |str y=>obtain⟨t,rfl⟩:∃t,x=Ko y t:=r;exact⟨_,.str y t⟩
  |byt _=>cases hr
  |flt _=>cases hr
  |ref _=>cases hr
  |ty _=>cases hr
 |n+1,.tp l,_,x,hr,⟨p,xs,e,_,hp,ds⟩,r=>by
  subst e;obtain rfl:x=Aj p:=r;obtain⟨_,its,hv,o,ho,hc,m,hd⟩:=(show cC P w H h p (.tup xs)from hk p _ hp);obtain⟨as,ra⟩:=DUs.reads hk n l hr ds hv;exact⟨_,.tuple ho hc hd (by simpa using ra)⟩
 |n+1,.ls l,_,x,hr,⟨p,xs,e,_,hp,ds⟩,r=>by
  subst e;obtain rfl:x=Aj p:=r;obtain⟨_,its,m,hv,ho⟩:=(show cC P w H h p (.lst xs)from hk p _ hp);obtain⟨as,ra⟩:=DUs.reads hk n l hr ds hv;exact⟨_,.list ho rfl rfl (by simpa using ra)⟩
theorem DUs.reads(hk:HOk P w H h):∀(n:Nat)(l:List U){xs:List V}{its:List Value},U.rps n l->DUs W B H l xs->Vals xs its->∃as,ReadsAll h its (U.pds l) as
 |_,[],_,_,_,d,r=>by
  obtain rfl:_=[]:=d;cases r;exact⟨_,.nil⟩
 |n,u::l,_,_,⟨h1,h2⟩,⟨x,xs,e,d,ds⟩,r=>by
  subst e;cases r with
  |cons r rs=>
   obtain⟨as,a1⟩:=DU.reads hk n u h1 d r;obtain⟨bs,a2⟩:=DUs.reads hk n l h2 ds rs;exact⟨_,.cons a1 a2⟩
end
end
def aJf(hr:cO k X.A):gF X (.builtin "repr") (λxs H Q=>∃(a:Addr)(u:U)(W B:Addr->Prop),xs=[.ref a]/\DU W B H u (.ref a)/\u.rp 9/\u.pd.showable=true/\u.pd.shown.length<=sizeLine/\Q (.str u.pd.shown) H):=by
 intro pins s σ H xs us Q I r h;obtain⟨a,u,W,B,rfl,d,h9,hs,hz,q⟩:=h;obtain⟨x,rfl,rx⟩:=vals1 r;obtain rfl:x=Aj a:=rx;obtain⟨as,ra⟩:=DU.reads (x:=.ref a) I.hok 9 u h9 d rfl;have dp:=U.rp_depth 9 u h9;exact repr_of_reads' ra hs (λz=>by rw[U.rp_nodict 9 u h9]at z;cases z) hr.gu (by have:=hr.un;lia) (λ_ _ e=>e) (λh' t tk hk=>⟨.str u.pd.shown,H,I.kept (t':=tk) λb o e=>hk b o e,⟨_,rfl⟩,q⟩) hz
def aYi(F:TV):TV:=λρ R=>F ρ λs=>s.rd.rp 9/\(∃l,s.rd=.tp l∨s.rd=.ls l)/\s.rd.pd.showable=true/\s.rd.pd.shown.length<=sizeLine/\R (.sh (.s s.rd.pd.shown))
def aI4{a:Bw}{p pos:Pos}{F:TV}(hr:cO k X.A)(hm:X.mg "repr"=none)(ha:VE X a F)(hg:Gl X "repr":=by rfl)(hs:SE X a []:=by rfl)(hpl:BT X pos []:=by rfl):VE X (.Call (.Name "repr" p) [a] [] pos) (aYi F):=by
 obtain⟨_,p,f⟩:=ha;refine⟨_,jT (aJf hr) hg hm #v[3] (bK p dN hs) ⋯ ⋯ hs hpl,λ{W B ρ σ H R Q} e h q=>f e h λs v H1 h1 w r=>?_⟩;obtain⟨h9,hl,hs,hz,h2⟩:=h1;have d:=r.db e.eb;have e1:=e.to w;have key:∃(a:Addr)(B':Addr->Prop),v=.ref a/\DU W B' H1 s.rd (.ref a):=by
  obtain⟨l,hl⟩:=hl;rcases hl with hl|hl<;>rw[hl]at d⊢
  ·obtain⟨p,xs,rfl,nb,hp,ds⟩:=d.tp;exact⟨p,B,rfl,p,xs,rfl,nb,hp,ds⟩
  ·obtain⟨p,xs,rfl,nw,hp,ds⟩:=d.ls e1.eb;exact⟨p,λb=>B b/\b≠p,rfl,p,xs,rfl,λz=>z.2 rfl,hp,DUs.mono (λb o n h=>⟨λz=>n z.1,h⟩) _ ds⟩
 obtain⟨a,B',rfl,d'⟩:=key;exact⟨a,s.rd,W,B',rfl,d',h9,hs,hz,q _ _ _ h2 w ⟨rfl,rfl⟩⟩
def jbO(C:Addr)(ns:List Str)(us:List U)(f:Str)(ls:List (List Int)):Own:=⟨λW B S H p=>∃dx xs q,¬B p/\H p=some (.ins C dx (ns.zip xs++[(f,.ref q)]))/\ns.length=xs.length/\DUs W B H us xs/\(llO (ls.map λr=>r.map U.n)).φ W B S H q,
 λk e ⟨dx,xs,q,nb,hp,l,d,φ⟩=>⟨dx,xs,q,(k _ _ nb hp).1,(k _ _ nb hp).2,l,DUs.mono k us d,(llO (ls.map λr=>r.map U.n)).mono k e φ⟩,λk ⟨dx,xs,q,nb,hp,l,d,φ⟩=>⟨dx,xs,q,nb,hp,l,DUs.wm k us d,(llO (ls.map λr=>r.map U.n)).wm k φ⟩,λ⟨_,_,_,_,_,_,_,φ⟩=>(llO (ls.map λr=>r.map U.n)).th φ⟩
inductive aR6(C:Addr)(F:List U->(Own->Prop)->XU->Prop)(vs:List V)(H:Hp)(Q:VK)(E:XK):Prop
 |mk (x dx vs' H1 W B us R T:_) (q0_:vs=.ref x::vs') (q1_:H1 x=none) (q2_:H x=some (.ins C dx [])) (q3_:aS8 H1 H) (q4_:EB W B H1) (q5_:DUs W B H1 us vs') (q6_:F us R T) (q7_:XL W B H1 T E) (q8_:∀o S H',R o->Fw W H1 H'->(∀b,S b->H1 b=none)->o.φ W (λb=>B b∨S b) S H' x->Q .non H'):aR6 C F vs H Q E
def aXm(C:Addr)(F:List U->(Own->Prop)->XU->Prop):Sp:=λvs H Q E=>aR6 C F vs H Q E
structure MkO(P:Ap)(w:Bh)(K:Ab)(mg:Str->#v[8])(base:Heap)(k:Nat)(C:Addr)(x:Str)(ps:List Str)(F:List U->(Own->Prop)->XU->Prop):Prop where
 ex:∃f fd,bG P w K mg base (CXe P w) k f fd ps (aXm C F)/\Mk K C f/\mg x=some (.ref C)/\Binds K fd ps []
def aK4{x:Str}{F:List U->(Own->Prop)->XU->Prop}{a:Bw}{es:List Bw}{G:TVa}{p pos:Pos}(M:MkO X.prog X.w X.K X.mg X.base k C x ps F)(hr:cO (k+1) X.A)(hx:jX (CXe X.prog X.w) X E)(ha:VA X (a::es) G)(hg:Gl X x:=by rfl)
  (hdb:ND x:=by decide) (he:SE X a es:=by rfl) (hpl:BT X pos es:=by rfl):VEx X E (.Call (.Name x p) (a::es) [] pos) (λT ρ R=>G ρ λus=>F us (λo=>R (.oo o)) T):=by
 obtain⟨f,fd,Fo,Mk_,hm,hb⟩:=M.ex;obtain⟨_,p,g⟩:=ha;refine⟨_,aIq Mk_ Fo hr hg hm hb .nil hx p hdb he hpl,λ{W B ρ σ H R Q T} e h q l=>g e h λus vs H1 h1 _ w d=>λx dx nx nd ne=>?_⟩;have e1:=(e.to w).eb;refine⟨x,dx,vs,H1,W,B,us,_,T,by rw[Bs],nx,aM,λb o hb=>?_,e1,d,h1,l.to w λ_ z=>z,λo S H' hR fw hS φ=>⟨rfl,q (.oo o) _ _ hR (w.trans fw) ⟨x,S,rfl,λb hb=>w.none_ (hS b hb),φ⟩⟩⟩;rw[aL (aR hb nx),aL (aR hb nd)];exact hb
def vJf(C:Addr)(a:TV)(f:Str):TV:=λρ R=>a ρ λs=>∃ns us g ls,s=.bo (jbO C ns us g ls)/\wO f ns us R
def aI3{fs:List Str}{a:Bw}{pos:Pos}{F:TV}(c:Cfl X.K C fs)(ha:VE X a F)(hf:f∈fs:=by decide)(hb:Eh a f X.env (eval a X.env)=eval a X.env:=by rfl):VE X (.Attribute a f pos) (vJf C F f):=
 let⟨_,p,g⟩:=ha;⟨_,aNr p hb,λe h q=>g e h λs v H1 h1 f1 r1=>by
  obtain⟨ns,us,g,ls,rfl,h1⟩:=h1;obtain⟨p,S,rfl,_,dx,xs,q',_,hp,hl,ds,_⟩:=r1;obtain⟨u,v,h2,h3,h4⟩:=aDr ds h1;exact⟨p,C,dx,_,v,rfl,hp,c.cl,c.na f hf,by rw[Tw,h4];rfl,q _ _ _ h2 f1 h3⟩⟩
inductive aWa(E:XK)(F:XU->TV)(σ:St)(H:Hp)(Q:VK):Prop
 |mk (W B:Addr->Prop) (ρ:EV) (R:Sl->Prop) (T:XU) (q0_:EE W B H ρ σ) (q1_:F T ρ R) (q2_:(∀s v H',R s->Fw W H H'->RO W B H H' s v->Q v H')) (q3_:XL W B H T E):aWa E F σ H Q
def tVx(E:XK)(F:XU->TV):TE:=λσ H Q=>aWa E F σ H Q
def VEx.can{e:Bw}{F:XU->TV}(h:VEx X E e F):PE X e (tVx E F):=by
 obtain⟨_,p,f⟩:=h;intro pins s σ H Q I ⟨W,B,ρ,R,T,ee,h,q,l⟩;exact p pins s σ H Q I (f ee h q l)
def aOv(K:Ab)(c d:Addr)(F:TV):TV:=λρ R=>F ρ λs=>∃C v b,s.rd=.op (aLx C v)/\dY K C/\Ka K (.ref C) [.ref c,.ref d]=some b/\R (.sh (.b b))
def aRc{x y:Str}{D D':Addr}{a:Bw}{F:TV}{x1}{p p' p'' pos tpos:Pos}(hm:X.mg "isinstance"=none)(hm2:X.mg x=some (.ref D))(hm3:X.mg y=some (.ref D'))(ha:VE X a F)(hg:Gl X "isinstance":=by rfl)(hg2:Gl X x:=by rfl)(hg3:Gl X y:=by rfl)(h2:ND x:=by decide)(h3:ND y:=by decide)
  (hs:Bc [a,.Tuple [.Name x p',.Name y p''] x1 tpos] X.env=(false,eval a X.env)::Bc [.Tuple [.Name x p',.Name y p''] x1 tpos] X.env:=by rfl) (hs2:Bc [.Tuple [.Name x p',.Name y p''] x1 tpos] X.env=(false,eval (.Tuple [.Name x p',.Name y p''] x1 tpos) X.env)::Bc [] X.env:=by rfl) (hpl:(Ju pos (Bc [.Tuple [.Name x p',.Name y p''] x1 tpos] X.env)).any (·.1)=false:=by rfl)
  (hs3:Bc [.Name x p',.Name y p''] X.env=(false,eval (.Name x p') X.env)::Bc [.Name y p''] X.env:=by rfl) (hs4:Bc [.Name y p''] X.env=(false,eval (.Name y p'') X.env)::Bc [] X.env:=by rfl):
  VE X (.Call (.Name "isinstance" p) [a,.Tuple [.Name x p',.Name y p''] x1 tpos] [] pos) (aOv X.K D D' F):=
 let⟨_,q,f⟩:=ha;⟨_,jT aLp hg hm Rp (bK q (bK (aNt (bK (aD3 hg2 hm2 h2) (bK (aD3 hg3 hm3 h3) dN hs4) hs3)) dN hs2) hs) ⋯ ⋯ hs hpl,λe h q=>f e h λs v H1 ⟨C,y,b,es,Z,k,h1⟩ w r=>by
  have d:=r.db e.eb;rw[es]at d;obtain⟨fv,a,dx,rfl,_,_,h3,_⟩:=d.op;refine⟨by show(2:Nat)<=sizeLine;decide,λt nt=>⟨a,C,dx,t,[D,D'],b,rfl,?_,aM,Z,k,q _ _ _ h1 (w.trans ((e.to w).eb.new nt)) ⟨rfl,rfl⟩⟩⟩;exact(aL (aR h3 nt)).trans h3⟩
def aYa(i j k m:Nat)(C:Addr)(F2:TV):MU->TVS:=λM _ ρ=>∃(ls ks:List (List Int))(ns:List Str)(us:List U),ρ[i]? =some (.sh (.ls (ls.map λr=> .ls (r.map U.n))))/\ρ[j]? =some (.oo (jbO C ns us "first" ks))/\ρ[k]? =some (.oo (llO (ls.map λr=>r.map U.n)))/\j≠k/\m<ρ.length/\ls.length<=1000/\(∀l∈ls,l.length<=1000)/\
 F2 (((Al ρ.length .no).set j (.sh (.ob C (ns++[("first":Str)]) (ns.map (λ_=> .op aLh)++[.ls (ks.map λr=> .ls (r.map U.n))])))).set k (.sh (.ls (ls.map λr=> .ls (r.map U.n))))) λs=>∃u,s=.sh u/\M u
def DUs.any{W B:Addr->Prop}{H:Hp}:∀{ns:List Str}{xs:List V},ns.length=xs.length->DUs W B H (ns.map λ_=> .op aLh) xs
 | [],[],_=>rfl
 | [],_::_,l=>by cases l
 |_::_,[],l=>by cases l
 |_::ns,x::xs,l=>⟨x,xs,rfl,trivial,DUs.any (Im l)⟩
def aSm{W B S:Addr->Prop}{H H':Hp}{ls:List (List Int)}{q:Addr}(h:(llO (ls.map λr=>r.map U.n)).φ W B S H q)(k:∀b,S b->H' b=H b):DU noB noB H' (.ls (ls.map λr=> .ls (r.map U.n))) (.ref q):=by
 obtain⟨qs,gS,gp,gn,gx,gr⟩:=h;refine⟨q,_,rfl,id,(k q ((gS q).mpr (.inl rfl))).trans gx,?_⟩;have k':∀b∈qs,H' b=H b:=λb hb=>k b ((gS b).mpr (.inr hb));clear gS gp gn gx k;induction ls generalizing qs with
 |nil=>
  cases gr;rfl
 |cons r ls ih=>
  cases gr with
  |cons h d t=>
   rw[DUs.intsV d]at h;exact⟨_,_,rfl,⟨_,_,rfl,id,(k' _ Ah).trans h,DUs.mapInts⟩,ih _ t λb hb=>k' b (Ag _ hb)⟩
theorem aIw{W B:Addr->Prop}{H:Hp}:∀{ls:List (List Int)}{xs:List V},DUs W B H (ls.map λr=> .ls (r.map U.n)) xs->∃qs:List Addr,xs=qs.map V.ref/\qs.length=ls.length/\∀q∈qs,¬B q/\∃r∈ls,H q=some (.lst (r.map V.int))
 | [],_,h=>⟨[],h,rfl,nofun⟩
 |r::ls,_,⟨x,xs,e,⟨q,ys,e1,nb,hq,d⟩,t⟩=>by
  obtain⟨qs,rfl,l,h⟩:=aIw t;rw[DUs.intsV d]at hq;refine⟨q::qs,by rw[e,e1];rfl,by rw[Aq,l];rfl,λz hz=>?_⟩;rcases Ao.mp hz with rfl|hz
  ·exact⟨nb,r,Ah,hq⟩
  ·obtain⟨a,b,c,d⟩:=h z hz;exact⟨a,b,Ag _ c,d⟩
def aRl{x y:Str}{e2:Bw}{F2:TV}{p p' p'' p3 cpos epos apos pos pos2:Pos}{j0:Nat}(i j k m:Nat)(he:VE X e2 F2)(hNd:X.N.Nodup)(hc:X.calm=true)(hP:Vh #v[b] X.A X.env X.xe)(hN:X.N[i]? =some x:=by rfl)(hNy:X.N[m]? =some y:=by rfl)(hv:Vis X.env.scope x:=by trivial)(hd:ND x:=by decide)(hcd:NC x:=by decide)
  (hvy:Vis X.env.scope y:=by trivial) (hdy:ND y:=by decide) (hcdy:NC y:=by decide) (hly:Loc X.env.scope y:=by first|exact Ex rfl|exact Fy rfl) (hf:FL X y:=by trivial)
  (hij:m≠i:=by decide) (hmj:m≠j:=by decide) (hmk:m≠k:=by decide)
  (hbase:Eh (.Name y p3) "append" X.env (eval (.Name y p3) X.env)=eval (.Name y p3) X.env:=by rfl)
  (hfew:((Ju cpos (Bc [.Constant (.int 0) j0 p''] X.env)).all (λx=> !x.1) && (Gh cpos (Do [] X.env)).all (λx=>x.1.isSome)
   && decide ([Expr.Constant (.int 0) j0 p''].length+([]:List Jm).length+(if([]:List Jm).isEmpty then 0 else 1)<30))=true:=by rfl)
  (hline:EL apos cpos:=by rfl) (hs:Bc [.Constant (.int 0) j0 p''] X.env=(false,eval (.Constant (.int 0) j0 p'') X.env)::Bc [] X.env:=by rfl) (hplain:BT X cpos []:=by rfl)
  (hsw:Dt (.Call (.Attribute (.Name y p3) "append" apos) [.Constant (.int 0) j0 p''] [] cpos) none epos.line X.env=pure false:=by rfl) (hfo:∀v,Lg (.Name x p') X.env v=pure v:=by intro _;rfl):
  VSz X [.For (.Name y p) (.Name x p') [.Expr (.Call (.Attribute (.Name y p3) "append" apos) [.Constant (.int 0) j0 p''] [] cpos) epos] [] pos,.Return (some e2) pos2] (aYa i j k m C F2):=by
 obtain⟨te,p2,f2⟩:=he;refine⟨_,bC (aNx hP hc (aD5 (fK hN hv hd hcd)) (bW (i:=m) hNd hNy hly hf) (cI (lG (aNl Kp Ph Pg wY (fK hNy hvy hdy hcdy) (bK cU dN hs) hbase hfew hline hs hplain) hsw)) hfo) (cI (rG p2)),λ{W B H0 A ρ σ H N D M} o h jj z=>?_⟩;obtain⟨ls,ks,ns,us,hi,hj,hk,jk,mρ,ll,lr,hF⟩:=h;obtain⟨v,s1,pf,xs,rfl,nbf,hpf,ds⟩:=o.sh i _ hi;obtain⟨qs,rfl,lq,hq⟩:=aIw ds;have nf:pf∉qs:=λhm=>by
  obtain⟨_,r,_,e⟩:=hq pf hm;rw[hpf]at e;have e:qs.map V.ref=r.map V.int:=by injection e with e;injection e
  have:=e▸Az.mpr ⟨pf,hm,rfl⟩;obtain⟨_,_,z⟩:=Az.mp this;cases z
 refine⟨_,s1,pf,rfl,⟨_,SqL.of hpf⟩,aMc (xs:=qs.map V.ref) (λn σ' H'=>σ'.length=σ.length/\(∀l,l≠m->σ'[l]? =σ[l]?)/\(∀b o,b∉qs->H b=some o->H' b=some o)/\∀q∈qs,∃ys,H' q=some (.lst ys)/\ys.length<=1000+n) ⟨rfl,λ_ _=>rfl,λ_ _ _ h=>h,λq hm=>?_⟩ (λn σ' H' _ h=>SqL.of (h.2.2.1 pf _ nf hpf)) (λn x' σ' H' hx h=>?_) (λσ' H' h=>?_)⟩
 ·obtain⟨_,r,hr,e⟩:=hq q hm;exact⟨_,e,by rw[Ac];have:=lr r hr;lia⟩
 ·obtain⟨a1,a2,a3,a4⟩:=h;rw[Ay]at hx;cases hqn:qs[n]? with
  |none=>rw[hqn]at hx;cases hx
  |some q=>
   rw[hqn]at hx;cases hx;have hm:=Cf hqn;have hn:=(Ax.mp hqn).1;obtain⟨ys,e1,e2⟩:=a4 q hm;have lm:m<σ'.length:=by
    rw[a1, <-o.len];exact mρ
   refine⟨_,get_set lm,.inl ⟨rfl,_,SqL.of e1⟩,q,ys,.int 0,rfl,rfl,e1,Ik (show ys.length<=10000 by lia) ⋯,by rw[Bm];exact a1,λl hl=>by rw[cT hl];exact a2 l hl,λb o' hb h=>by rw[aL (λz:b=q=>hb (by rw[z];exact hm))];exact a3 b o' hb h,λq' hq'=>?_⟩;by_cases z:q'=q
   ·subst z;exact⟨_,aM,by rw[An];show ys.length+1<=_;lia⟩
   ·obtain⟨ys',e3,e4⟩:=a4 q' hq';exact⟨ys',by rw[aL z];exact e3,∅⟩
 ·obtain⟨a1,a2,a3,a4⟩:=h;have nA:∀{n b},A n b->b∉qs:=λ{n b} h hm=>(hq b hm).1 (.inr ⟨n,h⟩);have kA:∀{n b},A n b->H' b=H b:=λ{n b} h=>by
   obtain⟨y,hy,_⟩:=o.aw n b h;rw[hy];exact a3 b y (nA h) hy
  obtain⟨pj,t1,dx,xs,q0,_,hpj,lx,_,φj⟩:=o.hd j _ _ hj rfl;obtain⟨pk,t2,φk⟩:=o.hd k _ _ hk rfl;have nj:pj∉qs:=λhm=>by
   obtain⟨_,r,_,e⟩:=hq pj hm;rw[hpj]at e;cases e
  have d1:DU noB noB H' (.ob C (ns++[("first":Str)]) (ns.map (λ_=> .op aLh)++[.ls (ks.map λr=> .ls (r.map U.n))])) (.ref pj):=by
   refine⟨pj,dx,xs++[.ref q0],rfl,id,?_,by rw[An,An,lx];rfl,(DUs.any lx).app (DUs.one (aSm φj λb hb=>kA hb))⟩;rw[Vx lx];exact a3 pj _ nj hpj
  have d2:=aSm φk λb hb=>kA (n:=k) hb;have lj:j<σ.length:=(Ax.mp t1).1;have lk:k<σ.length:=(Ax.mp t2).1;have e:EE noB noB H' (((Al ρ.length Sl.no).set j (.sh (.ob C (ns++[("first":Str)]) (ns.map (λ_=> .op aLh)++[.ls (ks.map λr=> .ls (r.map U.n))])))).set k (.sh (.ls (ls.map λr=> .ls (r.map U.n))))) σ':=by
   refine⟨⟨nofun,nofun,nofun⟩,by rw[Bm,Bm,Cy,o.len,a1],λl u hl=>?_,λl s w hl hs'=>?_⟩
   ·rcases bI hl with ⟨rfl,e,_⟩|⟨_,hl⟩
    ·cases e;exact⟨_,(a2 _ (Ci hmk)).trans t2,d2⟩
    ·rcases bI hl with ⟨rfl,e,_⟩|⟨_,hl⟩
     ·cases e;exact⟨_,(a2 _ (Ci hmj)).trans t1,d1⟩
     ·rw[Bk]at hl;split at hl<;>cases hl
   ·rcases bI hl with ⟨rfl,rfl,_⟩|⟨_,hl⟩
    ·cases hs'
    ·rcases bI hl with ⟨rfl,rfl,_⟩|⟨_,hl⟩
     ·cases hs'
     ·rw[Bk]at hl;split at hl<;>cases hl;cases hs'
  refine f2 e hF λs v3 H3 ⟨u,es,mu⟩ w3 r3=>?_;subst es;refine z _ _ _ mu (((Fw.tpl o.eb.wo o.fw).trans λb ys h=>a3 b _ (λhm=>?_) h).trans (Fw.tpl nofun w3)) r3;obtain⟨_,r,_,e⟩:=hq b hm;rw[h]at e;cases e
def aRh{K:Ab}{G:XU->TVS}{S:TVS}{x n:Str}{i k:Nat}{p pos pos':Pos}(hK:X.K=K)(hm:X.mg x=some (.ref CT))(hN:X.N.Nodup)(hb:∀pins W E,aH3 (X.tried pins W) E->aDa (X.tried pins W) E body G)(hs:∀e,VSs (X.suite e) (b₀::rest) S)(hk:X.N.length=k:=by rfl)(hi:X.N[i]? =some n:=by rfl)(hst:X.stack=X.env::X.outer:=by rfl)(hf:X.env.frame=some X.env.locals:=by rfl)(hg:Gl X x:=by rfl)
  (hloc:X.env.kindOf n=some .local:=by rfl) (hlx:X.env.scope.names.lookup n=some .local:=by rfl) (hdb:ND x:=by decide):VS X (.Try body [.ExceptHandler (some (.Name x p)) (some n) (b₀::rest) pos] [] [] pos') (aYk K CT i k G S):=hK▸aVr hm hN hb hs hk hi hst hf hg hloc hlx hdb
def aEn{K:Ab}{x:Str}{D:Addr}{a:Bw}{F:TV}{p p' pos:Pos}(hK:X.K=K)(hm:X.mg "isinstance"=none)(hm2:X.mg x=some (.ref D))(ha:VE X a F)(hg:Gl X "isinstance":=by rfl)(hg2:Gl X x:=by rfl)(h2:ND x:=by decide)
  (hs:Bc [a,.Name x p'] X.env=(false,eval a X.env)::Bc [.Name x p'] X.env:=by rfl) (hs2:Bc [.Name x p'] X.env=(false,eval (.Name x p') X.env)::Bc [] X.env:=by rfl) (hpl:BT X pos [.Name x p']:=by rfl):
  VE X (.Call (.Name "isinstance" p) [a,.Name x p'] [] pos) (aOu K (.ref D) F):=hK▸aVi hm hm2 ha hg hg2 h2 hs hs2 hpl
def aRd{K:Ab}{a:Bw}{F:TV}{pos:Pos}(hK:X.K=K)(ha:VE X a F)(hb:Eh a "at" X.env (eval a X.env)=eval a X.env:=by rfl):VE X (.Attribute a "at" pos) (aVf K F):=hK▸aVk ha hb
def aO1{K:Ab}{x y:Str}{D D':Addr}{a:Bw}{F:TV}{x1}{p p' p'' pos tpos:Pos}(hK:X.K=K)(hm:X.mg "isinstance"=none)(hm2:X.mg x=some (.ref D))(hm3:X.mg y=some (.ref D'))(ha:VE X a F)(hg:Gl X "isinstance":=by rfl)(hg2:Gl X x:=by rfl)(hg3:Gl X y:=by rfl)(h2:ND x:=by decide)(h3:ND y:=by decide)
  (hs:Bc [a,.Tuple [.Name x p',.Name y p''] x1 tpos] X.env=(false,eval a X.env)::Bc [.Tuple [.Name x p',.Name y p''] x1 tpos] X.env:=by rfl) (hs2:Bc [.Tuple [.Name x p',.Name y p''] x1 tpos] X.env=(false,eval (.Tuple [.Name x p',.Name y p''] x1 tpos) X.env)::Bc [] X.env:=by rfl) (hpl:(Ju pos (Bc [.Tuple [.Name x p',.Name y p''] x1 tpos] X.env)).any (·.1)=false:=by rfl)
  (hs3:Bc [.Name x p',.Name y p''] X.env=(false,eval (.Name x p') X.env)::Bc [.Name y p''] X.env:=by rfl) (hs4:Bc [.Name y p''] X.env=(false,eval (.Name y p'') X.env)::Bc [] X.env:=by rfl):
  VE X (.Call (.Name "isinstance" p) [a,.Tuple [.Name x p',.Name y p''] x1 tpos] [] pos) (aOv K D D' F):=hK▸aRc hm hm2 hm3 ha hg hg2 hg3 h2 h3 hs hs2 hpl hs3 hs4
def aQ8(F:List U->(Sl->Prop)->Prop)(a:TV)(b:TVa):TV:=λρ R=>a ρ λs=>match s with
 |.ow [.v (.int _),.v (.int _),.v (.int _)]=>b ρ λus=>F (.wl::us) λs=>(∃ns us,s=.oo (dkO ns us)/\Nws us)/\R s
 |_=>False
def aK2{x:Str}{F:List U->(Sl->Prop)->Prop}{a:Bw}{es:List Bw}{Fa:TV}{G:TVa}{p pos:Pos}(C:Cal X.prog X.w X.K X.mg X.base CX0 k x ps (spV F))(hr:cO k X.A)(hg:Gl X x)
  (ha:VE X a Fa) (hb:VA X es G) (hdb:ND x:=by decide) (he:SE X a es:=by rfl) (hpl:BT X pos es:=by rfl):
  VE X (.Call (.Name x p) (a::es) [] pos) (aQ8 F Fa G):=
 let⟨_,p,f⟩:=ha;let⟨_,p',f'⟩:=hb;⟨_,aNm C hr hg yM (bK p p' he) hdb he hpl,λ{W B ρ σ H R Q} e h q=>f e h λs v H1 h1 f1 r1=>by
  match s,h1,r1 with
  |.ow [.v (.int x),.v (.int y),.v (.int z)],h1,⟨p,xs,e1,n1,g2,dd⟩=>
   obtain⟨x1,_,rfl,d1,x2,_,rfl,d2,x3,r3,rfl,d3,d4⟩:=dd;obtain rfl:r3=[]:=d4;rw[d1.1,d2.1,d3.1]at g2;have nw:¬W p:=λz=>e.eb.dm p (e.eb.wb p z) n1;refine f' (e.more f1 n1 g2 trivial) h1 λus vs H2 h2 _ f2 d=>?_;have g3:=f2.fr p _ nw g2;have e2:=((e.more f1 n1 g2 trivial).to f2).eb;refine⟨λb=>W b∨b=p,λb=>B b∨b=p,.wl::us,_,⟨e2.bl,λq hq=>hq.imp (e.eb.wb q) id,λq hq=>hq.elim (e2.wo q) λz=>by rw[z];exact⟨_,_,_,g3⟩⟩,(by rw[Bs];exact⟨v,vs,rfl,⟨p,e1,.inr rfl⟩,DUs.wm (λ_=> .inl) us d⟩),h2,λs v H3 h3 f3 r3=>?_⟩;have f4:Fw W H H3:=⟨λb o w h=>f3.fr b o (λz=>z.elim w λy=>by rw[y,n1]at h;cases h) ((f1.trans f2).fr b o w h),λq hq=>f3.wo q (.inl hq)⟩;have mo:∀{S:Addr->Prop} b o,¬((B b∨b=p)∨S b)->H3 b=some o->¬(B b∨S b)/\H3 b=some o:=λb o n h=>⟨λz=>n (z.imp .inl id),h⟩;refine q _ _ _ h3.2 f4 ?_;obtain⟨ns,us,rfl,hn⟩:=h3.1;obtain⟨c,S,e3,m1,s',xs,a2,a3,a4⟩:=r3;exact⟨c,S,e3,λb hb=>(f1.trans f2).none_ (m1 b hb),s',xs,a2,a3,DUs.nw us hn (DUs.mono mo us a4)⟩⟩
open Classical in
def aRm{X:Cx}{st:List Stmt}{G:MU->TVS}(i:Nat)(h:VSz X st G):VSz X st (λM=>vWl i (G M)):=let⟨_,p,f⟩:=h;⟨_,p,λ{W B H0 A ρ σ H E D M} o h j zz=>by
 replace h:vWl i (G M) E ρ:=h
 unfold vWl at h;split at h
 ·rename_i a b c hi;obtain⟨q,xs,h1,h2,h3,h4⟩:=o.ow i _ hi;have ex:xs=[.int a,.int b,.int c]:=DUs.ints (ns:=[a,b,c]) h4;subst ex;have hq:=(h2 q).mpr rfl;have nq:H0 q=none:=o.an i q hq;have nB:¬B q:=o.now nq;have bx:∀b,Bx (λb=>B b∨b=q) (λj q=>j≠i/\A j q) b↔Bx B A b:=λb=>by
   constructor
   ·rintro((h|rfl)|⟨j,h⟩)
    ·exact .inl h
    ·exact .inr ⟨i,hq⟩
    ·exact .inr ⟨j,h.2⟩
   ·rintro(hb|⟨j,hb⟩)
    ·exact .inl (.inl hb)
    ·by_cases e:j=i
     ·rw[e]at hb;exact .inl (.inr ((h2 b).mp hb))
     ·exact .inr ⟨j,e,hb⟩
  have k:∀b x,¬Bx B A b->H b=some x->¬Bx (λb=>B b∨b=q) (λj q=>j≠i/\A j q) b/\H b=some x:=λb x n h=>⟨λz=>n ((bx b).mp z),h⟩;have own:∀b,B b->¬ ∃j,j≠i/\A j b:=λb hb ⟨j,_,h⟩=>o.now (o.an j b h) hb;have ownq:¬ ∃j,j≠i/\A j q:=λ⟨j,n,h⟩=>n (o.inj j i q h hq);let H2:Hp:=λb=>if∃j,j≠i/\A j b then none else H b
  have hH2:∀b x,H2 b=some x->H b=some x:=λb x h=>by
   have h:(if∃j,j≠i/\A j b then none else H b)=some x:=h;split at h
   ·cases h
   ·exact h
  have hH:∀b,(¬ ∃j,j≠i/\A j b)->H2 b=H b:=λb n=>if_neg n;have e0:=o.ee.eb;have Wl:∀p,(W p∨p=q)->Wll H p:=λp hp=>hp.elim (o.fw.wo p) λe=>⟨a,b,c,by rw[e];exact h3⟩;have wq:∀p,(W p∨p=q)->¬ ∃j,j≠i/\A j p:=λp hp=>hp.elim (λw=>own p (o.eb.wb p w)) λe=>by rw[e];exact ownq
  have o2:EO (λp=>W p∨p=q) (λb=>B b∨b=q) H2 (λj q=>j≠i/\A j q) (ρ.set i (.sh .wl)) σ H:=by
   refine⟨⟨λp hp=>?_,λp hp=>hp.elim (λw=> .inl (o.eb.wb p w)) .inr,λp hp=>?_⟩,⟨λb x _ h=>hH2 b x h,Wl⟩,by rw[Bm,o.len],λj p h=>if_pos ⟨j,h⟩,λj p h=>o.aw j p h.2,λj j' p h h'=>o.inj j j' p h.2 h'.2,λj u h=>?_,λj m w h hm=>?_,λj m h=>?_⟩
   ·rcases hp with hp|hp
    ·obtain⟨xs,e,m⟩:=e0.bl p (.inl hp);exact⟨xs,(hH p (own p hp)).trans e,m⟩
    ·exact⟨.lst _,(hH p (wq p (.inr hp))).trans (by rw[hp];exact h3),trivial⟩
   ·obtain⟨x,y,z,e⟩:=Wl p hp;exact⟨x,y,z,(hH p (wq p hp)).trans e⟩
   ·rcases bI h with ⟨rfl,e,hl⟩|⟨ne,h⟩
    ·cases e;exact⟨_,h1,q,rfl,.inr rfl⟩
    ·obtain⟨v',g1,g2⟩:=o.sh j u h;exact⟨v',g1,DU.wm (λ_=> .inl) u (DU.mono k u g2)⟩
   ·rcases bI h with ⟨rfl,rfl,hl⟩|⟨ne,h⟩
    ·cases hm
    ·obtain⟨p,g1,g3⟩:=o.hd j m w h hm;exact⟨p,g1,w.at_ (w.wm (λ_=> .inl) (w.mono k (λ_ _=>rfl) g3)) (aDy ne)⟩
   ·rcases bI h with ⟨rfl,rfl,hl⟩|⟨ne,h⟩
    ·rfl
    ·exact o.nb j m h
  have keep:∀b x,H0 b=some x->H b=some x->H2 b=some x:=λb x h0 h=>(hH b λ⟨j,_,e⟩=>by rw[o.an j b e]at h0;cases h0).trans h;refine f o2 h ⟨λ_ z=>z.elim,λ_ z=>z.elim,λ_ z=>z.elim,λ{s v Hf} fw r hs=>?_,λ_ _ z=>z.elim⟩ λu v H' m tp d=>zz u v H' m (λb xs h0=>tp b xs (keep b _ h0 (Fw.tpl o.eb.wo o.fw b xs h0))) d;have fW:Fw W H0 Hf:=⟨λb x w h0=>fw.fr b x (λz=>z.elim w λe=>by rw[e,nq]at h0;cases h0) (keep b x h0 (o.fw.fr b x w h0)),λp hp=>fw.wo p (.inl hp)⟩;have kb:∀b x,¬(B b∨b=q)->Hf b=some x->¬B b/\Hf b=some x:=λb x n h=>⟨λz=>n (.inl z),h⟩;refine j.rt fW ?_ hs.2;match s,r,hs.1 with
  |.sh u,r,n=>exact DU.nw u n (DU.mono kb u r)
  |.ow l,⟨p',ys,e1,e2,e3,e4⟩,n=>
   refine⟨p',ys,e1,?_,e3,DUs.nw l n (DUs.mono (λb x n h=>⟨λz=>n (z.elim (λz=> .inl (.inl z)) .inr),h⟩) l e4)⟩;cases z:H0 p' with
   |none=>rfl
   |some x=>
    by_cases w:W p'
    ·obtain⟨_,_,_,y⟩:=o2.eb.wo p' (.inl w);rw[y]at e2;cases e2
    ·rw[keep p' x z (o.fw.fr p' x w z)]at e2;cases e2
 ·exact h.elim⟩
end L2
namespace KR
open PySem PyProof.Rows L2
inductive Tm where
 |num (n:Int)
 |take (b:Int) (ss:List Int)
 |rest (t:Tm) (y:Int)
 |cho (a b c:Tm)
 |bin (k:Fin 5) (a b:Tm)
abbrev Tk:Type:=Int×List Int
def opn(k:Fin 5):Str:=match k with|0=>"+"|1=>"-"|2=>"*"|3=>"min"|4=>"max"
structure Cn where
 num:Addr
 take:Addr
 rest:Addr
 cho:Addr
 bin:Fin 5->Addr
def cls(N:Cn):Tm->Addr
 |.num _=>N.num
 |.take _ _=>N.take
 |.rest _ _=>N.rest
 |.cho _ _ _=>N.cho
 |.bin k _ _=>N.bin k
def IsC(N:Cn)(C:Addr):Prop:=C=N.num∨C=N.take∨C=N.rest∨C=N.cho∨∃k,C=N.bin k
def isC(N:Cn):∀t:Tm,IsC N (cls N t)
 |.num _=> .inl rfl
 |.take _ _=> .inr (.inl rfl)
 |.rest _ _=> .inr (.inr (.inl rfl))
 |.cho _ _ _=> .inr (.inr (.inr (.inl rfl)))
 |.bin k _ _=> .inr (.inr (.inr (.inr ⟨k,rfl⟩)))
def kids:Tm->List Tm
 |.num _=>[]
 |.take _ _=>[]
 |.rest t _=>[t]
 |.cho a b c=>[a,b,c]
 |.bin _ a b=>[a,b]
def ht:Tm->Nat
 |.num _=>1
 |.take _ _=>1
 |.rest t _=>ht t+1
 |.cho a b c=>max (ht a) (max (ht b) (ht c))+1
 |.bin _ a b=>max (ht a) (ht b)+1
def fV:Tm->Nat
 |.num _=>1
 |.take _ _=>1
 |.rest t _=>1+fV t
 |.cho a b c=>1+(fV a+(fV b+fV c))
 |.bin _ a b=>1+(fV a+fV b)
def raw:Tm->List Tk
 |.num _=>[]
 |.take b ss=>[(b,ss)]
 |.rest t _=>raw t
 |.cho a b c=>raw a++(raw b++raw c)
 |.bin _ a b=>raw a++raw b
def wQ(t:Tm):0<ht t:=by cases t<;>exact Sn _
theorem aTv{t k:Tm}(h:k∈kids t):ht k<ht t:=by cases t<;>grind [kids,ht]
def zL(t:Tm):(kids t).length<=3:=by cases t<;>simp[kids]
theorem aIh{t k:Tm}(h:k∈kids t)(x:Tk)(hx:x∈raw k):x∈raw t:=by cases t<;>grind [kids,raw]
def fH(t:Tm)(l:List Tk):Prop:=l.Pairwise (λx y=>pL x y=true)/\∀x,x∈l↔x∈raw t
def aCq{x y:Tk}(h:pL x y=true):pL y x=false:=by
 unfold pL at h⊢;by_cases e:x.1=y.1
 ·rw[if_pos e]at h;rw[if_pos e.symm];exact aCp _ _ h
 ·rw[if_neg e,decide_eq_true_iff]at h;rw[if_neg (Ci e),decide_eq_false_iff_not]
  lia
theorem aF0:∀{l m:List Tk},l.Pairwise (λx y=>pL x y=true)->m.Pairwise (λx y=>pL x y=true)->(∀x,x∈l↔x∈m)->l=m
 | [],[],_,_,_=>rfl
 | [],b::m,_,_,h=>absurd ((h b).mpr Ah) (by simp)
 |a::l,[],_,_,h=>absurd ((h a).mp Ah) (by simp)
 |a::l,b::m,h1,h2,h=>by
  have ha:=Er.mp h1;have hb:=Er.mp h2;have O:∀x y:Tk,pL x y=true->pL y x=false:=λx y=>aCq;have irr:∀x:Tk,pL x x=true->False:=λx hx=>by have:=O x x hx;rw[hx]at this;cases this
  have e:a=b:=by
   rcases Ao.mp ((h a).mp Ah)with z|z
   ·exact z
   ·rcases Ao.mp ((h b).mpr Ah)with y|y
    ·exact y.symm
    ·have:=O _ _ (ha.1 b y);rw[hb.1 a z]at this;cases this
  subst e;rw[aF0 ha.2 hb.2 λx=>⟨λhx=>?_,λhx=>?_⟩]
  ·rcases Ao.mp ((h x).mp (Ag _ hx))with z|z
   ·exact(irr a (by have:=ha.1 x hx;rw[z]at this;exact this)).elim
   ·exact z
  ·rcases Ao.mp ((h x).mpr (Ag _ hx))with z|z
   ·exact(irr a (by have:=hb.1 x hx;rw[z]at this;exact this)).elim
   ·exact z
def fH.uniq{t:Tm}{l m:List Tk}(h1:fH t l)(h2:fH t m):l=m:=aF0 h1.1 h2.1 λx=>(h1.2 x).trans (h2.2 x).symm
def aHy(x:Tk):Prop:=1<=x.1/\x.1<=3/\∀s∈x.2, -9<=s/\s<=9
def Wf:Tm->Prop
 |.num n=> -1000000000000<=n/\n<=1000000000000
 |.take _ _=>True
 |.rest t y=>1<=y/\y<=1000000000/\Wf t
 |.cho a b c=>Wf a/\Wf b/\Wf c
 |.bin _ a b=>Wf a/\Wf b
end KR
namespace Q
variable {us:List Value}{t:Tm}{ns:List Int}{ps:List Str}{k:Nat}{b:Bool}{x:Str}{ys:List Tk}{R:Sl->Prop}{ls:List (List Int)}{f1 f2 f3 f4:Addr}{wd:Option Str}{n m:Int}
open PySem PyProof.Rows L2
def top(i:Nat):Stmt:=PySem.Challenge.pw_slanttiles_k21_what_makes_a_job.main.body.getD i (.Pass ⟨0,0,0,0⟩)
abbrev fL:Stmt:=inClass (top 2) 0
abbrev uC:Stmt:=top 8
abbrev rK:Stmt:=top 9
abbrev lK:Stmt:=inClass (top 19) 0
abbrev fZ:Stmt:=inClass (top 19) 1
abbrev lL:Stmt:=inClass (top 19) 4
abbrev iT:Stmt:=inClass (top 19) 5
abbrev iU:Stmt:=inClass (top 19) 6
abbrev iM:Stmt:=inClass (top 20) 0
abbrev eE:Stmt:=inClass (top 20) 1
abbrev kJ:Stmt:=inClass (top 21) 0
abbrev fY:Stmt:=inClass (top 21) 1
abbrev lJ:Stmt:=inClass (top 21) 4
abbrev iQ:Stmt:=inClass (top 22) 0
abbrev iR:Stmt:=inClass (top 22) 1
abbrev kI:Stmt:=inClass (top 28) 0
abbrev lH:Stmt:=inClass (top 28) 1
abbrev fX:Stmt:=inClass (top 28) 2
abbrev iJ:Stmt:=inClass (top 29) 0
abbrev iK:Stmt:=inClass (top 29) 1
abbrev nJ:Stmt:=top 30
abbrev pY:Stmt:=top 31
abbrev jJ:Stmt:=top 32
abbrev pX:Stmt:=top 33
abbrev mJ:Stmt:=inClass (top 38) 0
abbrev pP:Stmt:=inClass (top 38) 1
abbrev pW:Stmt:=top 39
abbrev vN:Stmt:=top 40
abbrev aA7:Stmt:=top 43
abbrev kE:Stmt:=inClass (top 50) 0
abbrev pO:Stmt:=inClass (top 50) 1
abbrev gY:Stmt:=inClass (top 50) 2
abbrev oG:Stmt:=top 51
abbrev xM:Stmt:=top 52
abbrev mK:Stmt:=top 54
abbrev rJ:Stmt:=top 55
abbrev rH:Stmt:=top 56
abbrev pR:Stmt:=top 57
abbrev uB:Stmt:=top 58
abbrev lN:Stmt:=top 59
abbrev fD:Stmt:=top 60
abbrev oE:Stmt:=top 61
abbrev nH:Stmt:=top 62
abbrev nG:Stmt:=top 63
abbrev lO:Stmt:=top 64
abbrev gZ:Stmt:=top 65
abbrev dU:Stmt:=top 66
abbrev kO:Stmt:=top 67
abbrev oF:Stmt:=top 68
abbrev pU:Stmt:=top 69
abbrev fC:Stmt:=top 70
abbrev pQ:Stmt:=top 71
abbrev lM:Stmt:=top 72
abbrev aCu:Stmt:=top 73
structure Txt(mg:Str->#v[8]):Prop where
 isinstance:mg "isinstance"=none
 int:mg "int"=none
 bool:mg "bool"=none
 str:mg "str"=none
 tuple:mg "tuple"=none
 list:mg "list"=none
 len:mg "len"=none
 range:mg "range"=none
 enumerate:mg "enumerate"=none
 max:mg "max"=none
 min:mg "min"=none
 sorted:mg "sorted"=none
 sum:mg "sum"=none
 set:mg "set"=none
 all:mg "all"=none
 any:mg "any"=none
 zip:mg "zip"=none
 abs:mg "abs"=none
 dict:mg "dict"=none
 c_GREATEST_NUMBER:∃t,mg "GREATEST_NUMBER"=some (.int 1000000000000 t)
 c_GREATEST_DIVISOR:∃t,mg "GREATEST_DIVISOR"=some (.int 1000000000 t)
 c_GREATEST_BACK:∃t,mg "GREATEST_BACK"=some (.int 3 t)
 c_GREATEST_STEP:∃t,mg "GREATEST_STEP"=some (.int 9 t)
 c_MOST_STEPS:∃t,mg "MOST_STEPS"=some (.int 3 t)
 c_MOST_DEPTH:∃t,mg "MOST_DEPTH"=some (.int 12 t)
 c_MOST_PARTS:∃t,mg "MOST_PARTS"=some (.int 60 t)
 c_MOST_TAKES:∃t,mg "MOST_TAKES"=some (.int 6 t)
 c_GREATEST_MODULUS:∃t,mg "GREATEST_MODULUS"=some (.int 1000000000 t)
 c_MOST_ROUNDS:∃t,mg "MOST_ROUNDS"=some (.int 12 t)
 c_MOST_SPOTS:∃t,mg "MOST_SPOTS"=some (.int 120 t)
 c_GREATEST_FIXED:∃t,mg "GREATEST_FIXED"=some (.int 1000000000 t)
 c_MOST_LINES:∃t,mg "MOST_LINES"=some (.int 3 t)
 c_GREATEST_SIZE:∃t,mg "GREATEST_SIZE"=some (.int 9 t)
 c_MOST_PLACES:∃t,mg "MOST_PLACES"=some (.int 40 t)
variable {P:Ap}{w:Bh}{K:Ab}{mg:Str->#v[8]}{base:Heap}{f:Addr}{fd:Bb}
abbrev Fv:=List U->(Sl->Prop)->Prop
def aY1:U->Bool
 |.v (.int _)=>true
 |_=>false
def aMa:Fv:=λus R=>∃u t,us=[u]/\tyU u=some t/\R (.sh (.b (aY1 u)))
def aFx:aP ["thing"] ["thing"] (aF uC):={}
def aNf(F:Fun K "is_whole" "is_whole" uC f fd)(T:Txt mg):↥1 f fd ["thing"] (spV aMa):=by
 refine vfn F aFx (λcdv A outer s H E hr=>(aH (aQ (uJ (kW .int nofun T.isinstance T.int Rg (aB 0)) (uL (aO2 (kW .bl nofun T.isinstance T.bool boot_bool (aB 0)))))))) ?_;rintro _ R ⟨u,t,rfl,ht,q⟩;unfold tyU at ht;split at ht<;>cases ht<;>first|exact⟨rfl,_,rfl,λ_=>⟨_,rfl,q⟩,nofun⟩|exact⟨rfl,_,rfl,nofun,λ_=>q⟩
def isIn(u:U)(a b:Int):Bool:=match u with
 |.v (.int i)=>decide (a<=i) && decide (i<=b)
 |_=>false
def fQ:Fv:=λus R=>∃u t a b,us=[u,.n a,.n b]/\tyU u=some t/\R (.sh (.b (isIn u a b)))
def aEe:aP ["thing","least","most"] ["thing","least","most"] (aF rK):={}
def aKk(F:Fun K "is_within" "is_within" rK f fd)(aGt:⇑1 "is_whole" ["thing"] (spV aMa)):↥2 f fd ["thing","least","most"] (spV fQ):=by
 refine vfn F aEe (λcdv A outer s H E hr=>(aH (aQ (uJ (aK aGt (hr.mono ⋯) rfl (aA (aB 0) aD)) (uL (aF8 yK yK dC dC (aB 1) (aB 0) (aB 2))))))) ?_;rintro _ R ⟨u,t,a,b,rfl,ht,q⟩;refine⟨rfl,u,t,rfl,ht,?_⟩;match u,q with
 |.v (.int i),q=>exact⟨λ_=>⟨λh=>by simp only[isIn,h,Gk]at q;exact q,λh=>by simp only[isIn,h,Dh]at q;exact q⟩,nofun⟩
 |.v .non,q=>exact⟨nofun,λ_=>q⟩
 |.v (.bl _),q=>exact⟨nofun,λ_=>q⟩
 |.v (.str _),q=>exact⟨nofun,λ_=>q⟩
 |.tp _,q=>exact⟨nofun,λ_=>q⟩
 |.ls _,q=>exact⟨nofun,λ_=>q⟩
 |.dk _ _,q=>exact⟨nofun,λ_=>q⟩
inductive Rim where
 |fixed (v:Int)
 |mirror
 |round
def Rim.u:Rim->U
 |.fixed v=> .tp [.s "fixed",.n v]
 |.mirror=> .tp [.s "mirror"]
 |.round=> .tp [.s "round"]
def Rim.ok:Rim->Prop
 |.fixed v=>0<=v/\v<=1000000000
 |_=>True
def aL1:Fv:=λus R=>∃r:Rim,us=[r.u]/\r.ok/\R (.sh (.b true))
abbrev PW3:List Str:=["thing","least","most"]
def aKt:aP ["thing"] ["thing"] (aF aA7):={}
def aM6(F:Fun K "is_rim" "is_rim" aA7 f fd)(c_is_within:⇑2 "is_within" PW3 (spV fQ))(T:Txt mg):↥3 f fd ["thing"] (spV aL1):=by
 obtain⟨_,g_GREATEST_FIXED⟩:=T.c_GREATEST_FIXED;refine vfn F aKt (λcdv A outer s H E hr=>(aG (bJ (jW (mQ (dW (dD (kW .tp nofun T.isinstance T.tuple Nn (aB 0)))) (iD (bA (bM (huD hr)) bN (bD aV cR T.len Eg (aO (aB 0) aX)) aC)))) (aH (aQ oV)) aU) (aG (bJ (dW (dD (kW .str nofun T.isinstance T.str boot_str (bQ bF bO (aB 0) aC)))) (aH (aQ oV)) aU) (aG (bJ (bA (bM (huD hr)) bN (bQ bF bO (aB 0) aC) aN) (aH (aQ (uJ (qG (bM (huD hr)) bN (bD aV cR T.len Eg (aO (aB 0) aX)) aC) (uL (aK c_is_within (hr.mono ⋯) rfl (aA (bQ bF bO (aB 0) aC) (aA aC (aA (dH g_GREATEST_FIXED) aD)))))))) aU) (aH (aQ (uJ (qG (bM (huD hr)) bN (bD aV cR T.len Eg (aO (aB 0) aX)) aC) (uL (qG (aT8 (huD hr)) aSo (bQ bF bO (aB 0) aC) (aY (aA aN (aA aN aD)))))))))))) ?_;rintro _ R ⟨r,rfl,ok,q⟩;match r,ok with
 |.fixed v,ok=>
  refine⟨rfl,_,rfl,nofun,λ_=>⟨trivial,trivial,nofun,λ_=>?_⟩⟩;refine⟨_,rfl,_,rfl,nofun,λ_=>?_⟩;refine⟨_,rfl,trivial,trivial,λ_=>?_,λh=>absurd h #v[3]⟩;refine⟨trivial,trivial,λ_=>⟨_,rfl,_,_,_,_,rfl,rfl,?_⟩,nofun⟩;simp only[isIn,ok.1,ok.2,decide_true,Gk];exact q
 |.mirror,_=>
  refine⟨rfl,_,rfl,nofun,λ_=>⟨trivial,trivial,nofun,λ_=>?_⟩⟩;refine⟨_,rfl,_,rfl,nofun,λ_=>?_⟩;refine⟨_,rfl,trivial,trivial,λh=>absurd h #v[3],λ_=>?_⟩;refine⟨trivial,trivial,λ_=>⟨_,rfl,trivial,⟨trivial,trivial,trivial⟩,?_⟩,λh=>absurd h #v[3]⟩;exact Rbl q #v[3]
 |.round,_=>
  refine⟨rfl,_,rfl,nofun,λ_=>⟨trivial,trivial,nofun,λ_=>?_⟩⟩;refine⟨_,rfl,_,rfl,nofun,λ_=>?_⟩;refine⟨_,rfl,trivial,trivial,λh=>absurd h #v[3],λ_=>?_⟩;refine⟨trivial,trivial,λ_=>⟨_,rfl,trivial,⟨trivial,trivial,trivial⟩,?_⟩,λh=>absurd h #v[3]⟩;exact Rbl q #v[3]
def bL(ns:List Int):Int:=ns.foldl (λa n=>a*n) 1
structure aB2(ns:List Int):Prop where
 ok:∀n∈ns,1<=n/\n<=9
 l1:1<=ns.length
 l3:ns.length<=3
 mn:bL ns<=40
def aL6:Fv:=λus R=>∃ns:List Int,us=[.ls (ns.map U.n)]/\(∀n∈ns,1<=n/\n<=9)/\ns.length<=3/\R (.sh (.n (bL ns)))
def qC:aP ["sizes","many","size"] ["sizes"] (aF xM):={}
def aP4(F:Fun K "product" "product" xM f fd):↥1 f fd ["sizes"] (spV aL6):=by
 refine vfn F qC (λcdv A outer s H E hr=>(aG (aZ (i:=1) qC.nd aC) (aG (iY Cu rfl (cY (aB 0)) (gA (i:=2) qC.nd) (aH (aZ (i:=1) qC.nd (bB jY jR (aB 1) (aB 2))))) (aH (vZ 1))))) ?_;rintro _ R ⟨ns,rfl,ok,_,q⟩;refine⟨rfl,?_⟩;refine eO (λl ρ=>∃(ms:List Int)(a:Int)(x y:Sl),l=ms.map U.n/\ρ=[x,.sh (.n a),y]/\(∀n∈ms,1<=n/\n<=9)/\R (.sh (.n (ms.foldl (λa n=>a*n) a)))) ?_ ?_ ⟨ns,1,_,_,rfl,rfl,ok,q⟩
 ·rintro ρ ⟨ms,a,x,y,e,rfl,_,q⟩;obtain rfl:=Cz.mp e.symm;exact q
 ·rintro u r ρ ⟨ms,a,x,y,e,rfl,h,q⟩ ih;obtain⟨n,ms,rfl,rfl,rfl⟩:=Jk.mp e.symm;have hn:=h n Ah;exact⟨.inr ⟨∅,∅⟩,ih _ ⟨ms,_,_,_,rfl,rfl,λm hm=>h m (Ag _ hm),q⟩⟩
def grU(C:Addr)(ns:List Int)(rs:List Rim):U:=.ob C ["sizes","rims"] [.ls (ns.map U.n),.ls (rs.map Rim.u)]
def aLz:Fv:=λus R=>∃(ns:List Int)(rs:List Rim),us=[.ls (ns.map U.n),.ls (rs.map Rim.u)]/\(∀n∈ns,1<=n/\n<=9)/\1<=ns.length/\ns.length<=3/\rs.length=ns.length/\(∀r∈rs,r.ok)/\R (.sh .no)
def mL:aP ["sizes","rims","line","rim"] ["sizes","rims"] (aF oG):={}
def aM2(F:Fun K "check_lines" "check_lines" oG f fd)(c_is_within:⇑2 "is_within" PW3 (spV fQ))(aLl:⇑3 "is_rim" ["thing"] (spV aL1))(T:Txt mg):↥4 f fd ["sizes","rims"] (spV aLz):=by
 obtain⟨_,g_MOST_LINES⟩:=T.c_MOST_LINES;obtain⟨_,g_GREATEST_SIZE⟩:=T.c_GREATEST_SIZE;refine vfn F mL (λcdv A outer s H E hr=>(aG (bJ (jW (mQ (dW (aF7 yK yK dC dC aC (bD aV cR T.len Eg (aO (aB 0) aX)) (dH g_MOST_LINES))) (iD (bA (jZ (huD hr)) bN (bD aV cR T.len Eg (aO (aB 1) aX)) (bD aV cR T.len Eg (aO (aB 0) aX)))))) (aH aGb) aU) (aH (iY Cu rfl (aRf T.enumerate (aA (aB 1) aD)) (aVl rfl (aF9 (i:=2) mL.nd (aF9 (i:=3) mL.nd aRe))) (aH (bJ (jW (mQ (dW (dD (aK c_is_within (hr.mono ⋯) rfl (aA (bQ bF bO (aB 0) (aB 2)) (aA aC (aA (dH g_GREATEST_SIZE) aD)))))) (iD (dW (dD (aK aLl (hr.mono ⋯) rfl (aA (aB 3) aD))))))) (aH aGb) aU)))))) ?_;rintro _ R ⟨ns,rs,rfl,ok,l1,l3,el,rk,q⟩;refine⟨rfl,?_⟩;have e1:(ns.map U.n).length=ns.length:=Ac ..;have e2:(rs.map Rim.u).length=ns.length:=by rw[Ac,el]
 refine⟨λ_=>⟨λh=>?_,λ_=>⟨trivial,trivial,λh=>?_,λ_=>?_⟩⟩,λh=>?_⟩
 ·simp at h;lia
 ·simp only[U.eq,U.d,D.eq,eqV,Sl.rd]at h;simp[el]at h
 ·refine eO (λl ρ=>∃(k:Nat)(ss:List Rim)(x y:Sl),l=(ss.map Rim.u |>.zipIdx k).map (λx=> .tp [.n (x.2:Nat),x.1])/\ρ=[.sh (.ls (ns.map U.n)),.sh (.ls (rs.map Rim.u)),x,y]/\k+ss.length=ns.length/\∀r∈ss,r.ok) ?_ ?_ ⟨0,rs,_,_,rfl,rfl,∅,rk⟩
  ·rintro ρ ⟨k,ss,x,y,e,rfl,_⟩;exact q
  ·rintro u r ρ ⟨k,ss,x,y,e,rfl,hk,ho⟩ ih;match ss,e,hk,ho with
   |s::ss,e,hk,ho=>
    cases e;have hl:k<ns.length:=by rw[Aq]at hk;lia
    have hn:=ok _ (Ew hl);refine⟨rfl,U.n ns[k],pF (by rw[Ay,Ak hl];rfl),_,_,_,_,rfl,rfl,?_⟩;refine⟨λh=>?_,λ_=>⟨s,rfl,ho s Ah,nofun,λ_=>ih _ ⟨k+1,ss,_,_,rfl,rfl,by rw[Aq]at hk;lia,λr hr=>ho r (Ag _ hr)⟩⟩⟩;simp[isIn,hn.1,hn.2]at h
 ·simp at h;lia
def aL4(C:Addr):Fv:=λus R=>∃ns rs,us=[grU C ns rs]/\R (.sh (.n ns.length))
def aBr:aP ["self"] ["self"] (aF pO):={}
def aM9{C:Addr}(F:Fun K "lines" "Grid.lines" pO f fd)(cG:Cfl K C ["sizes","rims"])(T:Txt mg):↥1 f fd ["self"] (spV (aL4 C)):=by
 refine vfn F aBr (λcdv A outer s H E hr=>(aH (aQ (bD aV cR T.len Eg (aO (fP cG (aB 0)) aX))))) ?_;rintro _ R ⟨ns,rs,rfl,q⟩;refine⟨rfl,rfl,.inl ⟨rfl,?_⟩⟩;rw[<-Ac (f:=U.n)]at q;exact q
def aSe(C:Addr):Fv:=λus R=>∃ns rs,us=[grU C ns rs]/\aB2 ns/\R (.sh (.n (bL ns)))
def sZ:aP ["self"] ["self"] (aF gY):={}
def aP2{C:Addr}(F:Fun K "places_many" "Grid.places_many" gY f fd)(cG:Cfl K C ["sizes","rims"])(wM:⇑1 "product" ["sizes"] (spV aL6)):↥2 f fd ["self"] (spV (aSe C)):=by
 refine vfn F sZ (λcdv A outer s H E hr=>(aH (aQ (aK wM (hr.mono ⋯) rfl (aA (fP cG (aB 0)) aD))))) ?_;rintro _ R ⟨ns,rs,rfl,g,q⟩;exact⟨rfl,rfl,.inl ⟨rfl,ns,rfl,g.ok,g.l3,q⟩⟩
open PySem PyProof.Rows L2 KR
def enc(N:Cn):Tm->U
 |.num n=> .ob N.num ["value"] [.n n]
 |.take b ss=> .ob N.take ["back","steps"] [.n b,.tp (ss.map U.n)]
 |.rest t y=> .ob N.rest ["one","by"] [enc N t,.n y]
 |.cho a b c=> .ob N.cho ["test","one","other"] [enc N a,enc N b,enc N c]
 |.bin k a b=> .ob (N.bin k) ["one","other"] [enc N a,enc N b]
def fB{N:Cn}{m:Str}{F:Addr->Fv}{G:TVa}{ρ:EV}(t:Tm)(h1:(["value","back","steps","one","by","test","other"]:List Str).elem m=false)(h:G ρ λvs=>F (cls N t) (enc N t::vs) R):mOb (IsC N) m F G ρ R (enc N t):=by
 have hc:=isC N t;have k:∀ns:List Str,(∀x∈ns,x∈(["value","back","steps","one","by","test","other"]:List Str))->ns.elem m=false:=λns hn=>by
  cases q:ns.elem m with
  |false=>rfl
  |true=>
   have:=hn m (Wy.mp q);rw[Wy.mpr this]at h1;cases h1
 cases t with
 |num n=>exact⟨hc,k _ (by simp),h⟩
 |take b ss=>exact⟨hc,k _ (by simp),h⟩
 |rest t y=>exact⟨hc,k _ (by simp),h⟩
 |cho a b c=>exact⟨hc,k _ (by simp),h⟩
 |bin j a b=>exact⟨hc,k _ (by simp),h⟩
def iH(N:Cn)(C:Addr):Fv:=λus R=>∃t,us=[enc N t]/\cls N t=C/\R (.ow ((kids t).map (enc N)))
variable {f C:Addr}{N:Cn}
def aBv:aP ["self"] ["self"] (aF lK):={}
def aCs(F:Fun K "inner" "Term.inner" lK f fd)(hC:∀t,cls N t=C->kids t=[]):↥1 f fd ["self"] (spV (iH N C)):=by
 refine vfn F aBv (λcdv A outer s H E hr=>(aH (aQ (bR aD)))) ?_;rintro _ R ⟨t,rfl,e,q⟩;rw[hC t e]at q;exact⟨rfl,q⟩
def zB:aP ["self"] ["self"] (aF iR):={}
def aKa{k:Fin 5}(F:Fun K "inner" "Paired.inner" iR f fd)(cP:Cfl K (N.bin k) ["one","other"])(hC:∀t,cls N t=N.bin k->∃a b,t=.bin k a b):↥1 f fd ["self"] (spV (iH N (N.bin k))):=by
 refine vfn F zB (λcdv A outer s H E hr=>(aH (aQ (bR (aA (fP cP (aB 0)) (aA (fP cP (aB 0)) aD)))))) ?_;rintro _ R ⟨t,rfl,e,q⟩;obtain⟨a,b,rfl⟩:=hC t e;exact⟨rfl,rfl,.inl ⟨rfl,rfl,.inr ⟨by decide+kernel,.inl ⟨rfl,q⟩⟩⟩⟩
def aBs:aP ["self"] ["self"] (aF lH):={}
def aKc(F:Fun K "inner" "Rest.inner" lH f fd)(cP:Cfl K N.rest ["one","by"])(hC:∀t,cls N t=N.rest->∃a y,t=.rest a y):↥1 f fd ["self"] (spV (iH N N.rest)):=by
 refine vfn F aBs (λcdv A outer s H E hr=>(aH (aQ (bR (aA (fP cP (aB 0)) aD))))) ?_;rintro _ R ⟨t,rfl,e,q⟩;obtain⟨a,b,rfl⟩:=hC t e;exact⟨rfl,rfl,.inl ⟨rfl,q⟩⟩
def yZ:aP ["self"] ["self"] (aF iK):={}
def aJ4(F:Fun K "inner" "Chosen.inner" iK f fd)(cP:Cfl K N.cho ["test","one","other"])(hC:∀t,cls N t=N.cho->∃a b c,t=.cho a b c):↥1 f fd ["self"] (spV (iH N N.cho)):=by
 refine vfn F yZ (λcdv A outer s H E hr=>(aH (aQ (bR (aA (fP cP (aB 0)) (aA (fP cP (aB 0)) (aA (fP cP (aB 0)) aD))))))) ?_;rintro _ R ⟨t,rfl,e,q⟩;obtain⟨a,b,c,rfl⟩:=hC t e;exact⟨rfl,rfl,.inl ⟨rfl,rfl,.inr ⟨by decide+kernel,.inl ⟨rfl,rfl,.inr ⟨by decide+kernel,.inr ⟨by decide+kernel,.inl ⟨rfl,q⟩⟩⟩⟩⟩⟩⟩
def xF{l:List Tk}(h:l.Pairwise λx y=>pL x y=true):l.Nodup:=h.imp λ{x y} h z=>by
 subst z;rw[aCq h]at h;cases h
def Few(t:Tm):Prop:=∃ks:List Tk,ks.length<18/\∀x∈raw t,x∈ks
def vV{l:List Tk}(f:Few t)(h:fH t l):l.length<=17:=by
 obtain⟨ks,kl,km⟩:=f;have:=(xF h.1).length_le_of_subset (l₂:=ks) λx hx=>km x ((h.2 x).mp hx)
 lia
theorem aA5(h:∀b ss,t≠.take b ss)(x:Tk):x∈raw t↔ ∃k∈kids t,x∈raw k:=by cases t<;>simp[raw,kids]<;>grind
def sI(t:Tm){d:Nat}(h:ht t<=d+1):∀k∈kids t,ht k<=d:=λk hk=>by have:=aTv hk;lia
def pI(N:Cn)(d:Nat)(C:Addr):Fv:=λus R=>∃t,us=[enc N t]/\cls N t=C/\ht t<=d/\Few t/\∀ys,fH t ys->R (.ow (ys.map tkU))
abbrev jN(P:Ap)(w:Bh)(K:Ab)(mg:Str->#v[8])(base:Heap)(N:Cn)(k:Nat)(m:Str)(F:Addr->Fv):Prop:=Dis P w K mg base CX0 k (IsC N) m ["self"] λC=>spV (F C)
variable {d:Nat}
def oH:aP ["self","pairs","part"] ["self"] (aF lL):={}
def aKh(F:Fun K "takes" "Term.takes" lL f fd)(hC:∀t,cls N t=C->∀b ss,t≠.take b ss)(cV:jN P w K mg base N 1 "inner" (iH N))(lD:jN P w K mg base N (d+1) "takes" (pI N d))(T:Txt mg):↥(d+2) f fd ["self"] (spV (pI N (d+1) C)):=by
 refine vfn F oH (λcdv A outer s H E hr=>(aG (aZ (i:=1) oH.nd (bR aD)) (aG (iY Cu rfl (cY (cL (aB 0) cV (hr.mono ∅))) (gA (i:=2) oH.nd) (aH (aVp 1 (cL (aB 2) lD (hr.mono ∅))))) (aH (aQ (aI5 hr rfl T.sorted T.set (aO (aB 1) aX))))))) ?_;rintro _ R ⟨t,rfl,e,hd,fw,q⟩;refine⟨rfl,fB t #v[3] ⟨t,rfl,rfl,?_⟩⟩;refine eO (λl ρ=>∃(ks js:List Tm)(ps:List Tk)(x:Sl),l=ks.map (enc N)/\js++ks=kids t/\ρ=[.sh (enc N t),.ow (ps.map tkU),x]/\ps.length<=17*js.length/\∀y,y∈ps↔ ∃k∈js,y∈raw k) ?_ ?_ ⟨kids t,[],[],_,rfl,rfl,rfl,Am _,by simp⟩
 ·rintro ρ ⟨ks,js,ps,x,el,ej,rfl,pl,pm⟩;obtain rfl:=Cz.mp el.symm;rw[Bs]at ej;subst ej;have kl:=zL t;have rk:=aA5 (hC t e);exact⟨ps,rfl,∅,λys pw ym=>q ys ⟨pw,λy=>(ym y).trans ((pm y).trans (rk y).symm)⟩⟩
 ·rintro u r ρ ⟨ks,js,ps,x,el,ej,rfl,pl,pm⟩ ih;obtain⟨k,ks,rfl,rfl,rfl⟩:=Jk.mp el.symm;have hk:k∈kids t:=by rw[<-ej];simp
  have fk:Few k:=let⟨zs,zl,zm⟩:=fw;⟨zs,zl,λy hy=>zm y (aIh hk y hy)⟩;refine fB k #v[3] ⟨k,rfl,rfl,sI t hd k hk,fk,λys ik=>?_⟩;have yl:=vV fk ik;have kl:=zL t;have jl:js.length+(ks.length+1)<=3:=by rw[<-ej,An,Aq]at kl;exact kl
  refine⟨by rw[Ac,Ac];lia,ih _ ⟨ks,js++[k],ps++ys,_,rfl,by rw[Cv];exact ej,by rw[Em];rfl,by rw[An,An];show _<=17*(js.length+1);lia,λy=>?_⟩⟩;rw[Cd,pm y,ik.2 y];constructor
  ·rintro(⟨j,hj,hy⟩|hy)
   ·exact⟨j,Ea _ hj,hy⟩
   ·exact⟨k,by simp,hy⟩
  ·rintro⟨j,hj,hy⟩;rcases Cd.mp hj with hj|hj
   ·exact .inl ⟨j,hj,hy⟩
   ·rw[Br.mp hj]at hy;exact .inr hy
def aBt:aP ["self"] ["self"] (aF lJ):={}
def aJ7(F:Fun K "takes" "Take.takes" lJ f fd)(cK:Cfl K N.take ["back","steps"])(hC:∀t,cls N t=N.take->∃b ss,t=.take b ss):↥(d+2) f fd ["self"] (spV (pI N (d+1) N.take)):=by
 refine vfn F aBt (λcdv A outer s H E hr=>(aH (aQ (bR (aA (aY (aA (fP cK (aB 0)) (aA (fP cK (aB 0)) aD))) aD))))) ?_;rintro _ R ⟨t,rfl,e,hd,fw,q⟩;obtain⟨b,ss,rfl⟩:=hC t e;exact⟨rfl,rfl,.inl ⟨rfl,rfl,.inr ⟨by decide+kernel,.inl ⟨rfl,q [(b,ss)] ⟨Ia ..,λ_=>Qe⟩⟩⟩⟩⟩
def aE8(N:Cn)(g:Tm->Nat)(d:Nat)(C:Addr):Fv:=λus R=>∃t,us=[enc N t]/\cls N t=C/\ht t<=d/\fV t<=200/\R (.sh (.n (g t)))
theorem aA4{t k:Tm}(h:k∈kids t):fV k<=fV t:=by cases t<;>grind [kids,fV]
def aMl(t:Tm):∀m:Int,(kids t=[]/\m=0)∨(m∈(kids t).map (λk=>(ht k:Int))/\∀a∈(kids t).map (λk=>(ht k:Int)),a<=m)->1+m=(ht t:Int):=by
 intro m h;cases t with
 |num n=>rcases h with ⟨_,h⟩|⟨h,_⟩<;>simp[kids,ht]at h⊢;lia
 |take b ss=>rcases h with ⟨_,h⟩|⟨h,_⟩<;>simp[kids,ht]at h⊢;lia
 |rest t y=>rcases h with ⟨h,_⟩|⟨h,_⟩<;>simp[kids,ht]at h⊢;lia
 |cho a b c=>rcases h with ⟨h,_⟩|⟨h,g⟩<;>simp[kids,ht]at h⊢;simp[kids]at g;lia
 |bin k a b=>rcases h with ⟨h,_⟩|⟨h,g⟩<;>simp[kids,ht]at h⊢;simp[kids]at g;lia
def aNw(t:Tm):1+((kids t).map (λk=>(fV k:Int))).sum=(fV t:Int):=by
 cases t<;>simp[kids,fV]<;>lia
def ints_map{g:Tm->Nat}(ks:List Tm):ks.map (λk=>U.n (g k))=(ks.map λk=>(g k:Int)).map U.n:=by rw[Cp];rfl
def aFc{g:Tm->Nat}{h:U->(Option U->Prop)->Prop}{R:List U->Prop}(hf:∀k∈kids t,∀c:Option U->Prop,c (some (.n (g k)))->h (enc N k) c)(q:R (((kids t).map λk=>(g k:Int)).map U.n)):lB h ((kids t).map (enc N)) [] R:=by
 rw[<-ints_map]at q;revert hf q;generalize kids t=ks;have key:∀(ks:List Tm)(acc:List U),(∀k∈ks,∀c:Option U->Prop,c (some (.n (g k)))->h (enc N k) c)->R (acc++ks.map λk=>U.n (g k))->lB h (ks.map (enc N)) acc R:=by
  intro ks;induction ks with
  |nil=>exactλacc _ q=>by rw[Hs,Bs]at q;exact q
  |cons k ks ih=>exactλacc hf q=>hf k Ah _ (ih _ (λj hj=>hf j (Ag _ hj)) (by rw[Cv];exact q))
 exactλhf q=>key ks [] hf q
abbrev aC6:List Str:=["self"]
def aBu:aP ["self"] ["self"] (aF iT):={}
def aKf(F:Fun K "depth" "Term.depth" iT f fd)(cV:jN P w K mg base N 1 "inner" (iH N))(aC3:jN P w K mg base N (d+1) "depth" (aE8 N ht d))(T:Txt mg):↥(d+2) f fd ["self"] (spV (aE8 N ht (d+1) C)):=by
 refine vfn F aBu (λcdv A outer s H E hr=>(aH (aQ (bB bV cM aC (zR rfl T.max (aO (oW (own:=["part"]) (cap:=[]) (aF iT) aC6 rfl rfl (λx h=>bY h) #v[3] rfl (vic (cY (cL (aB 0) cV (hr.mono ∅)))) ↑(bW (i:=0) (~~~["part"]) rfl (Ex rfl) (Fy rfl)) (dI ⋯) ↑(cL (aB 0) aC3 (hr.mono ∅))) aX) aC))))) ?_;rintro _ R ⟨t,rfl,e,hd,hp,q⟩;refine⟨rfl,fB t #v[3] ⟨t,rfl,rfl,?_⟩⟩;refine⟨by have:=zL t;rw[Ac];lia,aFc (g:=ht) (λk hk c hc=>fB k #v[3] ⟨k,rfl,rfl,sI t hd k hk,by have:=aA4 hk;lia,hc⟩) ?_⟩;refine⟨_,rfl,λh=>?_,λm hm ha=>?_⟩
 ·have:=aMl t 0 (.inl ⟨Cz.mp h,rfl⟩);rw[<-this]at q;exact q
 ·have:=aMl t m (.inr ⟨hm,ha⟩);rw[<-this]at q;exact q
abbrev aC7:List Str:=["self"]
def aBw:aP ["self"] ["self"] (aF iU):={}
def aKg(F:Fun K "parts" "Term.parts" iU f fd)(cV:jN P w K mg base N 1 "inner" (iH N))(aC4:jN P w K mg base N (d+1) "parts" (aE8 N fV d))(T:Txt mg):↥(d+2) f fd ["self"] (spV (aE8 N fV (d+1) C)):=by
 refine vfn F aBw (λcdv A outer s H E hr=>(aH (aQ (bB bV cM aC (bD (aLq rfl) aTf T.sum boot_sum (aO (oW (own:=["part"]) (cap:=[]) (aF iU) aC7 rfl rfl (λx h=>bY h) #v[3] rfl (vic (cY (cL (aB 0) cV (hr.mono ∅)))) ↑(bW (i:=0) (~~~["part"]) rfl (Ex rfl) (Fy rfl)) (dI ⋯) ↑(cL (aB 0) aC4 (hr.mono ∅))) aX)))))) ?_;rintro _ R ⟨t,rfl,e,hd,hp,q⟩;have kl:=zL t;refine⟨rfl,fB t #v[3] ⟨t,rfl,rfl,?_⟩⟩;refine⟨by rw[Ac];lia,aFc (g:=fV) (λk hk c hc=>fB k #v[3] ⟨k,rfl,rfl,sI t hd k hk,by have:=aA4 hk;lia,hc⟩) ?_⟩;refine⟨_,rfl,by rw[Ac];lia,λn hn=>?_,?_⟩
 ·obtain⟨k,hk,rfl⟩:=Az.mp hn;have:=aA4 hk
  lia
 ·have:=aNw t;rw[<-this]at q;exact q
def xR(ss:List Int):Bool:=(decide (1<=ss.length) && decide (ss.length<=3)) && ss.all λs=>isIn (.n s) (-9) 9
def aG0:Fv:=λus R=>∃ss:List Int,us=[.tp (ss.map U.n)]/\R (.sh (.b (xR ss)))
abbrev aEu:List Str:=["thing"]
def aEd:aP ["thing"] ["thing"] (aF nJ):={}
def aNe(F:Fun K "are_steps" "are_steps" nJ f fd)(c_is_within:⇑2 "is_within" PW3 (spV fQ))(T:Txt mg):↥3 f fd ["thing"] (spV aG0):=by
 obtain⟨_,g_MOST_STEPS⟩:=T.c_MOST_STEPS;obtain⟨_,g_GREATEST_STEP⟩:=T.c_GREATEST_STEP;refine vfn F aEd (λcdv A outer s H E hr=>(aG (bJ (jW (mQ (dW (dD (kW .tp nofun T.isinstance T.tuple Nn (aB 0)))) (iD (dW (aF7 yK yK dC dC aC (bD aV cR T.len Eg (aO (aB 0) aX)) (dH g_MOST_STEPS)))))) (aH (aQ oV)) aU) (aH (aQ (bD uT (aDm rfl) T.all Ws (aO (oW (own:=["step"]) (cap:=[]) (aF nJ) aEu rfl rfl (λx h=>bY h) #v[3] rfl (vic (aHv (aB 0))) ↑(bW (i:=0) (~~~["step"]) rfl (Ex rfl) (Fy rfl)) (dI ⋯) ↑(aK c_is_within (hr.mono ⋯) rfl (aA (aB 0) (aA (uK (dH g_GREATEST_STEP)) (aA (dH g_GREATEST_STEP) aD))))) aX)))))) ?_;rintro _ R ⟨ss,rfl,q⟩;have e1:(ss.map U.n).length=ss.length:=Ac ..;have out:(decide (1<=ss.length) && decide (ss.length<=3))=false->R (.sh (.b false)):=λh=>by unfold xR at q;rw[h,Dh]at q;exact q
 refine⟨rfl,_,rfl,nofun,λ_=>⟨λh1=>⟨λh=>out ?_,λh=>?_⟩,λh=>?_⟩⟩
 ·simp at h;simp;lia
 ·simp at h h1;refine⟨∅,fJ (h:=λu=> .b (isIn u (-9) 9)) (λu hu k hk=>?_) ⟨ss.map λs=>isIn (.n s) (-9) 9,by rw[Cp,Cp];rfl,?_⟩⟩
  ·obtain⟨s,hs',rfl⟩:=Az.mp hu;exact⟨_,_,_,_,rfl,rfl,hk⟩
  ·refine Rbl q ?_;unfold xR;rw[decide_eq_true (show 1<=ss.length by lia),decide_eq_true (show ss.length<=3 by lia)];simp
 ·refine⟨λ_=>out ?_,nofun⟩;simp at h;simp;lia
def flt:Tm->Option Str
 |.num n=>bif isIn (.n n) (-1000000000000) 1000000000000 then none else some "number"
 |.take b ss=>bif isIn (.n b) 1 3 then(bif xR ss then none else some "steps")else some "back"
 |.rest _ y=>bif isIn (.n y) 1 1000000000 then none else some "by"
 |_=>none
def ff:Tm->Option Str
 |.num n=>flt (.num n)
 |.take b ss=>flt (.take b ss)
 |.rest a y=>(ff a).or (flt (.rest a y))
 |.cho a b c=>(ff a).or ((ff b).or (ff c))
 |.bin _ a b=>(ff a).or (ff b)
def aPq:∀t:Tm,ff t=((kids t).findSome? ff).or (flt t)
 |.num _=>rfl
 |.take _ _=>rfl
 |.rest a y=>by simp only[kids,Qq,ff];cases ff a<;>rfl
 |.cho a b c=>by simp only[kids,Qq,ff,flt];cases ff a<;>cases ff b<;>cases ff c<;>rfl
 |.bin _ a b=>by simp only[kids,Qq,ff,flt];cases ff a<;>cases ff b<;>rfl
def osU:Option Str->U
 |none=> .no
 |some x=> .s x
def qY(N:Cn)(C:Addr):Fv:=λus R=>∃t,us=[enc N t]/\cls N t=C/\R (.sh (osU (flt t)))
def vQ:aP ["self"] ["self"] (aF fZ):={}
def aCr(F:Fun K "own_fault" "Term.own_fault" fZ f fd)(hC:∀t,cls N t=C->flt t=none):↥4 f fd ["self"] (spV (qY N C)):=by
 refine bG.mono (vfn F vQ (λcdv A outer s H E(hr:cO 0 _)=>(aH (aQ iC))) ?_) ⋯;rintro _ R ⟨t,rfl,e,q⟩;rw[hC t e]at q;exact⟨rfl,q⟩
def tD:aP ["self"] ["self"] (aF eE):={}
def aJ9(F:Fun K "own_fault" "Number.own_fault" eE f fd)(cN:Cfl K N.num ["value"])(hC:∀t,cls N t=N.num->∃n,t=.num n)(c_is_within:⇑2 "is_within" PW3 (spV fQ))(T:Txt mg):↥4 f fd ["self"] (spV (qY N N.num)):=by
 obtain⟨_,g_GREATEST_NUMBER⟩:=T.c_GREATEST_NUMBER;refine vfn F tD (λcdv A outer s H E hr=>(aG (bJ (dD (aK c_is_within (hr.mono ⋯) rfl (aA (fP cN (aB 0)) (aA (uK (dH g_GREATEST_NUMBER)) (aA (dH g_GREATEST_NUMBER) aD))))) (aH (aQ iC)) aU) (aH (aQ aN)))) ?_;rintro _ R ⟨t,rfl,e,q⟩;obtain⟨n,rfl⟩:=hC t e;unfold flt at q;dsimp only at q;exact⟨rfl,rfl,.inl ⟨rfl,_,_,_,_,rfl,rfl,λz=>by rw[show isIn (.n n) (-1000000000000) 1000000000000=true from z]at q;exact q,λz=>by rw[show isIn (.n n) (-1000000000000) 1000000000000=false from z]at q;exact q⟩⟩
def vP:aP ["self"] ["self"] (aF fY):={}
def aJ6(F:Fun K "own_fault" "Take.own_fault" fY f fd)(cK:Cfl K N.take ["back","steps"])(hC:∀t,cls N t=N.take->∃b ss,t=.take b ss)(c_is_within:⇑2 "is_within" PW3 (spV fQ))(aEw:⇑3 "are_steps" ["thing"] (spV aG0))(T:Txt mg):↥4 f fd ["self"] (spV (qY N N.take)):=by
 obtain⟨_,g_GREATEST_BACK⟩:=T.c_GREATEST_BACK;refine vfn F vP (λcdv A outer s H E hr=>(aG (bJ (dW (dD (aK c_is_within (hr.mono ⋯) rfl (aA (fP cK (aB 0)) (aA aC (aA (dH g_GREATEST_BACK) aD)))))) (aH (aQ aN)) aU) (aG (bJ (dW (dD (aK aEw (hr.mono ⋯) rfl (aA (fP cK (aB 0)) aD)))) (aH (aQ aN)) aU) (aH (aQ iC))))) ?_;rintro _ R ⟨t,rfl,e,q⟩;obtain⟨b,ss,rfl⟩:=hC t e;unfold flt at q;dsimp only at q;refine⟨rfl,rfl,.inl ⟨rfl,_,_,_,_,rfl,rfl,λz=>?_,λz=>?_⟩⟩
 ·rw[show isIn (.n b) 1 3=false by simpa using z]at q;exact q
 ·rw[show isIn (.n b) 1 3=true by simpa using z]at q;refine⟨rfl,.inr ⟨by decide+kernel,.inl ⟨rfl,ss,rfl,λz=>?_,λz=>?_⟩⟩⟩
  ·rw[show xR ss=false by simpa using z]at q;exact q
  ·rw[show xR ss=true by simpa using z]at q;exact q
def vO:aP ["self"] ["self"] (aF fX):={}
def aKb(F:Fun K "own_fault" "Rest.own_fault" fX f fd)(cP:Cfl K N.rest ["one","by"])(hC:∀t,cls N t=N.rest->∃a y,t=.rest a y)(c_is_within:⇑2 "is_within" PW3 (spV fQ))(T:Txt mg):↥4 f fd ["self"] (spV (qY N N.rest)):=by
 obtain⟨_,g_GREATEST_DIVISOR⟩:=T.c_GREATEST_DIVISOR;refine vfn F vO (λcdv A outer s H E hr=>(aG (bJ (dD (aK c_is_within (hr.mono ⋯) rfl (aA (fP cP (aB 0)) (aA aC (aA (dH g_GREATEST_DIVISOR) aD))))) (aH (aQ iC)) aU) (aH (aQ aN)))) ?_;rintro _ R ⟨t,rfl,e,q⟩;obtain⟨a,y,rfl⟩:=hC t e;unfold flt at q;dsimp only at q;exact⟨rfl,rfl,.inr ⟨by decide+kernel,.inl ⟨rfl,_,_,_,_,rfl,rfl,λz=>by rw[z]at q;exact q,λz=>by rw[z]at q;exact q⟩⟩⟩
def fFF(N:Cn)(d:Nat):Fv:=λus R=>∃t,us=[enc N t]/\ht t<=d/\R (.sh (osU (ff t)))
def mO:aP ["term","part","fault"] ["term"] (aF jJ):={}
def aWv(F:Fun K "first_fault" "first_fault" jJ f fd)(nR:⇑(d+4) "first_fault" ["term"] (spV (fFF N d)))(cV:jN P w K mg base N 1 "inner" (iH N))(aEq:jN P w K mg base N 4 "own_fault" (qY N)):↥(d+5) f fd ["term"] (spV (fFF N (d+1))):=by
 refine vfn F mO (λcdv A outer s H E hr=>(aG (iY Cu rfl (cY (cL (aB 0) cV (hr.mono ∅))) (gA (i:=1) mO.nd) (aG (aZ (i:=2) mO.nd (aK nR (hr.mono ∅) rfl (aA (aB 1) aD))) (aH (bJ (aEm (aB 2)) (aH (vZ 2)) aU)))) (aH (aQ (cL (aB 0) aEq (hr.mono ∅)))))) ?_;rintro _ R ⟨t,rfl,hd,q⟩;rw[aPq]at q;refine⟨rfl,fB t #v[3] ⟨t,rfl,rfl,?_⟩⟩;refine eO (λl ρ=>∃(ks:List Tm)(x y:Sl),l=ks.map (enc N)/\(∀k∈ks,k∈kids t)/\R (.sh (osU ((ks.findSome? ff).or (flt t))))/\ρ=[.sh (enc N t),x,y]) ?_ ?_ ⟨kids t,_,_,rfl,λ_ h=>h,q,rfl⟩
 ·rintro ρ ⟨ks,x,y,el,hk,q,rfl⟩;obtain rfl:=Cz.mp el.symm;exact fB t #v[3] ⟨t,rfl,rfl,q⟩
 ·rintro u r ρ ⟨ks,x,y,el,hk,q,rfl⟩ ih;obtain⟨k,ks,rfl,rfl,rfl⟩:=Jk.mp el.symm;have kk:=hk k Ah;refine⟨k,rfl,sI t hd k kk,?_⟩;rw[List.findSome?_cons]at q;cases e:ff k with
  |none=>
   rw[e]at q;exact⟨nofun,λ_=>ih _ ⟨ks,_,_,rfl,λj hj=>hk j (Ag _ hj),q,rfl⟩⟩
  |some x=>
   rw[e]at q;exact⟨λ_=>q,nofun⟩
theorem aMn{P:Ap}{w:Bh}(x:Tk):∀l:List Tk,l.Pairwise (λx y=>pL x y=true)->∃m:List Tk,m.Pairwise (λx y=>pL x y=true)/\∀y,y∈m↔y=x∨y∈l
 | [],_=>⟨[x],Ia ..,by simp⟩
 |a::l,h=>by
  have O:=aIl (prog:=P) (w:=w) λk v hv=>let⟨t,e⟩:=Ej hv;⟨_,_,e⟩;have ha:=Er.mp h;by_cases e:x=a
  ·exact⟨a::l,h,λy=>by simp[e]⟩
  rcases O.tot x a e with q|q
  ·refine⟨x::a::l,Er.mpr ⟨λy hy=>?_,h⟩,by simp⟩;rcases Ao.mp hy with rfl|hy
   ·exact q
   ·exact O.trans _ _ _ q (ha.1 y hy)
  ·obtain⟨m,h1,h2⟩:=aMn (P:=P) (w:=w) x l ha.2;refine⟨a::m,Er.mpr ⟨λy hy=>?_,h1⟩,λy=>?_⟩
   ·rcases (h2 y).mp hy with rfl|hy
    ·exact q
    ·exact ha.1 y hy
   ·rw[Ao,h2,Ao];exact or_left_comm
def aOp(P:Ap)(w:Bh)(t:Tm):∃ys,fH t ys:=by
 unfold fH;generalize raw t=l;induction l with
 |nil=>exact⟨[],Jl,by simp⟩
 |cons x l ih=>
  obtain⟨m,h1,h2⟩:=ih;obtain⟨m',h3,h4⟩:=aMn (P:=P) (w:=w) x m h1;exact⟨m',h3,λy=>by rw[h4,h2,Ao]⟩
theorem tK:∀{t:Tm},ff t=none->∀x∈raw t,xR x.2=true/\isIn (.n x.1) 1 3=true
 |.num _,_,_,h=>nomatch h
 |.take b ss,e,x,h=>by
  rw[Br.mp h];simp only[ff,flt]at e;cases q:isIn (.n b) 1 3<;>rw[q]at e
  ·cases e
  ·cases q2:xR ss<;>rw[q2]at e
   ·cases e
   ·exact⟨rfl,rfl⟩
 |.rest a _,e,x,h=>tK (Iu.mp e).1 x h
 |.cho a b c,e,x,h=>by
  have e:=Iu.mp e;have e':=Iu.mp e.2;simp only[raw,Cd]at h;rcases h with h|h|h
  ·exact tK e.1 x h
  ·exact tK e'.1 x h
  ·exact tK e'.2 x h
 |.bin _ a b,e,x,h=>by
  have e:=Iu.mp e;simp only[raw,Cd]at h;rcases h with h|h
  ·exact tK e.1 x h
  ·exact tK e.2 x h
def aOj{ss:List Int}(h:xR ss=true):ss.length∈[1,2,3]:=by
 unfold xR at h;simp only[Dp,decide_eq_true_eq]at h;simp only[Ao,Ck,or_false]
 lia
variable {f C CT fT:Addr}{fd fdT:Bb}
abbrev Fx:=List U->(Sl->Prop)->XU->Prop
def Lin(t:Tm)(n:Nat):Prop:=∀x∈raw t,x.2.length=n
def aDq(N:Cn)(CT:Addr)(d:Nat):Fx:=λus R T=>∃t,us=[enc N t]/\ht t<=d/\Few t/\(∀x∈raw t,x.2.length∈[1,2,3])/\(raw t=[]->R (.sh .no))/\(∀n:Nat,raw t≠[]->Lin t n->R (.sh (.n n)))/\((¬ ∃n,Lin t n)->T CT (.str "lines"))
abbrev aGi:List Str:=["term","counts"]
def yP:aP ["term","counts"] ["term"] (aF pY):={}
def aJ8(F:Fun K "lines_of" "lines_of" pY f fd)(lD:jN P w K mg base N (d+1) "takes" (pI N d))(NG_NoTerm:Ng K mg "NoTerm" CT fT)(GT:↥1 fT fdT ["self","at"] (rP K))(bT:Binds K fdT ["self","at"] [])(T:Txt mg):bG P w K mg base (CXe P w) (d+3) f fd ["term"] (spX (aDq N CT d)):=by
 refine aYm F yP (λcdv A outer s H E hW hr=>(mR (aYr (aZ (i:=1) yP.nd (aO3 rfl T.sorted T.set (aO (oW (own:=["take"]) (cap:=[]) (aF pY) aGi rfl rfl (λx h=>bY h) #v[3] rfl (vic (cY (cL (aB 0) lD (hr.mono ∅)))) ↑(bW (i:=0) (~~~["take"]) rfl (Ex rfl) (Fy rfl)) (dI ⋯) ↑(bD aV cR T.len Eg (aO (bQ bF bO (aB 0) aC) aX))) aX)))) (mR (aGd (bA vJ dC (bD aV cR T.len Eg (aO (aB 1) aX)) aC) (qH (rR NG_NoTerm GT bT (hr.mono ∅) rfl rfl hW aN)) (aC0 aU)) (aC0 (aG (bJ (bA (bM (huD hr)) bN (bD aV cR T.len Eg (aO (aB 1) aX)) aC) (aH (aQ iC)) aU) (aH (aQ (bQ bF bO (aB 1) aC)))))))) ?_;rintro _ R T ⟨t,rfl,hd,fw,h3,q0,q1,q2⟩;refine⟨rfl,fB t #v[3] ⟨t,rfl,rfl,hd,fw,λys ik=>?_⟩⟩;have yl:=vV fw ik;refine⟨by rw[Ac];lia,fJ (h:=λu=>match u with|.tp [_,.tp l]=> .n l.length|u=>u) (λu hu k hk=>?_) ?_⟩
 ·obtain⟨y,hy,rfl⟩:=Az.mp hu;exact⟨_,rfl,hk⟩
 ·refine⟨ys.map λy=>y.2.length,?_,λn hn=>?_,λzs sub hz=>?_⟩
  ·rw[Jx,Cp,Cp];refine congrArg (λl=>[U.ls l]) (Hr λy _=>?_);show U.n ((y.2.map U.n).length:Nat)=_;rw[Ac];rfl
  ·obtain⟨y,hy,rfl⟩:=Az.mp hn;exact h3 y ((ik.2 y).mp hy)
  ·have hz':∀z,z∈zs↔ ∃x∈raw t,x.2.length=z:=λz=>(hz z).trans (by rw[Az];exact⟨λ⟨y,h,e⟩=>⟨y,(ik.2 y).mp h,e⟩,λ⟨y,h,e⟩=>⟨y,(ik.2 y).mpr h,e⟩⟩);have none_:zs=[]->raw t=[]:=λe=>Gf.mpr λx hx=>by
    have:=(hz' _).mpr ⟨x,hx,rfl⟩;rw[e]at this;cases this
   have one_:∀n,zs=[n]->raw t≠[]/\Lin t n:=λn e=>⟨λz=>(by
    obtain⟨x,hx,_⟩:=(hz' n).mp (by rw[e];exact Ah);rw[z]at hx;cases hx),λx hx=>by
    have:=(hz' _).mpr ⟨x,hx,rfl⟩;rw[e]at this;exact Br.mp this⟩
   have two_:∀a b r,zs=a::b::r->a≠b->¬ ∃n,Lin t n:=λa b r e n ⟨k,l⟩=>by
    obtain⟨x,hx,ex⟩:=(hz' a).mp (by rw[e];simp);obtain⟨y,hy,ey⟩:=(hz' b).mp (by rw[e];simp);exact n (ex.symm.trans ((l x hx).trans ((l y hy).symm.trans ey)))
   simp only[fO,Ao,Ck,or_false]at sub;rcases sub with e|e|e|e|e|e|e|e
   ·rw[e];exact⟨nofun,λ_=>⟨trivial,trivial,λ_=>q0 (none_ e),nofun⟩⟩
   iterate 3
    ·rw[e];exact⟨nofun,λ_=>⟨trivial,trivial,nofun,λ_=>⟨_,rfl,q1 _ (one_ _ e).1 (one_ _ e).2⟩⟩⟩
   all_goals
    rw[e];exact⟨λ_=>⟨_,rfl,q2 (two_ _ _ _ e ⋯)⟩,nofun⟩
def chk(t:Tm)(ys:List Tk)(lin:Prop) [Decidable lin]:Option Str:=if lin then(if 12<ht t then some "depth" else if 60<fV t then some "parts" else if 6<ys.length then some "takes" else none)else some "lines"
open Classical in
def aH9(N:Cn)(CT:Addr)(d:Nat):Fx:=λus R T=>∃t,us=[enc N t]/\ht t<=d/\fV t<=200/\Few t/\(∀x,ff t=some x->T CT (.str x))/\(ff t=none->∀ys,fH t ys->match chk t ys (∃n,Lin t n)with
 |none=>R (.sh .no)
 |some x=>T CT (.str x))
def tO:aP ["term","fault"] ["term"] (aF pX):={}
def aJ3(F:Fun K "check_term" "check_term" pX f fd)(nR:⇑(d+4) "first_fault" ["term"] (spV (fFF N d)))(tW:Cal P w K mg base (CXe P w) (d+3) "lines_of" ["term"] (spX (aDq N CT d)))(lD:jN P w K mg base N (d+1) "takes" (pI N d))(aC3:jN P w K mg base N (d+1) "depth" (aE8 N ht d))(aC4:jN P w K mg base N (d+1) "parts" (aE8 N fV d))
  (NG_NoTerm:Ng K mg "NoTerm" CT fT) (GT:↥1 fT fdT ["self","at"] (rP K)) (bT:Binds K fdT ["self","at"] []) (T:Txt mg):bG P w K mg base (CXe P w) (d+5) f fd ["term"] (spX (aH9 N CT d)):=by
 obtain⟨_,g_MOST_DEPTH⟩:=T.c_MOST_DEPTH;obtain⟨_,g_MOST_PARTS⟩:=T.c_MOST_PARTS;obtain⟨_,g_MOST_TAKES⟩:=T.c_MOST_TAKES;refine aYm F tO (λcdv A outer s H E hW hr=>(mR (aYr (aZ (i:=1) tO.nd (aK nR (hr.mono ∅) rfl (aA (aB 0) aD)))) (mR (aGd (aEm (aB 1)) (qH (rR NG_NoTerm GT bT (hr.mono ∅) rfl rfl hW (aB 1))) (aC0 aU)) (mR (aYq (aBg tW (hr.mono ∅) (aSp rfl hW) (aA (aB 0) aD))) (mR (aGd (bA vJ dC (cL (aB 0) aC3 (hr.mono ∅)) (dH g_MOST_DEPTH)) (qH (rR NG_NoTerm GT bT (hr.mono ∅) rfl rfl hW aN)) (aC0 aU)) (mR (aGd (bA vJ dC (cL (aB 0) aC4 (hr.mono ∅)) (dH g_MOST_PARTS)) (qH (rR NG_NoTerm GT bT (hr.mono ∅) rfl rfl hW aN)) (aC0 aU)) (qH (aGd (bA vJ dC (bD aV cR T.len Eg (aO (cL (aB 0) lD (hr.mono ∅)) aX)) (dH g_MOST_TAKES)) (qH (rR NG_NoTerm GT bT (hr.mono ∅) rfl rfl hW aN)) (aC0 aU))))))))) ?_;rintro _ R T ⟨t,rfl,hd,hp,fw,qf,q⟩;refine⟨rfl,t,rfl,hd,?_⟩;cases e:ff t with
 |some x=>exact⟨λ_=>⟨_,rfl,qf x e⟩,nofun⟩
 |none=>
 refine⟨nofun,λ_=>?_⟩;obtain⟨ys,ik⟩:=aOp P w t;have q:=q e ys ik;unfold chk at q;refine(λ(rest:(∃n,Lin t n)->(?R:Prop))=> ?main) ?restp
 case main=>
  refine⟨t,rfl,hd,fw,λx hx=>aOj (tK e x hx).1,λz=>?_,λn _ l=>?_,λnl=>?_⟩
  ·exact rest ⟨0,λx hx=>(by rw[z]at hx;cases hx)⟩
  ·exact rest ⟨n,l⟩
  rw[if_neg nl]at q;exact q
 case restp=>
  intro l;rw[if_pos l]at q;refine fB t #v[3] ⟨t,rfl,rfl,hd,hp,λz=>?_,λz=>?_⟩
  ·rw[if_pos (by have:=of_decide_eq_true z;lia)]at q;exact⟨_,rfl,q⟩
  rw[if_neg (by have:=of_decide_eq_false z;lia)]at q;refine fB t #v[3] ⟨t,rfl,rfl,hd,hp,λz=>?_,λz=>?_⟩
  ·rw[if_pos (by have:=of_decide_eq_true z;lia)]at q;exact⟨_,rfl,q⟩
  rw[if_neg (by have:=of_decide_eq_false z;lia)]at q;refine fB t #v[3] ⟨t,rfl,rfl,hd,fw,λys' ik'=>?_⟩;rw[ik'.uniq ik];refine⟨λz=>?_,λz=>?_⟩
  ·rw[if_pos (by have:=of_decide_eq_true z;rw[Ac]at this;lia)]at q;exact⟨_,rfl,q⟩
  ·rw[if_neg (by have:=of_decide_eq_false z;rw[Ac]at this;lia)]at q;exact q
def nC(n m:Int):U->Bool
 |.ls l=>decide ((l.length:Int)=n) && l.all λx=>isIn x 0 (m-1)
 |_=>false
def aFu:U->Prop
 |.ls l=>l.length<=10000/\∀x∈l,∃t,tyU x=some t
 |u=>∃t,tyU u=some t
def aL2:Fv:=λus R=>∃(u:U)(n m:Int),us=[u,.n n,.n m]/\aFu u/\R (.sh (.b (nC n m u)))
def aIj{u:U}{t:Tg}(h:tyU u=some t)(n:∀l,u≠.ls l):isT t .ls=false:=by
 unfold tyU at h;split at h<;>cases h<;>first|rfl|exact absurd rfl (n _)
def aMx{u:U}(g:aFu u)(nl:∀l,u≠.ls l):∃t,tyU u=some t/\nC n m u=false:=by
 cases u with
 |ls l=>exact absurd rfl (nl l)
 |_=>exact g.imp λt h=>⟨h,rfl⟩
abbrev aLf:List Str:=["thing","many","modulus"]
def aKu:aP ["thing","many","modulus"] ["thing","many","modulus"] (aF vN):={}
def aM7(F:Fun K "is_row" "is_row" vN f fd)(c_is_within:⇑2 "is_within" PW3 (spV fQ))(T:Txt mg):↥3 f fd ["thing","many","modulus"] (spV aL2):=by
 refine vfn F aKu (λcdv A outer s H E hr=>(aG (bJ (jW (mQ (dW (dD (kW .ls nofun T.isinstance T.list Jt (aB 0)))) (iD (bA (jZ (huD hr)) bN (bD aV cR T.len Eg (aO (aB 0) aX)) (aB 1))))) (aH (aQ oV)) aU) (aH (aQ (bD uT (aDm rfl) T.all Ws (aO (oW (own:=["worth"]) (cap:=[("modulus",2)]) (aF vN) aLf rfl rfl (λx h=>bY h) #v[3] rfl (vic (cY (aB 0))) ↑(bW (i:=0) (~~~["worth","modulus"]) rfl (Ex rfl) (Fy rfl)) (dI ⋯) ↑(aK c_is_within (hr.mono ⋯) rfl (aA (aB 0) (aA aC (aA (bB mD dC (aB 1) aC) aD))))) aX)))))) ?_;rintro _ R ⟨u,n,m,rfl,g,q⟩;by_cases hl:∃l,u=.ls l
 ·obtain⟨l,rfl⟩:=hl;obtain⟨g1,g2⟩:=g;refine⟨rfl,_,rfl,nofun,λ_=>⟨trivial,trivial,λz=>?_,λz=>?_⟩⟩
  ·have z:(!decide ((l.length:Int)=n))=true:=z;rw[show nC n m (.ls l)=(decide ((l.length:Int)=n) && l.all λx=>isIn x 0 (m-1))from rfl]at q;rw[show decide ((l.length:Int)=n)=false by simpa using z,Dh]at q;exact q
  ·have z:(!decide ((l.length:Int)=n))=false:=z;rw[show nC n m (.ls l)=(decide ((l.length:Int)=n) && l.all λx=>isIn x 0 (m-1))from rfl]at q;rw[show decide ((l.length:Int)=n)=true by simpa using z,Gk]at q;refine⟨g1,fJ (h:=λx=> .b (isIn x 0 (m-1))) (λx hx k hk=>?_) ⟨l.map λx=>isIn x 0 (m-1),by rw[Cp];rfl,Rbl q (by simp[Oj])⟩⟩;obtain⟨t,ht⟩:=g2 x hx;exact⟨_,t,_,_,rfl,ht,hk⟩
 ·have nl:∀l,u≠.ls l:=λl e=>hl ⟨l,e⟩;obtain⟨t,ht,e⟩:=aMx (n:=n) (m:=m) g nl;rw[e]at q;have f:=aIj ht nl;exact⟨rfl,t,ht,λ_=>⟨λ_=>q,nofun⟩,λz=>by rw[f]at z;cases z⟩
def dF(k n m:Int):U->Bool
 |.ls l=>decide ((l.length:Int)=k) && l.all λx=>nC n m x
 |_=>false
def xK:U->Prop
 |.ls l=>l.length<=10000/\∀x∈l,aFu x
 |u=>∃t,tyU u=some t
def aE7:Fv:=λus R=>∃(u:U)(k n m:Int),us=[u,.n k,.n n,.n m]/\xK u/\R (.sh (.b (dF k n m u)))
def aIk{u:U}{k n m:Int}(g:xK u)(nl:∀l,u≠.ls l):∃t,tyU u=some t/\dF k n m u=false:=by
 cases u with
 |ls l=>exact absurd rfl (nl l)
 |_=>exact g.imp λt h=>⟨h,rfl⟩
abbrev aGh:List Str:=["thing","deep","many","modulus"]
def aFw:aP ["thing","deep","many","modulus"] ["thing","deep","many","modulus"] (aF pW):={}
def aHc(F:Fun K "are_rows" "are_rows" pW f fd)(aLm:⇑3 "is_row" ["thing","many","modulus"] (spV aL2))(T:Txt mg):↥4 f fd ["thing","deep","many","modulus"] (spV aE7):=by
 refine vfn F aFw (λcdv A outer s H E hr=>(aG (bJ (jW (mQ (dW (dD (kW .ls nofun T.isinstance T.list Jt (aB 0)))) (iD (bA (jZ (huD hr)) bN (bD aV cR T.len Eg (aO (aB 0) aX)) (aB 1))))) (aH (aQ oV)) aU) (aH (aQ (bD uT (aDm rfl) T.all Ws (aO (oW (own:=["row"]) (cap:=[("many",2),("modulus",3)]) (aF pW) aGh rfl rfl (λx h=>bY h) #v[3] rfl (vic (cY (aB 0))) ↑(bW (i:=0) (~~~["row","many","modulus"]) rfl (Ex rfl) (Fy rfl)) (dI ⋯) ↑(aK aLm (hr.mono ⋯) rfl (aA (aB 0) (aA (aB 1) (aA (aB 2) aD))))) aX)))))) ?_;rintro _ R ⟨u,k,n,m,rfl,g,q⟩;by_cases hl:∃l,u=.ls l
 ·obtain⟨l,rfl⟩:=hl;obtain⟨g1,g2⟩:=g;refine⟨rfl,_,rfl,nofun,λ_=>⟨trivial,trivial,λz=>?_,λz=>?_⟩⟩
  ·have z:(!decide ((l.length:Int)=k))=true:=z;rw[show dF k n m (.ls l)=(decide ((l.length:Int)=k) && l.all λx=>nC n m x)from rfl]at q;rw[show decide ((l.length:Int)=k)=false by simpa using z,Dh]at q;exact q
  ·have z:(!decide ((l.length:Int)=k))=false:=z;rw[show dF k n m (.ls l)=(decide ((l.length:Int)=k) && l.all λx=>nC n m x)from rfl]at q;rw[show decide ((l.length:Int)=k)=true by simpa using z,Gk]at q;refine⟨g1,fJ (h:=λx=> .b (nC n m x)) (λx hx k hk=>?_) ⟨l.map λx=>nC n m x,by rw[Cp];rfl,Rbl q (by simp[Oj])⟩⟩;exact⟨_,_,_,rfl,g2 x hx,hk⟩
 ·have nl:∀l,u≠.ls l:=λl e=>hl ⟨l,e⟩;obtain⟨t,ht,e⟩:=aIk (k:=k) (n:=n) (m:=m) g nl;rw[e]at q;have f:=aIj ht nl;exact⟨rfl,t,ht,λ_=>⟨λ_=>q,nofun⟩,λz=>by rw[f]at z;cases z⟩
def iI(ls:List (List Int)):List U:=ls.map λl=> .ls (l.map U.n)
def dpt(ys:List Tk):Int:=if ys=[]then 1 else ys.foldl (λm y=>max m y.1) 0
def aGw{m:Int}(hp:∀y∈ys,0<=y.1)(hm:m∈ys.map (·.1))(ha:∀a∈ys.map (·.1),a<=m):dpt ys=m:=by
 have key:∀(l:List Tk)(a:Int),(∀y∈l,y.1<=m)->a<=m->l.foldl (λm y=>max m y.1) a<=m/\a<=l.foldl (λm y=>max m y.1) a/\∀y∈l,y.1<=l.foldl (λm y=>max m y.1) a:=by
  intro l;induction l with
  |nil=>exactλa _ h=>⟨h,Ua _,λ_ z=>nomatch z⟩
  |cons x l ih=>
   intro a h1 h2;have hx:=h1 x Ah;obtain⟨g1,g2,g3⟩:=ih (max a x.1) (λy hy=>h1 y (Ag _ hy)) ∅;refine⟨g1,by rw[Lo];lia,λy hy=>?_⟩;rw[Lo];rcases Ao.mp hy with rfl|hy
   ·lia
   ·exact g3 y hy
 obtain⟨y,hy,rfl⟩:=Az.mp hm;have h0:=hp y hy;obtain⟨g1,g2,g3⟩:=key ys 0 (λz hz=>ha _ (Az.mpr ⟨z,hz,rfl⟩)) h0;unfold dpt;rw[if_neg (by intro z;rw[z]at hy;cases hy)];have:=g3 y hy
 lia
def aSc(C:Addr):Fv:=λus R=>∃(ys:List Tk)(ns:List Str)(ws:List U),us=[.ob C ("taken"::ns) (.ls (ys.map tkU)::ws)]/\ys.length<=17/\(∀y∈ys,0<=y.1)/\R (.sh (.n (dpt ys)))
abbrev aGf:List Str:=["self"]
def aFv:aP ["self"] ["self"] (aF pP):={}
def aPy(F:Fun K "deep" "Job.deep" pP f fd)(cJ:Cfl K C ["taken"])(T:Txt mg):↥1 f fd ["self"] (spV (aSc C)):=by
 refine vfn F aFv (λcdv A outer s H E hr=>(aH (aQ (zR rfl T.max (aO (oW (own:=["take"]) (cap:=[]) (aF pP) aGf rfl rfl (λx h=>bY h) #v[3] rfl (vic (cY (fP cJ (aB 0)))) ↑(bW (i:=0) (~~~["take"]) rfl (Ex rfl) (Fy rfl)) (dI ⋯) ↑(bQ bF bO (aB 0) aC)) aX) aC)))) ?_;rintro _ R ⟨ys,ns,ws,rfl,yl,hp,q⟩;have e:(ys.map tkU).map (λu=>match u with|.tp (x::_)=>x|u=>u)=(ys.map (·.1)).map U.n:=by rw[Cp,Cp];rfl
 refine⟨rfl,rfl,.inl ⟨rfl,by rw[Ac];lia,fJ (h:=λu=>match u with|.tp (x::_)=>x|u=>u) (λu hu k hk=>?_) ?_⟩⟩
 ·obtain⟨y,hy,rfl⟩:=Az.mp hu;exact⟨_,rfl,hk⟩
 ·rw[Jx,e];refine⟨_,rfl,λz=>?_,λm hm ha=>?_⟩
  ·have z:=Cz.mp z;subst z;exact q
  ·rw[aGw hp hm ha]at q;exact q
inductive aH0(us:List U)(R:(List Str->List U->Prop)):Prop
 |mk (ns:List Int) (rs:List Rim) (q0_:us=[.ls (ns.map U.n),.ls (rs.map Rim.u)]) (q1_:aB2 ns) (q2_:rs.length=ns.length) (q3_:(∀r∈rs,r.ok)) (q4_:R ["sizes","rims"] [.ls (ns.map U.n),.ls (rs.map Rim.u)]):aH0 us R
def aGz:List U->(List Str->List U->Prop)->Prop:=λus R=>aH0 us R
def aDu(ns:List Int):U.dts 5 (ns.map U.n):=by
 induction ns with
 |nil=>trivial
 |cons r rs ih=>exact⟨trivial,ih⟩
def aQq(rs:List Rim):U.dts 5 (rs.map Rim.u):=by
 induction rs with
 |nil=>trivial
 |cons r rs ih=>exact⟨by cases r<;>first|exact⟨trivial,trivial⟩|exact⟨trivial,trivial,trivial⟩,ih⟩
def xN:aP ["self","sizes","rims"] ["self","sizes","rims"] (aF kE):={}
def aM5(F:Fun K "__init__" "Grid.__init__" kE f fd)(cG:Cfl K C ["sizes","rims"])(aBi:⇑4 "check_lines" ["sizes","rims"] (spV aLz))(wM:⇑1 "product" ["sizes"] (spV aL6))(T:Txt mg):↥5 f fd ["self","sizes","rims"] (spI C aGz):=by
 obtain⟨_,g_MOST_PLACES⟩:=T.c_MOST_PLACES;refine F.ok xN (λvs H Q E h=>?_) (λcdv A outer s H vs Q E hr h=>?_)
 ·obtain⟨x,dx,vs',H1,W,B,us,R,rfl,_,_,_,_,ds,⟨ns,rs,rfl,_⟩,_⟩:=h;rw[Aq, <-ds.length];rfl
 ·obtain⟨x,dx,vs',H1,W,B,us,R,rfl,n1,hx,s1,eb,ds,⟨ns,rs,rfl,g,el,rk,hR⟩,q⟩:=h;obtain⟨v1,_,rfl,d1,v2,r,rfl,d2,dr⟩:=ds;obtain rfl:r=[]:=dr;have ee:∀{H'},Fw W H1 H'->EE W B H' [.no,.sh (.ls (ns.map U.n)),.sh (.ls (rs.map Rim.u))] [some (.ref x),some v1,some v2]:=λfw=>pG (mX (DU.mono (eb.keep fw) _ d1) (mX (DU.mono (eb.keep fw) _ d2) (aLu (eb.to fw))));have nw:¬W x:=λz=>eb.dm x (eb.wb x z) n1;have nB:¬B x:=eb.nw n1;refine⟨_,(bC (lG (VE.can (aK aBi (hr.mono ⋯) rfl (aA (aB 1) (aA (aB 2) aD))))) (bC (vK (VC.can (bA vJ dC (aK wM (hr.mono ⋯) rfl (aA (aB 1) aD)) (dH g_MOST_PLACES))) (cI aFn) nF) (bC (eV (pv 0) (VE.can (dX (jB rfl) sE T.list Jt (aO (aB 1) aX))) rfl) (cI (eV (pv 0) (VE.can (dX (jB rfl) sE T.list Jt (aO (aB 2) aX))) rfl))))),?_⟩;have f0:=eb.same s1;refine aF4 (R:=λ_=>True) (ee f0) ⟨ns,rs,rfl,g.ok,g.l1,g.l3,el,rk,trivial⟩ λs v H2 _ w2 _=>?_;have f2:=f0.trans w2;refine aBe (R:=λc=>c=false) (ee f2) ⟨ns,rfl,g.ok,g.l3,decide_eq_false (by have:=g.mn;lia)⟩ λc H3 hc w3=>?_;subst hc;refine yX ?_;have f3:=f2.trans w3;have hx3:H3 x=some (.ins C dx []):=w3.fr _ _ nw (w2.fr _ _ nw hx);refine aF4 (R:=λs=>s=.ow (ns.map U.n)) (ee f3) rfl λs v4 H4 hs w4 r4=>?_;subst hs;obtain⟨p4,x4,rfl,n4,h4,d4⟩:=r4;have f4:=f3.trans w4;have hx4:=w4.fr _ _ nw hx3;refine⟨_,rfl,x,C,dx,_,rfl,hx4,cG.cl,cG.na _ (by simp),⋯,?_⟩;have f5:=f4.upd (o:=.ins C dx (jU "sizes" (.ref p4) [])) n1 nw;have hx5:upd H4 x (.ins C dx (jU "sizes" (.ref p4) [])) x=_:=aM;have h5:=gH (B:=B) (o:=.ins C dx (jU "sizes" (.ref p4) [])) hx4 p4 _ (λz=>(eb.to f3).dm p4 z n4) h4 (.inr ⟨_,rfl⟩);have d5:=DUs.data (gH (o:=.ins C dx (jU "sizes" (.ref p4) [])) hx4) 5 _ (aDu ns) d4.less;revert f5 hx5 h5 d5;generalize upd H4 x (.ins C dx (jU "sizes" (.ref p4) []))=H5;intro f5 hx5 h5 d5;refine aF4 (R:=λs=>s=.ow (rs.map Rim.u)) (ee f5) rfl λs v6 H6 hs w6 r6=>?_;subst hs;obtain⟨p6,x6,rfl,n6,h6,d6⟩:=r6;have hx6:=w6.fr _ _ nw hx5;refine⟨_,rfl,x,C,dx,_,rfl,hx6,cG.cl,cG.na _ (by simp),by show(1:Nat)<1000;decide,?_⟩;have e6:=eb.to (f5.trans w6);refine q ["sizes","rims"] _ [.ref p4,.ref p6] _ hR ((f5.trans w6).upd n1 nw) aM rfl ⟨_,_,rfl,⟨p4,x4,rfl,(eb.to f3).nw n4,?_,?_⟩,_,_,rfl,⟨p6,x6,rfl,(eb.to f5).nw n6,?_,?_⟩,rfl⟩
  ·exact gH (B:=B) hx6 p4 _ ((eb.to f3).nw n4) (w6.fr _ _ (λz=>(eb.to f3).nw n4 (eb.wb _ z)) h5) (.inr ⟨_,rfl⟩)
  ·exact DUs.data (gH hx6) 5 _ (aDu ns) (DUs.mono ((eb.to f5).keep w6) _ d5)
  ·exact gH (B:=B) hx6 p6 _ ((eb.to f5).nw n6) h6 (.inr ⟨_,rfl⟩)
  ·exact DUs.data (gH hx6) 5 _ (aQq rs) d6.less
def aHn(ys:List Tk):U.dts 7 (ys.map tkU):=by
 induction ys with
 |nil=>trivial
 |cons y ys ih=>exact⟨⟨trivial,aDu y.2,trivial⟩,ih⟩
def aLw(i j:Int):U.eq (.n i) (.n j)=(i==j):=rfl
def toI:U->Int
 |.v (.int i)=>i
 |_=>0
def dR{u:U}{a b:Int}(h:isIn u a b=true):u=.n (toI u)/\a<=toI u/\toI u<=b:=by
 unfold isIn at h;split at h
 ·simp only[Dp,decide_eq_true_eq]at h;exact⟨rfl,h⟩
 ·cases h
def aJs{u:U}(h:nC n m u=true):∃l:List Int,u=.ls (l.map U.n)/\(l.length:Int)=n:=by
 cases u with
 |ls l=>
  have h:(decide ((l.length:Int)=n) && l.all λx=>isIn x 0 (m-1))=true:=h;simp only[Dp,decide_eq_true_eq,Ou]at h;refine⟨l.map toI,?_,by rw[Ac];exact h.1⟩;rw[Cp];refine congrArg U.ls ?_;refine(List.map_id l).symm.trans (Hr λx hx=>?_);exact(dR (h.2 x hx)).1
 |_=>cases h
def xZ{k n m:Int}{u:U}(h:dF k n m u=true):∃ls:List (List Int),u=.ls (iI ls)/\(ls.length:Int)=k/\∀l∈ls,(l.length:Int)=n:=by
 cases u with
 |ls l=>
  have h':(decide ((l.length:Int)=k) && l.all λx=>nC n m x)=true:=h;clear h;simp only[Dp,decide_eq_true_eq,Ou]at h';obtain⟨h1,h2⟩:=h';have:∃ls:List (List Int),l=iI ls/\∀x∈ls,(x.length:Int)=n:=by
   clear h1;induction l with
   |nil=>exact⟨[],rfl,nofun⟩
   |cons x l ih=>
    obtain⟨ls,e,hl⟩:=ih λy hy=>h2 y (Ag _ hy);obtain⟨r,er,hr⟩:=aJs (h2 x Ah);exact⟨r::ls,by rw[er,e];rfl,λy hy=>by
     rcases Ao.mp hy with rfl|hy
     ·exact hr
     ·exact hl y hy⟩
  obtain⟨ls,rfl,hl⟩:=this;exact⟨ls,rfl,by rw[<-h1];unfold iI;rw[Ac],hl⟩
 |_=>cases h
theorem aFh{W B B':Addr->Prop}{H H':Hp}:∀{ls:List (List Int)}{qs:List Addr},LlR W B H (ls.map λr=>r.map U.n) qs->(∀q∈qs,H' q=H q)->LlR W B' H' (ls.map λr=>r.map U.n) qs
 | [],_,.nil,_=> .nil
 |_::_,_,.cons h d t,k=>by
  rw[DUs.intsV d]at h;exact .cons ((k _ Ah).trans h) DUs.mapInts (aFh t λq hq=>k q (Ag _ hq))
open Classical in
noncomputable def uW(ns:List Int)(t:Tm)(ys:List Tk)(mU rU fU:U):Option Str:=
 if raw t≠[]/\¬Lin t ns.length then some "lines" else if isIn mU 2 1000000000=false then some "modulus" else if isIn rU 0 12=false∨120<toI rU*bL ns then some "rounds" else if dF (dpt ys) (bL ns) (toI mU) fU=false then some "first" else none
def jNm:List Str:=["taken","grid","term","modulus","rounds"]
def jUs(N:Cn)(CG:Addr)(ns:List Int)(rs:List Rim)(t:Tm)(ys:List Tk)(m r:Int):List U:=[.ls (ys.map tkU),grU CG ns rs,enc N t,.n m,.n r]
open Classical in
inductive aV2(N:Cn)(CG CJ CT CN:Addr)(d:Nat)(us:List U)(R:(Own->Prop))(T:XU):Prop
 |mk (ns:List Int) (rs:List Rim) (t:Tm) (mU rU fU:U) (q0_:us=[grU CG ns rs,enc N t,mU,rU,fU]) (q1_:aB2 ns) (q2_:ht t<=d) (q3_:fV t<=200) (q4_:Few t) (q5_:(∃a,tyU mU=some a)) (q6_:(∃a,tyU rU=some a)) (q7_:xK fU) (q8_:(∀x,ff t=some x->T CT (.str x))) (q9_:(ff t=none->∀ys,fH t ys->match chk t ys (∃n,Lin t n)with|some x=>T CT (.str x)|none=>match uW ns t ys mU rU fU with|some x=>T CN (.str x)|none=>∀ls,mU=.n (toI mU)->rU=.n (toI rU)->fU=.ls (iI ls)->R (jbO CJ jNm (jUs N CG ns rs t ys (toI mU) (toI rU)) "first" ls))):aV2 N CG CJ CT CN d us R T
def fJX(N:Cn)(CG CJ CT CN:Addr)(d:Nat):List U->(Own->Prop)->XU->Prop:=λus R T=>aV2 N CG CJ CT CN d us R T
def zA:aP ["self","grid","term","modulus","rounds","first"] ["self","grid","term","modulus","rounds","first"] (aF mJ):={}
open Classical in
def aJ5{CG CJ CT CN fN fT:Addr}{fdT:Bb}(F:Fun K "__init__" "Job.__init__" mJ f fd)(cJ:Cfl K CJ ["taken","grid","term","modulus","rounds","first"])(aDh:Cal P w K mg base (CXe P w) 18 "check_term" ["term"] (spX (aH9 N CT 13)))(tW:Cal P w K mg base (CXe P w) 16 "lines_of" ["term"] (spX (aDq N CT 13)))
  (c_is_within:⇑2 "is_within" PW3 (spV fQ)) (aGs:⇑4 "are_rows" ["thing","deep","many","modulus"] (spV aE7)) (lD:jN P w K mg base N 14 "takes" (pI N 13)) (D_lines:Dis P w K mg base CX0 1 (·=CG) "lines" ["self"] λ_=>spV (aL4 CG)) (tG:Dis P w K mg base CX0 2 (·=CG) "places_many" ["self"] λ_=>spV (aSe CG)) (D_deep:Dis P w K mg base CX0 1 (·=CJ) "deep" ["self"] λ_=>spV (aSc CJ))
  (NG_NoJob:Ng K mg "NoJob" CN fN) (GT:↥1 fN fdT ["self","at"] (rP K)) (bT:Binds K fdT ["self","at"] []) (T:Txt mg):bG P w K mg base (CXe P w) 19 f fd ["self","grid","term","modulus","rounds","first"] (aXm CJ (fJX N CG CJ CT CN 13)):=by
 obtain⟨_,g_GREATEST_MODULUS⟩:=T.c_GREATEST_MODULUS;obtain⟨_,g_MOST_ROUNDS⟩:=T.c_MOST_ROUNDS;obtain⟨_,g_MOST_SPOTS⟩:=T.c_MOST_SPOTS;refine Fun.okE F zA (λvs H Q E h=>?_) (λX cdv A outer s H vs Q E eX hW _ hr h=>?_)
 ·obtain⟨x,dx,vs',H1,W,B,us,R,_,rfl,_,_,_,_,ds,⟨ns,rs,t,_,_,_,rfl,_⟩,_⟩:=h;rw[Aq, <-ds.length];rfl
 ·subst eX;obtain⟨x,dx,vs',H1,W,B,us,R,TX,rfl,n1,hx,s1,eb,ds,⟨ns,rs,t,mU,rU,fU,rfl,gs,hd,hp,fw,gm,gr,gf,hA,hB⟩,lx,q⟩:=h;obtain⟨v1,_,rfl,d1,v2,_,rfl,d2,v3,_,rfl,d3,v4,_,rfl,d4,v5,r5,rfl,d5,dr⟩:=ds;obtain rfl:r5=[]:=dr;have et:∀{H'},Fw W H1 H'->EE W B H' [.sh (grU CG ns rs),.sh (enc N t),.sh mU,.sh rU,.sh fU] [some v1,some v2,some v3,some v4,some v5]:=λfw=>mX (DU.mono (eb.keep fw) _ d1) (mX (DU.mono (eb.keep fw) _ d2) (mX (DU.mono (eb.keep fw) _ d3) (mX (DU.mono (eb.keep fw) _ d4) (mX (DU.mono (eb.keep fw) _ d5) (aLu (eb.to fw))))));have nw:¬W x:=λz=>eb.dm x (eb.wb x z) n1;refine⟨_,(bC (lG (VEx.can (aBg aDh (hr.mono ⋯) (aSp rfl hW) (aA (aB 2) aD)))) (bC (vK (VC.can (bA (aKl (huD hr)) aSo (aZu (aBg tW (hr.mono ⋯) aWz (aA (aB 2) aD))) (aY (aA iC (aA (cL (aB 1) D_lines (hr.mono ⋯)) aD))))) (cI (rF NG_NoJob.rs GT (hr.mono ⋯) rfl NG_NoJob.mg bT rfl rfl hW (bK jD dN))) nF) (bC (vK (VC.can (dW (dD (aK c_is_within (hr.mono ⋯) rfl (aA (aB 3) (aA aC (aA (dH g_GREATEST_MODULUS) aD))))))) (cI (rF NG_NoJob.rs GT (hr.mono ⋯) rfl NG_NoJob.mg bT rfl rfl hW (bK jD dN))) nF) (bC (vK (VC.can (jW (mQ (dW (dD (aK c_is_within (hr.mono ⋯) rfl (aA (aB 4) (aA aC (aA (dH g_MOST_ROUNDS) aD)))))) (iD (bA vJ dC (bB jY jR (aB 4) (cL (aB 1) tG (hr.mono ⋯))) (dH g_MOST_SPOTS)))))) (cI (rF NG_NoJob.rs GT (hr.mono ⋯) rfl NG_NoJob.mg bT rfl rfl hW (bK jD dN))) nF) (bC (eV (pv 0) (VE.can (cL (aB 2) lD (hr.mono ⋯))) rfl) (bC (vK (VC.can (dW (dD (aK aGs (hr.mono ⋯) rfl (aA (aB 5) (aA (cL (aB 0) D_deep (hr.mono ⋯)) (aA (cL (aB 1) tG (hr.mono ⋯)) (aA (aB 3) aD)))))))) (cI (rF NG_NoJob.rs GT (hr.mono ⋯) rfl NG_NoJob.mg bT rfl rfl hW (bK jD dN))) nF) (bC (eV (pv 0) (pv 1) rfl) (bC (eV (pv 0) (pv 2) rfl) (bC (eV (pv 0) (pv 3) rfl) (bC (eV (pv 0) (pv 4) rfl) (cI (eV (pv 0) (VE.can (aVj (y:="row") #v[3] rfl (vic (cY (aB 5))) ↑(bW (i:=0) (~~~["row"]) rfl (Ex rfl) (Fy rfl)) (dI ⋯) ↑(dX (jB rfl) sE T.list Jt (aO (aB 0) aX)) (λr ρ R z h=>by cases ρ with|nil=>cases z|cons y ρ=>cases z;exact h))) rfl)))))))))))),?_⟩;have f0:=eb.same s1;refine⟨W,B,_,λ_=>ff t=none/\∃ys,fH t ys/\chk t ys (∃n,Lin t n)=none,TX,pG (et f0),⟨t,rfl,hd,hp,fw,hA,λe ys ik=>?_⟩,λs v H2 hs w2 _=>?_,lx.to f0 λ_ z=>z⟩
  ·have hB:=hB e ys ik;cases ec:chk t ys (∃n,Lin t n)with
   |none=>exact⟨e,ys,ik,ec⟩
   |some x=>rw[ec]at hB;exact hB
  obtain⟨e0,ys,ik,ec⟩:=hs;have hB:=hB e0 ys ik;rw[ec]at hB;have hB:match uW ns t ys mU rU fU with
   |some x=>TX CN (.str x)
   |none=>∀ls,mU=.n (toI mU)->rU=.n (toI rU)->fU=.ls (iI ls)->R (jbO CJ jNm (jUs N CG ns rs t ys (toI mU) (toI rU)) "first" ls):=hB
  have lin:∃n,Lin t n:=Jw λz=>by
   unfold chk at ec;rw[if_neg z]at ec;cases ec
  have f2:=f0.trans w2;have raise_:∀{H':Hp}{x:Str},Fw W H1 H'->TX CN (.str x)->(1:Nat)<=sizeLine/\∀e,H' e=none->rP K [.ref e,.str x] (upd H' e (oJ e CN none)) (λz H2=>z=.non/\∃dx,H2 e=some (oJ e CN (some dx))/\E (.ref CN) (some dx) (qX H2 e)) E0:=λfw tx=>⟨by show 1<=sizeLine;decide,λe he=>aIy NG_NoJob.cls NG_NoJob.tk eb fw lx tx rfl he⟩;refine aBe (R:=λc=>c=decide (raw t≠[]/\¬Lin t ns.length)) (pG (et f2)) ?lines λc H3 hc w3=>?_
  case lines=>
   refine⟨t,rfl,hd,fw,λy hy=>aOj (tK e0 y hy).1,λz=>?_,λn nz l=>?_,λz=>z lin⟩
   ·refine⟨rfl,rfl,ns,rs,rfl,trivial,⟨trivial,trivial,trivial⟩,?_⟩;rw[decide_eq_false (λh=>h.1 z)];rfl
   ·refine⟨rfl,rfl,ns,rs,rfl,trivial,⟨trivial,trivial,trivial⟩,?_⟩;have key:(raw t≠[]/\¬Lin t ns.length)↔n≠ns.length:=by
     constructor
     ·rintro⟨_,h⟩ e;exact h (e▸l)
     ·intro h;refine⟨nz,λl'=>h ?_⟩;obtain⟨y,hy⟩:=List.exists_mem_of_ne_nil _ nz;exact(l y hy).symm.trans (l' y hy)
    have:(decide (raw t≠[]/\¬Lin t ns.length))=decide (n≠ns.length):=decide_eq_decide.mpr key;rw[this];show(!(U.eq .no (.n n) || (U.eq (.n (ns.length:Int)) (.n n) || false)))=_;rw[show U.eq .no (.n n)=false from rfl,aLw];by_cases e:n=ns.length
    ·simp[e]
    ·have:¬(ns.length:Int)=n:=λh=>e ∅;simp[e,this]
  subst hc;have f3:=f2.trans w3;by_cases hl:raw t≠[]/\¬Lin t ns.length
  ·rw[uW,if_pos hl]at hB;rw[decide_eq_true hl];exact aAq (raise_ f3 hB)
  rw[uW,if_neg hl]at hB;rw[decide_eq_false hl];refine yX ?_;obtain⟨am,gm⟩:=gm;obtain⟨ar,gr⟩:=gr;refine aBe (R:=λc=>c= !isIn mU 2 1000000000) (pG (et f3)) ⟨_,am,_,_,rfl,gm,rfl⟩ λc H4 hc w4=>?_;subst hc;have f4:=f3.trans w4;cases em:isIn mU 2 1000000000 with
  |false=>
   rw[if_pos em]at hB;exact aAq (raise_ f4 hB)
  |true=>
  rw[if_neg (by rw[em];decide)]at hB;refine yX ?_;obtain⟨m1,m2⟩:=(dR em).2;obtain⟨m,rfl⟩:∃m,mU=.n m:=⟨_,(dR em).1⟩;refine aBe (R:=λc=>c=decide (isIn rU 0 12=false∨120<toI rU*bL ns)) (pG (et f4)) ?rounds λc H5 hc w5=>?_
  case rounds=>
   cases er:isIn rU 0 12 with
   |false=>exact⟨_,ar,_,_,rfl,gr,λ_=>(decide_eq_true (.inl rfl)).symm,λz=>by rw[er]at z;cases z⟩
   |true=>
    obtain⟨r1,r2⟩:=(dR er).2;obtain⟨r,rfl⟩:∃r,rU=.n r:=⟨_,(dR er).1⟩;have r1:0<=r:=r1;have r2:r<=12:=r2;refine⟨_,.int,_,_,rfl,rfl,?_⟩;rw[er];refine⟨nofun,λ_=>⟨rfl,rfl,ns,rs,rfl,gs,.inl ⟨∅,∅⟩,?_⟩⟩;show decide (120<r*bL ns)=decide (true=false∨120<r*bL ns);exact decide_eq_decide.mpr ⟨.inr,λh=>h.elim (λz=>by cases z) id⟩
  subst hc;have f5:=f4.trans w5;by_cases hr2:isIn rU 0 12=false∨120<toI rU*bL ns
  ·rw[if_pos hr2]at hB;rw[decide_eq_true hr2];exact aAq (raise_ f5 hB)
  rw[if_neg hr2]at hB;rw[decide_eq_false hr2];refine yX ?_;have er:isIn rU 0 12=true:=by
   cases z:isIn rU 0 12 with
   |false=>exact absurd (.inl z) hr2
   |true=>rfl
  obtain⟨r,rfl⟩:∃r,rU=.n r:=⟨_,(dR er).1⟩;have hx5:H5 x=some (.ins CJ dx []):=w5.fr _ _ nw (w4.fr _ _ nw (w3.fr _ _ nw (w2.fr _ _ nw hx)));refine aF4 (R:=λs=>s=.ow (ys.map tkU)) (pG (et f5)) (fB t #v[3] ⟨t,rfl,rfl,hd,fw,λys' hy=>by rw[hy.uniq ik]⟩) λs v6 H6 hs w6 r6=>?_;subst hs;obtain⟨p6,x6,rfl,n6,h6,d6⟩:=r6;have f6:=f5.trans w6;have hx6:=w6.fr _ _ nw hx5;have nB6:¬B p6:=(eb.to f5).nw n6;refine⟨_,rfl,x,CJ,dx,_,rfl,hx6,cJ.cl,cJ.na _ (by simp),⋯,?_⟩;have f7:=f6.upd (o:=.ins CJ dx (jU "taken" (.ref p6) [])) n1 nw;have hx7:upd H6 x (.ins CJ dx (jU "taken" (.ref p6) [])) x=_:=aM;have h7:=gH (B:=B) (o:=.ins CJ dx (jU "taken" (.ref p6) [])) hx6 p6 _ nB6 h6 (.inr ⟨_,rfl⟩);have d7:=DUs.data (gH (o:=.ins CJ dx (jU "taken" (.ref p6) [])) hx6) 7 _ (aHn ys) d6.less;revert f7 hx7 h7 d7;generalize upd H6 x (.ins CJ dx (jU "taken" (.ref p6) []))=H7;intro f7 hx7 h7 d7;have yl:=vV fw ik;have yp:∀y∈ys,0<=y.1:=λy h=>by
   have:1<=y.1:=(dR (tK e0 y ((ik.2 y).mp h)).2).2.1
   lia
  have dJ:DU W B H7 (.ob CJ ["taken"] [.ls (ys.map tkU)]) (.ref x):=⟨x,dx,[.ref p6],rfl,eb.nw n1,hx7,rfl,_,_,rfl,⟨p6,x6,rfl,nB6,h7,d7⟩,rfl⟩;refine aBe (R:=λc=>c= !dF (dpt ys) (bL ns) m fU) (mX dJ (et f7)) ⟨rfl,rfl,ys,[],[],rfl,yl,yp,rfl,rfl,ns,rs,rfl,gs,_,_,_,_,rfl,gf,rfl⟩ λc H8 hc w8=>?_;subst hc;have f8:=f7.trans w8;cases ea:dF (dpt ys) (bL ns) m fU with
  |false=>
   rw[if_pos (show dF (dpt ys) (bL ns) (toI (.n m)) fU=false from ea)]at hB;exact aAq (raise_ f8 hB)
  |true=>
  rw[if_neg (by rw[show dF (dpt ys) (bL ns) (toI (.n m)) fU=true from ea];decide)]at hB;refine yX ?_;obtain⟨ls,rfl,ll,_⟩:=xZ ea;have hR:=hB ls rfl rfl rfl;have step:∀{H fs fs'},(Fw W H1 H/\H x=some (.ins CJ dx fs)/\DU W B H (.ls (ys.map tkU)) (.ref p6))->(Fw W H1 (upd H x (.ins CJ dx fs'))/\upd H x (.ins CJ dx fs') x=some (.ins CJ dx fs')/\DU W B (upd H x (.ins CJ dx fs')) (.ls (ys.map tkU)) (.ref p6)):=λ⟨a,b,c⟩=>⟨a.upd n1 nw,aM,DU.data (gH b) 8 _ (aHn ys) c⟩;have k8:Fw W H1 H8/\H8 x=some (.ins CJ dx [("taken",.ref p6)])/\DU W B H8 (.ls (ys.map tkU)) (.ref p6):=⟨f8,w8.fr _ _ nw hx7,DU.mono ((eb.to f7).keep w8) _ ⟨p6,x6,rfl,nB6,h7,d7⟩⟩;have fl:∀{k:Nat},k<=6->k<1000:=λh=>by lia
  refine⟨_,rfl,_,rfl,x,CJ,dx,_,rfl,k8.2.1,cJ.cl,cJ.na _ (by simp),fl (by show(1:Nat)<=6;decide),?_⟩;have k9:=step (fs':=[("taken",.ref p6),("grid",v1)]) k8;refine⟨_,rfl,_,rfl,x,CJ,dx,_,rfl,k9.2.1,cJ.cl,cJ.na _ (by simp),fl (by show(2:Nat)<=6;decide),?_⟩;have k10:=step (fs':=[("taken",.ref p6),("grid",v1),("term",v2)]) k9;refine⟨_,rfl,_,rfl,x,CJ,dx,_,rfl,k10.2.1,cJ.cl,cJ.na _ (by simp),fl (by show(3:Nat)<=6;decide),?_⟩;have k11:=step (fs':=[("taken",.ref p6),("grid",v1),("term",v2),("modulus",v3)]) k10;refine⟨_,rfl,_,rfl,x,CJ,dx,_,rfl,k11.2.1,cJ.cl,cJ.na _ (by simp),fl (by show(4:Nat)<=6;decide),?_⟩;have k12:=step (fs':=[("taken",.ref p6),("grid",v1),("term",v2),("modulus",v3),("rounds",v4)]) k11;have l3:ls.length<=10000:=by
   have:=gf.1;unfold iI at this;rw[Ac]at this;exact this
  refine aF4 (R:=λs=>s=.oo (llO (ls.map λr=>r.map U.n))) (pG (et k12.1)) ⟨ls,rfl,l3,rfl⟩ λs v13 H13 hs w13 r13=>?_;subst hs;obtain⟨p13,S,rfl,n13,φ13⟩:=r13;have f13:=k12.1.trans w13;have hx13:=w13.fr _ _ nw k12.2.1;refine⟨_,rfl,x,CJ,dx,_,rfl,hx13,cJ.cl,cJ.na _ (by simp),fl (by show(5:Nat)<=6;decide),?_⟩;obtain⟨qs,gS,gp,gn,gx,gr⟩:=φ13;have p13x:p13≠x:=λz=>by rw[z,hx13]at gx;cases gx
  have sx:∀q∈qs,q≠x:=λq hq z=>by
   obtain⟨vs,e⟩:=gr.th q hq;rw[z,hx13]at e;cases e
  have nS1:∀b,S b->H1 b=none:=λb hb=>k12.1.none_ (n13 b hb);have keep:∀{u v},DU W B H1 u v->DU W (λb=>B b∨S b) (upd H13 x (.ins CJ dx [("taken",.ref p6),("grid",v1),("term",v2),("modulus",v3),("rounds",v4),("first",.ref p13)])) u v:=λ{u v} d=>DU.mono (λb o nb h=>⟨λz=>z.elim nb λz=>(by rw[nS1 b z]at h;cases h),(aL (aR h n1)).trans (f13.fr b o (λz=>nb (eb.wb b z)) h)⟩) u d;have d6':DU W (λb=>B b∨S b) H13 (.ls (ys.map tkU)) (.ref p6):=DU.mono (λb o nb h=>⟨λz=>z.elim nb λz=>(by have e:=n13 b z;rw[show _=some o from h]at e;cases e),w13.fr b o (λz=>nb (eb.wb b z)) h⟩) _ k12.2.2;refine q _ S _ hR (f13.upd n1 nw) nS1 ⟨dx,[.ref p6,v1,v2,v3,v4],p13,λz=>z.elim (eb.nw n1) λz=>((gS x).mp z).elim (λe=>p13x e.symm) λe=>sx x e rfl,aM,rfl,⟨_,_,rfl,DU.data (gH hx13) 8 _ (aHn ys) d6',_,_,rfl,keep d1,_,_,rfl,keep d2,_,_,rfl,keep d3,_,_,rfl,keep d4,rfl⟩,qs,gS,gp,gn,(aL p13x).trans gx,aFh gr λq hq=>aL (sx q hq)⟩
def aWr{c:Bool}{a b:Prop}(h:c=true)(x:a):if c=true then a else b:=by rw[if_pos h];exact x
def aWq{c:Bool}{a b:Prop}(h:c=false)(x:b):if c=true then a else b:=by rw[if_neg (by rw[h];exact As)];exact x
def aQx(K:Ab)(ns:List Int):Opq where
 φ:=λ_ B H v=>∃a,v=.ref a/\((¬B a/\Rd H a (.lst (ns.map V.int)))∨∀H',SqL K H' a (ns.map V.int))
 mono:=λk ⟨a,e,h⟩=>by
  rcases h with ⟨nb,h|⟨o,h⟩⟩|h
  ·exact⟨a,e,.inl ⟨(k _ _ nb h).1,.inl (k _ _ nb h).2⟩⟩
  ·exact⟨a,e,.inl ⟨(k _ _ nb h).1,.inr ⟨o,(k _ _ nb h).2⟩⟩⟩
  ·exact⟨a,e,.inr h⟩
 wm:=λ_ h=>h
def aSb(K:Ab):Fv:=λus R=>∃(ns:List Int)(k:Nat),us=[.op (aQx K ns),.n (k:Int)]/\∀n:Int,R (.sh (.n n))
def aWt(x:Int): -(2 ^ 64)<x % 2147483647/\x % 2147483647<2 ^ 64:=by lia
def DUs.two{W B:Addr->Prop}{H:Hp}{u v:U}{vs:List V}(h:DUs W B H [u,v] vs):∃x y,vs=[x,y]/\DU W B H u x/\DU W B H v y:=by
 obtain⟨x,_,rfl,d1,y,r,rfl,d2,e⟩:=h;obtain rfl:r=[]:=e;exact⟨x,y,rfl,d1,d2⟩
def zE:aP ["_law_script","_law_k"] ["_law_script","_law_k"] (aF mK):={}
def aPx(F:Fun K "_law_cell_at" "_law_cell_at" mK f fd)(T:Txt mg):↥1 f fd ["_law_script","_law_k"] (spV (aSb K)):=by
 refine F.ok zE (λvs H Q E h=>?_) (λcdv A outer s H vs Q E hr h=>?_)
 ·obtain⟨W,B,us,R,eb,ds,⟨ns,k,rfl,_⟩,_⟩:=h;rw[<-ds.length];rfl
 ·obtain⟨W,B,us,R,eb,ds,⟨ns,k,rfl,hR⟩,q⟩:=h;obtain⟨x,y,rfl,⟨a,rfl,hs⟩,⟨rfl,_⟩⟩:=DUs.two ds;have hS:SqL K H a (ns.map V.int):=hs.elim (λh=> .inl h.2) λh=>h H;have q':∀n:Int,Q (.int n) H:=λn=>q _ _ _ (hR n) eb.refl ⟨rfl,rfl⟩;refine⟨_,(bC (vK (aD8 aNh (pv 1) (jT aV (by rfl) T.len PySem.boot_len (bK (pv 0) dN)) (aDz _)) (cI (rG (yN nD (pv 0) (pv 1) (λ_ _=>rfl)))) nF) (cI (rG cU))),?_⟩;refine⟨_,rfl,_,rfl,a,_,rfl,.inl hS,_,_,rfl,rfl,_,rfl,?_⟩;by_cases h:k<ns.length
  ·refine aWr (decide_eq_true (by rw[Ac];lia)) ?_;exact⟨_,rfl,_,rfl,a,_,_,_,rfl,rfl,hS,pF (show(ns.map V.int)[k]? =some (.int ns[k]) by rw[Ay,Ak h];rfl),q' _⟩
  ·exact aWq (decide_eq_false (by rw[Ac];lia)) (q' 0)
def oR:Fv:=λus R=>∃m:Int,us=[.wl,.n m]/\0<m/\m<2 ^ 62/\∀r:Int,0<=r->r<m->R (.sh (.n r))
def iV:aP ["_law_well_here","_law_most","_law_number_here"] ["_law_well_here","_law_most"] (aF rH):={}
def aY5(x:Int): -(2 ^ 64)<x % 2147483399/\x % 2147483399<2 ^ 64:=by lia
def aPz(F:Fun K "_law_draw" "_law_draw" rH f fd):↥1 f fd ["_law_well_here","_law_most"] (spV oR):=by
 refine F.ok iV (λvs H Q E h=>?_) (λcdv A outer s H vs Q E hr h=>?_)
 ·obtain⟨W,B,us,R,eb,ds,⟨m,rfl,_⟩,_⟩:=h;rw[<-ds.length];rfl
 ·obtain⟨W,B,us,R,eb,ds,⟨m,rfl,hm,hm2,hR⟩,q⟩:=h;obtain⟨v1,v2,rfl,⟨a,rfl,wa⟩,⟨rfl,_⟩⟩:=DUs.two ds;obtain⟨x,y,z,ha⟩:=eb.wo a wa;have up:∀(x y z:Int),Fw W H (upd H a (.lst [.int x,.int y,.int z])):=λx y z=>⟨λb o nw h=>(aL (λe:b=a=>nw (by rw[e];exact wa))).trans h,λp hp=>by
   by_cases e:p=a
   ·exact⟨x,y,z,by rw[e,aM]⟩
   ·obtain⟨x',y',z',h⟩:=eb.wo p hp;exact⟨x',y',z',(aL e).trans h⟩⟩
  have fin:∀(t:Int)(H':Hp),Fw W H H'->Q (.int (t % m)) H':=λt H' fw=>q _ _ _ (hR (t % m) (Qd t ∅) (Ny t hm)) fw ⟨rfl,rfl⟩;refine⟨_,(bC (vK (aD8 vJ (yN nD (pv 0) cU (λ_ _=>rfl)) cU (aDz _)) (bC (uA (i:=2) iV.nd rfl (Ex rfl) (gP pN (yN nD (pv 0) cU (λ_ _=>rfl)) (pv 1))) (bC (aD7 (gP vI (yN nD (pv 0) cU (λ_ _=>rfl)) (pv 1)) (aA1 (pv 0) cU set_list)) (cI (rG (pv 2))))) nF) (bC (aD7 (gP tZ (yN nD (pv 0) cU (λ_ _=>rfl)) cU) (aA1 (pv 0) cU set_list)) (bC (uA (i:=2) iV.nd rfl (Ex rfl) (gP pN (gP jY (gP tZ (gP tZ (yN nD (pv 0) cU (λ_ _=>rfl)) (gP jY cU (yN nD (pv 0) cU (λ_ _=>rfl)))) cU) cU) cU)) (bC (uA (i:=2) iV.nd rfl (Ex rfl) (gP pN (gP jY (pv 2) (gP tZ (gP vI (pv 2) cU) cU)) cU)) (bC (uA (i:=2) iV.nd rfl (Ex rfl) (gP pN (gP jY (pv 2) (gP tZ (gP vI (pv 2) cU) cU)) cU)) (cI (rG (gP pN (gP tZ (gP jY (pv 2) cU) (gP vI (pv 2) cU)) (pv 1))))))))),?_⟩;refine⟨_,rfl,a,_,_,_,rfl,rfl,SqL.of ha,rfl,_,_,rfl,rfl,_,rfl,?_⟩;refine aY2 (λ_=>?_) (λ_=>?_)
  ·refine⟨_,rfl,a,_,_,_,rfl,rfl,SqL.of ha,rfl,_,rfl,_,_,rfl,rfl,hm,?_⟩;refine⟨_,rfl,a,_,_,_,rfl,rfl,SqL.of ha,rfl,_,rfl,_,_,rfl,rfl,⟨hm,hm2⟩,?_⟩;refine⟨_,rfl,a,_,_,1,rfl,rfl,ha,rfl,?_⟩;exact⟨_,rfl,fin _ _ (up _ _ _)⟩
  ·refine⟨_,rfl,a,_,_,_,rfl,rfl,SqL.of ha,rfl,_,_,rfl,rfl,?_⟩;refine⟨_,rfl,a,_,_,2,rfl,rfl,ha,rfl,?_⟩;have hb:(upd H a (.lst ([V.int x,V.int y,V.int z].set 2 (.int (z+1))))) a=some (.lst [.int x,.int y,.int (z+1)]):=aM;refine⟨_,rfl,a,_,_,_,rfl,rfl,SqL.of hb,rfl,_,rfl,a,_,_,_,rfl,rfl,SqL.of hb,rfl,_,_,rfl,rfl,.inl ⟨⋯,⋯⟩,_,_,rfl,rfl,_,_,rfl,rfl,_,_,rfl,rfl,.inr ⟨⋯,⋯⟩,_,_,rfl,rfl,(by show(0:Int)<2147483647;decide),?_⟩;refine⟨_,rfl,_,rfl,_,_,rfl,rfl,⟨⋯,⋯⟩,_,_,rfl,rfl,_,_,rfl,rfl,.inl (aWt _),_,_,rfl,rfl,(by show(0:Int)<2147483647;decide),?_⟩;refine⟨_,rfl,_,rfl,_,_,rfl,rfl,⟨⋯,⋯⟩,_,_,rfl,rfl,_,_,rfl,rfl,.inl (aWt _),_,_,rfl,rfl,(by show(0:Int)<2147483399;decide),?_⟩;refine⟨_,rfl,_,_,rfl,rfl,.inl (aY5 _),_,rfl,_,_,rfl,rfl,⟨⋯,⋯⟩,_,_,rfl,rfl,_,rfl,_,_,rfl,rfl,hm,?_⟩;exact fin _ _ (up _ _ _)
def aF3{α:Type}{g:Tk->U}{f:U->(Option U->Prop)->Prop}{Q:List U->Prop}(hf:∀y∈ys,∀k:Option U->Prop,k (some (g y))->f (tkU y) k)(hq:Q (ys.map g)):lB f (ys.map tkU) [] Q:=by
 have key:∀(zs:List Tk)(acc:List U),(∀y∈zs,∀k:Option U->Prop,k (some (g y))->f (tkU y) k)->Q (acc++zs.map g)->lB f (zs.map tkU) acc Q:=by
  intro zs;induction zs with
  |nil=>exactλacc _ q=>by rw[Hs,Bs]at q;exact q
  |cons z zs ih=>exactλacc hf q=>hf z Ah _ (ih _ (λy hy=>hf y (Ag _ hy)) (by rw[Cv];exact q))
 exact key ys [] hf hq
def aMo(n:Nat)(ns:List Int):U.dts n (ns.map U.n):=by
 induction ns with
 |nil=>cases n<;>trivial
 |cons r rs ih=>cases n<;>exact⟨trivial,ih⟩
def zQ(n:Nat)(ys:List Tk):U.dts (n+2) (ys.map tkU):=by
 induction ys with
 |nil=>trivial
 |cons y ys ih=>exact⟨⟨trivial,aMo n y.2,trivial⟩,ih⟩
def aEi(ys:List Tk):U.eq (.ls (ys.map tkU)) (.ls [])=ys.isEmpty:=by cases ys<;>rfl
theorem pull{α:Type}{g:α->U}{p:α->Prop}:∀{xs:List U},(∀x∈xs,∃a,x=g a/\p a)->∃as:List α,xs=as.map g/\∀a∈as,p a
 | [],_=>⟨[],rfl,nofun⟩
 |x::xs,h=>by
  obtain⟨a,rfl,ha⟩:=h x Ah;obtain⟨as,rfl,hs⟩:=pull λy hy=>h y (Ag _ hy);exact⟨a::as,rfl,λb hb=>by
   rcases Ao.mp hb with rfl|hb
   ·exact ha
   ·exact hs b hb⟩
def cQ(lo:Int)(n:Nat):(gO lo n).length=n:=by simp[gO]
def two{r:Int}(h0:0<=r)(h2:r<2){u v:U}{R:U->Prop}(a:R u)(b:R v):∃x,atI [u,v] r=some x/\R x:=by
 have:r=0∨r=1:=by lia
 rcases this with rfl|rfl
 ·exact⟨_,rfl,a⟩
 ·exact⟨_,rfl,b⟩
def three{r:Int}(h0:0<=r)(h2:r<3){u v w:U}{R:U->Prop}(a:R u)(b:R v)(c:R w):∃x,atI [u,v,w] r=some x/\R x:=by
 have:r=0∨r=1∨r=2:=by lia
 rcases this with rfl|rfl|rfl
 ·exact⟨_,rfl,a⟩
 ·exact⟨_,rfl,b⟩
 ·exact⟨_,rfl,c⟩
def aSg(K:Ab):Fv:=λus R=>∃(ns:List Int)(k:Nat),us=[.op (aQx K ns),.n (k:Int)]/\∀a b c:Int,R (.ow [.n a,.n b,.n c])
def vR:aP ["_law_script","_law_k","_law_cell"] ["_law_script","_law_k"] (aF rJ):={}
def aP8(F:Fun K "_law_well" "_law_well" rJ f fd)(aAb:⇑1 "_law_cell_at" ["_law_script","_law_k"] (spV (aSb K)))(T:Txt mg):↥2 f fd ["_law_script","_law_k"] (spV (aSg K)):=by
 refine vfn F vR (λcdv A outer s H E hr=>(aG (aZ (i:=2) vR.nd (aK aAb (hr.mono ⋯) rfl (aA (aB 0) (aA (aB 1) aD)))) (aH (aQ (bR (aA (bB bV cM (bB pN jR (aB 2) aC) (aB 1)) (aA (bQ bF bO (bR (aA aC (aA (aB 2) aD))) (dX rZ aDn T.int Rg (aO (qG aWx dC (aB 2) (bB mC jR aC aC)) aX))) (aA aC aD)))))))) ?_;rintro _ R ⟨ns,k,rfl,q⟩;refine⟨rfl,ns,k,rfl,λn=>?_⟩;have key:∀c:Bool,∃u,atI [U.n 0,U.n n] (if c=true then 1 else 0)=some u/\∃a,u=.n a:=λc=>by
  cases c
  ·exact⟨_,rfl,_,rfl⟩
  ·exact⟨_,rfl,_,rfl⟩
 obtain⟨u,e,a,rfl⟩:=key (decide ((10:Int) ^ (18:Int).toNat<=n));exact⟨by show(0:Int)<2147483647;decide,⟨⋯,⋯,⋯⟩,_,e,q _ a 0⟩
def aAm(ns:List Int)(a s:Int):(ns++[s]).foldl (λa n=>a*n) a=ns.foldl (λa n=>a*n) a*s:=by rw[List.foldl_append];rfl
theorem rE:∀(ns:List Int)(a:Int),(∀n∈ns,1<=n)->1<=a->1<=ns.foldl (λa n=>a*n) a
 | [],_,_,h=>h
 |n::ns,a,h,h0=>rE ns (a*n) (λm hm=>h m (Ag _ hm)) (by
  have h1:=h n Ah;have:=Wz h0 h1 ∅ ∅
  lia)
def aL7:Fv:=λus R=>us=[.wl]/\∀ns:List Int,aB2 ns->R (.ow (ns.map U.n))
def eU:aP ["_law_well_here","_law_sizes_here","_law_left","_law_k","_law_size"] ["_law_well_here"] (aF pR):={}
def aNc(F:Fun K "_law_sizes" "_law_sizes" pR f fd)(aJ:#v[e])(T:Txt mg):↥2 f fd ["_law_well_here"] (spV aL7):=by
 refine vfn F eU (λcdv A outer s H E hr=>(aG (aZ (i:=1) eU.nd (bR aD)) (aG (aZ (i:=2) eU.nd aC) (aG (iY Cu rfl (gQ T.range (aO (bB bV cM aC #v[d]) aX)) (gA (i:=3) eU.nd) (aG (aZ (i:=4) eU.nd (bB bV cM aC (aK aJ (hr.mono ⋯) rfl (aA (aB 0) (aA (bD (aCc rfl) aR9 T.min boot_min (aO aC (aO (aB 2) aX))) aD))))) (aG (aVm 1 (aB 4)) (aH (aZ (i:=2) eU.nd (bB zM jR (aB 2) (aB 4))))))) (aH (vZ 1)))))) ?_;rintro _ R ⟨rfl,q⟩;refine⟨rfl,3,rfl,⋯,⋯,λr r0 r3=>⟨∅,∅,?_⟩⟩;refine eO (λl ρ=>∃(ns:List Int)(lf:Int)(x y:Sl),ns.length+l.length<=3/\1<=ns.length+l.length/\(∀n∈ns,1<=n/\n<=9)/\1<=lf/\bL ns*lf<=40/\ρ=[.sh .wl,.ow (ns.map U.n),.sh (.n lf),x,y]) ?_ ?_ ⟨[],40,_,_,by rw[cQ,Hc];lia,by rw[cQ,Hc];lia,nofun,⋯,⋯,rfl⟩
 ·rintro ρ ⟨ns,lf,x,y,h3,h1,hn,l1,hp,rfl⟩;refine q ns ⟨hn,by simpa using h1,by simpa using h3,?_⟩;have p1:1<=bL ns:=rE ns 1 (λn h=>(hn n h).1) ⋯;have:=Pd l1 (show 0<=bL ns by lia);rw[Tz]at this
  lia
 ·rintro u l ρ ⟨ns,lf,x,y,h3,h1,hn,l1,hp,rfl⟩ ih;rw[Aq]at h3 h1;have p1:1<=bL ns:=rE ns 1 (λn h=>(hn n h).1) ⋯;have l40:lf<=40:=by
   have:=Ov p1 (show 0<=lf by lia);rw[Int.one_mul]at this
   lia
  refine⟨_,rfl,by show 0<(if lf<9 then lf else 9);split<;>lia,by show(if lf<9 then lf else 9)<2 ^ 62;split<;>lia,λs s0 s9=>?_⟩;have hs:1+s<=9/\1+s<=lf:=by
   have s9:s<(if lf<9 then lf else 9):=s9;split at s9<;>lia
  refine⟨by rw[Ac];lia,⟨∅,∅⟩,?_⟩;have e1:1<=lf / (1+s):=by
   rw[Rw ∅];lia
  have e2:(1+s)*(lf / (1+s))<=lf:=Int.mul_ediv_self_le ∅;refine ih _ ⟨ns++[1+s],lf / (1+s),_,_,by rw[An];show _+1+_<=3;lia,by rw[An];show 1<=_+1+_;lia,λn hn'=>(Cd.mp hn').elim (hn n) λz=>by rw[Br.mp z];lia,e1,?_,by rw[Em];rfl⟩;have:bL (ns++[1+s])=bL ns*(1+s):=aAm ns 1 (1+s);rw[this,Int.mul_assoc];exact Int.le_trans (Pd e2 ∅) hp
def aSf:Fv:=λus R=>us=[.wl]/\∀r:Rim,r.ok->R (.sh r.u)
def yO:aP ["_law_well_here","_law_way"] ["_law_well_here"] (aF uB):={}
def aP5(F:Fun K "_law_rim" "_law_rim" uB f fd)(aJ:#v[e])(T:Txt mg):↥2 f fd ["_law_well_here"] (spV aSf):=by
 refine vfn F yO (λcdv A outer s H E hr=>(aG (aZ (i:=1) yO.nd #v[d]) (aG (bJ (bA (bM (huD hr)) bN (aB 1) aC) (aH (aQ (aY (aA aN (aA (aK aJ (hr.mono ⋯) rfl (aA (aB 0) (aA (bQ bF bO (bR (aA aC (aA (bB bV cM (bB mC jR aC aC) aC) aD))) #v[d]) aD))) aD))))) aU) (aH (aQ (bQ bF bO (bR (aA (aY (aA aN aD)) (aA (aY (aA aN aD)) aD))) (bB mD dC (aB 1) aC))))))) ?_;rintro _ R ⟨rfl,q⟩;refine⟨rfl,3,rfl,⋯,⋯,λr r0 r3=>⟨trivial,trivial,λh=>?_,λh=>?_⟩⟩
 ·refine⟨⟨⋯,⋯,⋯⟩,2,rfl,⋯,⋯,λr2 a b=>?_⟩;refine two a b ?_ ?_
  ·exact⟨3,rfl,⋯,⋯,λc c0 c3=>q (.fixed c) ⟨∅,∅⟩⟩
  ·have e:(10:Int) ^ (9:Int).toNat=1000000000:=by decide
   refine⟨_,rfl,⋯,⋯,λc c0 c3=>?_⟩;have c4:c<10 ^ (9:Int).toNat+1:=c3;exact q (.fixed c) ⟨∅,∅⟩
 ·have hr:r≠0:=λz=>by rw[z]at h;exact absurd h ⋯
  have:r=1∨r=2:=by lia
  rcases this with rfl|rfl
  ·exact⟨_,rfl,q .mirror trivial⟩
  ·exact⟨_,rfl,q .round trivial⟩
def aIb:Fv:=λus R=>∃n:Nat,us=[.wl,.n (n:Int)]/\n<=3/\∀ss:List Int,ss.length=n->(∀s∈ss, -9<=s/\s<=9)->R (.sh (.tp (ss.map U.n)))
abbrev aC9:List Str:=["_law_well_here","_law_lines","_law_wide"]
def tM:aP ["_law_well_here","_law_lines","_law_wide"] ["_law_well_here","_law_lines"] (aF lN):={}
def aKd(F:Fun K "_law_steps" "_law_steps" lN f fd)(aJ:#v[e])(T:Txt mg):↥2 f fd ["_law_well_here","_law_lines"] (spV aIb):=by
 refine vfn F tM (λcdv A outer s H E hr=>(aG (aZ (i:=2) tM.nd (bQ bF bO (bR (aA aC (aA aC (aA aC (aA aC aD))))) #v[d])) (aH (aQ (dX (qW rfl) aAf T.tuple Nn (aO (oW (own:=["_law_k"]) (cap:=[("_law_well_here",0),("_law_wide",2)]) (aF lN) aC9 rfl rfl (λx h=>bY h) #v[3] rfl (vic (gQ T.range (aO (aB 1) aX))) ↑(bW (i:=0) (~~~["_law_k","_law_well_here","_law_wide"]) rfl (Ex rfl) (Fy rfl)) (dI ⋯) ↑(bB mD dC (aK aJ (hr.mono ⋯) rfl (aA (aB 1) (aA (aB 2) aD))) (bB zM jR (aB 2) aC))) aX)))))) ?_;rintro _ R ⟨n,rfl,n3,q⟩;refine⟨rfl,4,rfl,⋯,⋯,λr r0 r4=>?_⟩;have key:∃m:Int,atI [U.n 3,U.n 3,U.n 5,U.n 19] r=some (.n m)/\(m=3∨m=5∨m=19):=by
  have:r=0∨r=1∨r=2∨r=3:=by lia
  rcases this with rfl|rfl|rfl|rfl
  ·exact⟨_,rfl,.inl rfl⟩
  ·exact⟨_,rfl,.inl rfl⟩
  ·exact⟨_,rfl,.inr (.inl rfl)⟩
  ·exact⟨_,rfl,.inr (.inr rfl)⟩
 obtain⟨m,em,hm⟩:=key;refine⟨_,em,∅,∅,by rw[cQ];lia,jP (λx=>∃s:Int,x=.n s/\(-9<=s/\s<=9)) (λu hu c hc=>⟨m,rfl,∅,∅,λt t0 tm=>⟨⟨⋯,⋯⟩,hc _ ⟨_,rfl,∅⟩⟩⟩) λxs xl xp=>?_⟩;obtain⟨ss,rfl,hs⟩:=pull xp;rw[Ac,cQ]at xl;exact q ss ∅ hs
structure aK6(ys:List Tk)(n:Nat):Prop where
 l:ys.length<=4
 g:∀y∈ys,aHy y/\y.2.length=n
def aL8:Fv:=λus R=>∃n:Nat,us=[.wl,.n (n:Int)]/\n<=3/\∀ys,aK6 ys n->R (.ow (ys.map tkU))
abbrev uO:List Str:=["_law_well_here","_law_lines"]
def uG:aP ["_law_well_here","_law_lines"] ["_law_well_here","_law_lines"] (aF fD):={}
def aNd(F:Fun K "_law_some_takes" "_law_some_takes" fD f fd)(aJ:#v[e])(aDg:⇑2 "_law_steps" ["_law_well_here","_law_lines"] (spV aIb))(T:Txt mg):↥3 f fd ["_law_well_here","_law_lines"] (spV aL8):=by
 refine vfn F uG (λcdv A outer s H E hr=>(aH (aQ (oW (own:=["_law_k"]) (cap:=[("_law_well_here",0),("_law_lines",1)]) (aF fD) uO rfl rfl (λx h=>bY h) #v[3] rfl (vic (gQ T.range (aO #v[d] aX))) ↑(bW (i:=0) (~~~["_law_k","_law_well_here","_law_lines"]) rfl (Ex rfl) (Fy rfl)) (dI ⋯) ↑(aY (aA (bB bV cM aC (aK aJ (hr.mono ⋯) rfl (aA (aB 1) (aA aC aD)))) (aA (aK aDg (hr.mono ⋯) rfl (aA (aB 1) (aA (aB 2) aD))) aD))))))) ?_;rintro _ R ⟨n,rfl,n3,q⟩;refine⟨rfl,5,rfl,⋯,⋯,λr r0 r5=>⟨∅,∅,by rw[cQ];lia,jP (λx=>∃y:Tk,x=tkU y/\(aHy y/\y.2.length=n)) (λu hu c hc=>⟨3,rfl,⋯,⋯,λb b0 b3=>⟨n,rfl,n3,λss sl hs=>hc _ ⟨(1+b,ss),rfl,⟨by show 1<=1+b;lia,by show 1+b<=3;lia,hs⟩,sl⟩⟩⟩) λxs xl xp=>?_⟩⟩;obtain⟨ys,rfl,hy⟩:=pull xp;rw[Ac,cQ]at xl;exact q ys ⟨∅,hy⟩
def aL5:Fv:=λus R=>us=[.wl]/\∀n:Int, -1000000000000<=n->n<=1000000000000->R (.sh (.tp [.s "number",.n n]))
def rM:aP ["_law_well_here","_law_far"] ["_law_well_here"] (aF oE):={}
def aP3(F:Fun K "_law_number" "_law_number" oE f fd)(aJ:#v[e])(T:Txt mg):↥2 f fd ["_law_well_here"] (spV aL5):=by
 refine vfn F rM (λcdv A outer s H E hr=>(aG (aZ (i:=1) rM.nd (bQ bF bO (bR (aA aC (aA aC (aA (bB bV cM (bB jY jR aC (bB mC jR aC aC)) aC) aD)))) #v[d])) (aH (aQ (aY (aA aN (aA (bB mD dC (aK aJ (hr.mono ⋯) rfl (aA (aB 0) (aA (aB 1) aD))) (bB zM jR (aB 1) aC)) aD))))))) ?_;rintro _ R ⟨rfl,q⟩;have key:∀m:Int,0<m->m<=2000000000001->∀t:Int,0<=t->t<m-> -1000000000000<=t-m / 2/\t-m / 2<=1000000000000:=λm h1 h2 t h3 h4=>by lia
 have e12:(2:Int)*10 ^ (12:Int).toNat+1=2000000000001:=by decide
 refine⟨rfl,⟨⋯,⋯,⋯⟩,.inl ⟨⋯,⋯⟩,3,rfl,⋯,⋯,λr r0 r3=>?_⟩;have key2:∃m:Int,atI [U.n 7,U.n 201,U.n (2*10 ^ (12:Int).toNat+1)] r=some (.n m)/\0<m/\m<=2000000000001:=by
  have:r=0∨r=1∨r=2:=by lia
  rcases this with rfl|rfl|rfl
  ·exact⟨_,rfl,⋯,⋯⟩
  ·exact⟨_,rfl,⋯,⋯⟩
  ·exact⟨_,rfl,by rw[e12];decide,by rw[e12];decide⟩
 obtain⟨m,em,m0,m1⟩:=key2;exact⟨_,em,m,rfl,m0,∅,λt t0 tm=>⟨⟨⋯,⋯⟩,q _ (key m m0 m1 t t0 tm).1 (key m m0 m1 t t0 tm).2⟩⟩
def cB:Tm->U
 |.num n=> .tp [.s "number",.n n]
 |.take b ss=> .tp [.s "take",.n b,.tp (ss.map U.n)]
 |.rest t y=> .tp [.s "rest",cB t,.n y]
 |.cho a b c=> .tp [.s "?",cB a,cB b,cB c]
 |.bin k a b=> .tp [.s (opn k),cB a,cB b]
def pb:Nat->Nat
 |0=>1
 |d+1=>3*pb d+1
def aNk:∀d,1<=pb d
 |0=>Am _
 |d+1=>by show 1<=3*pb d+1;lia
structure aV1(ys:List Tk)(e:Nat)(t:Tm):Prop where
 wf:Wf t
 ht:ht t<=e+1
 pr:fV t<=pb e
 rw_:∀x∈raw t,x∈ys
def aIc(d:Nat):Fv:=λus R=>∃(e n:Nat)(ys:List Tk),e<d/\us=[.wl,.ls (ys.map tkU),.n (e:Int)]/\aK6 ys n/\∀t,aV1 ys e t->R (.sh (cB t))
def lQ:aP ["_law_well_here","_law_some","_law_deep","_law_way","_law_one","_law_other"] ["_law_well_here","_law_some","_law_deep"] (aF nH):={}
def aP7(F:Fun K "_law_told" "_law_told" nH f fd)(aJ:#v[e])(aBh:⇑2 "_law_number" ["_law_well_here"] (spV aL5))(jO:⇑(d+2) "_law_told" ["_law_well_here","_law_some","_law_deep"] (spV (aIc d)))(T:Txt mg):↥(d+3) f fd ["_law_well_here","_law_some","_law_deep"] (spV (aIc (d+1))):=by
 refine vfn F lQ (λcdv A outer s H E hr=>(aG (aZ (i:=3) lQ.nd (aK aJ (hr.mono ∅) rfl (aA (aB 0) (aA aC aD)))) (aG (bJ (jW (mQ (bA (bM (huD hr)) bN (aB 2) aC) (iD (bA aNh dC (aB 3) aC)))) (aG (bJ (jW (mQ (bA (bM (huD hr)) bN (aB 1) (bR aD)) (iD (bA (bM (huD hr)) bN (aK aJ (hr.mono ∅) rfl (aA (aB 0) (aA aC aD))) aC)))) (aH (aQ (aK aBh (hr.mono ∅) rfl (aA (aB 0) aD)))) aU) (aH (aQ (bB bV cM (aY (aA aN aD)) (bQ bF bO (aB 1) (aK aJ (hr.mono ∅) rfl (aA (aB 0) (aA (bD aV cR T.len Eg (aO (aB 1) aX)) aD)))))))) aU) (aG (aZ (i:=4) lQ.nd (aK jO (hr.mono ∅) rfl (aA (aB 0) (aA (aB 1) (aA (bB mD dC (aB 2) aC) aD))))) (aG (bJ (bA (bM (huD hr)) bN (aB 3) aC) (aH (aQ (aY (aA aN (aA (aB 4) (aA (bB bV cM aC (aK aJ (hr.mono ∅) rfl (aA (aB 0) (aA (bQ bF bO (bR (aA aC (aA (bB mC jR aC aC) aD))) (aK aJ (hr.mono ∅) rfl (aA (aB 0) (aA aC aD)))) aD)))) aD)))))) aU) (aG (aZ (i:=5) lQ.nd (aK jO (hr.mono ∅) rfl (aA (aB 0) (aA (aB 1) (aA (bB mD dC (aB 2) aC) aD))))) (aG (bJ (bA (bM (huD hr)) bN (aB 3) aC) (aH (aQ (aY (aA aN (aA (aB 4) (aA (aB 5) (aA (aK jO (hr.mono ∅) rfl (aA (aB 0) (aA (aB 1) (aA (bB mD dC (aB 2) aC) aD)))) aD))))))) aU) (aH (aQ (aY (aA (bQ bF bO (bR (aA aN (aA aN (aA aN (aA aN (aA aN aD)))))) (aK aJ (hr.mono ∅) rfl (aA (aB 0) (aA aC aD)))) (aA (aB 4) (aA (aB 5) aD))))))))))))) ?_;rintro _ R ⟨e,n,ys,he,rfl,gy,q⟩;have num:∀m:Int, -1000000000000<=m->m<=1000000000000->R (.sh (.tp [.s "number",.n m])):=λm h1 h2=>q (.num m) ⟨⟨h1,h2⟩,Hq (Bt _),aNk e,nofun⟩;refine⟨rfl,13,rfl,⋯,⋯,λr r0 r13=>?_⟩;refine⟨trivial,trivial,λ_=>⟨λ_=> ?l1,nofun⟩,λh=>⟨λ_=> ?l2,λ_=> ?nd⟩⟩
 case nd=>
  have e0:e≠0:=λz=>by rw[z]at h;exact absurd h ⋯
  obtain⟨e',rfl⟩:∃e',e=e'+1:=⟨e-1,∅⟩;have ee:((e'+1:Nat):Int)-1=(e':Int):=by lia
  have us:([U.wl,.ls (ys.map tkU),.n (((e'+1:Nat):Int)-1)]:List U)=[.wl,.ls (ys.map tkU),.n (e':Int)]:=by rw[ee]
  refine⟨e',n,ys,∅,us,gy,λt1 g1=>?_⟩;refine⟨trivial,trivial,λ_=>?_,λ_=>?_⟩
  ·refine⟨⟨⋯,⋯,⋯⟩,2,rfl,⋯,⋯,λr2 a2 b2=>two a2 b2 ?_ ?_⟩
   ·exact⟨9,rfl,⋯,⋯,λy y0 y9=>q (.rest t1 (1+y)) ⟨⟨∅,∅,g1.wf⟩,Hq g1.ht,by show 1+fV t1<=3*pb e'+1;have:=g1.pr;lia,g1.rw_⟩⟩
   ·refine⟨_,rfl,⋯,⋯,λy y0 y9=>?_⟩;have y9:y<10 ^ (9:Int).toNat:=y9;rw[show(10:Int) ^ (9:Int).toNat=1000000000 by decide]at y9;exact q (.rest t1 (1+y)) ⟨⟨∅,∅,g1.wf⟩,Hq g1.ht,by show 1+fV t1<=3*pb e'+1;have:=g1.pr;lia,g1.rw_⟩
  ·refine⟨e',n,ys,∅,us,gy,λt2 g2=>?_⟩;have p1:=g1.pr;have p2:=g2.pr;refine⟨trivial,trivial,λ_=>?_,λ_=>?_⟩
   ·refine⟨e',n,ys,∅,us,gy,λt3 g3=>q (.cho t1 t2 t3) ⟨⟨g1.wf,g2.wf,g3.wf⟩,?_,?_,?_⟩⟩
    ·show _<=e'+1+1;have:=g1.ht;have:=g2.ht;have:=g3.ht;simp only[KR.ht];lia
    ·show 1+(fV t1+(fV t2+fV t3))<=3*pb e'+1;have:=g3.pr;lia
    ·exactλx hx=>(Cd.mp hx).elim (g1.rw_ x) λhx=>(Cd.mp hx).elim (g2.rw_ x) (g3.rw_ x)
   ·refine⟨5,rfl,⋯,⋯,λr5 a5 b5=>?_⟩;have key:∃k:Fin 5,atI [U.s "+",U.s "-",U.s "*",U.s "min",U.s "max"] r5=some (.s (opn k)):=by
     have:r5=0∨r5=1∨r5=2∨r5=3∨r5=4:=by lia
     rcases this with rfl|rfl|rfl|rfl|rfl
     ·exact⟨0,rfl⟩
     ·exact⟨1,rfl⟩
     ·exact⟨2,rfl⟩
     ·exact⟨3,rfl⟩
     ·exact⟨4,rfl⟩
    obtain⟨k,ek⟩:=key;refine⟨_,ek,q (.bin k t1 t2) ⟨⟨g1.wf,g2.wf⟩,?_,?_,?_⟩⟩
    ·show _<=e'+1+1;have:=g1.ht;have:=g2.ht;simp only[KR.ht];lia
    ·show 1+(fV t1+fV t2)<=3*pb e'+1
     lia
    ·exactλx hx=>(Cd.mp hx).elim (g1.rw_ x) (g2.rw_ x)
 all_goals
  refine⟨zQ 37 _,trivial,λ_=>⟨λ_=>⟨rfl,num⟩,nofun⟩,λh1=>⟨3,rfl,⋯,⋯,λr2 a2 b2=>⟨trivial,trivial,λ_=>⟨rfl,num⟩,λ_=>?_⟩⟩⟩;have h1:ys.isEmpty=false:=(aEi ys).symm.trans h1;have y1:0<ys.length:=by
   cases ys with
   |nil=>cases h1
   |cons _ _=>exact Sn _
  have y4:=gy.l;refine⟨_,rfl,by rw[Ac];lia,by rw[Ac];lia,λr3 a3 b3=>?_⟩;rw[Ac]at b3;obtain⟨k,rfl⟩:∃k:Nat,r3=(k:Int):=⟨r3.toNat,∅⟩;have kl:k<ys.length:=by lia
  refine⟨tkU ys[k],pF (by rw[Ay,Ak kl];rfl),?_⟩;refine⟨by show 3<=10000;decide,q (.take ys[k].1 ys[k].2) ⟨trivial,Hq (Bt _),aNk _,λx hx=>?_⟩⟩;rw[Br.mp hx];exact Ew kl
def tlS:Tm->List (Sum Tm Int)
 |.num n=>[.inr n]
 |.take b _=>[.inr b]
 |.rest t y=>[.inl t,.inr y]
 |.cho a b c=>[.inl a,.inl b,.inl c]
 |.bin _ a b=>[.inl a,.inl b]
def sU:Sum Tm Int->U
 |.inl t=>cB t
 |.inr y=> .n y
def aBb:∀t:Tm,(∀b ss,t≠.take b ss)->∀k,.inl k∈tlS t↔k∈kids t
 |.num _,_,k=>by simp[tlS,kids]
 |.take b ss,h,k=>(h b ss rfl).elim
 |.rest t _,_,k=>by simp[tlS,kids]
 |.cho a b c,_,k=>by simp[tlS,kids]
 |.bin _ a b,_,k=>by simp[tlS,kids]
def aIz:∀t:Tm,(tlS t).length<=3
 |.num _=>by simp[tlS]
 |.take _ _=>by simp[tlS]
 |.rest _ _=>by simp[tlS]
 |.cho _ _ _=>by simp[tlS]
 |.bin _ _ _=>by simp[tlS]
def aQ6:∀t:Tm,∃us,cB t=.tp us
 |.num _=>⟨_,rfl⟩
 |.take _ _=>⟨_,rfl⟩
 |.rest _ _=>⟨_,rfl⟩
 |.cho _ _ _=>⟨_,rfl⟩
 |.bin _ _ _=>⟨_,rfl⟩
def aKz:∀t:Tm,(∃n,t=.num n)∨(∃b ss,t=.take b ss)∨∃x us,cB t=.tp (.s x::us)/\us=(tlS t).map sU/\x≠"number"/\x≠"take"/\∀b ss,t≠.take b ss
 |.num n=> .inl ⟨n,rfl⟩
 |.take b ss=> .inr (.inl ⟨b,ss,rfl⟩)
 |.rest t y=> .inr (.inr ⟨"rest",_,rfl,rfl,by decide+kernel,by decide+kernel,nofun⟩)
 |.cho a b c=> .inr (.inr ⟨"?",_,rfl,rfl,by decide+kernel,by decide+kernel,nofun⟩)
 |.bin k a b=> .inr (.inr ⟨opn k,_,rfl,rfl,by revert k;decide+kernel,by revert k;decide+kernel,nofun⟩)
def sG(d:Nat):Fv:=λus R=>∃t,us=[cB t]/\ht t<=d/\Few t/\∀ys,fH t ys->R (.ow (ys.map tkU))
def jK:aP ["_law_told_here","_law_found_here","_law_part"] ["_law_told_here"] (aF lO):={}
def aKe(F:Fun K "_law_takes" "_law_takes" lO f fd)(c__law_takes:⇑(d+1) "_law_takes" ["_law_told_here"] (spV (sG d)))(T:Txt mg):↥(d+2) f fd ["_law_told_here"] (spV (sG (d+1))):=by
 refine vfn F jK (λcdv A outer s H E hr=>(aG (bJ (bA (bM (huD hr)) bN (bQ bF bO (aB 0) aC) aN) (aH (aQ (bR aD))) aU) (aG (bJ (bA (bM (huD hr)) bN (bQ bF bO (aB 0) aC) aN) (aH (aQ (bR (aA (aCz (aB 0) (sX aC) sW) aD)))) aU) (aG (aZ (i:=1) jK.nd (bR aD)) (aG (iY Cu rfl (aHv (aCz (aB 0) (sX aC) sW)) (gA (i:=2) jK.nd) (aH (bJ (dD (kW .tp nofun T.isinstance T.tuple Nn (aB 2))) (aH (aZ (i:=1) jK.nd (bB bV cM (aB 1) (aK c__law_takes (hr.mono ∅) rfl (aA (aB 2) aD))))) aU))) (aH (aQ (aI5 hr rfl T.sorted T.set (aO (aB 1) aX))))))))) ?_;rintro _ R ⟨t,rfl,hd,fw,q⟩;have no:∀{a b:Str}{p:Prop},a≠b->(U.eq (.s a) (.s b))=true->p:=λh z=>by
  have z:eqV (.str _) (.str _)=true:=z;simp[eqV]at z;exact(h z).elim
 refine⟨rfl,?_⟩;have ye:∀{a:Str}{p:Prop},(U.eq (.s a) (.s a))=false->p:=λ{a} _ z=>by
  have z:eqV (.str a) (.str a)=false:=z;simp[eqV]at z
 rcases aKz t with ⟨n,rfl⟩|⟨b,ss,rfl⟩|⟨x,us,e1,e2,n1,n2,nt⟩
 ·exact⟨_,rfl,trivial,trivial,λ_=>q [] ⟨Jl,λx=>Qe⟩,λz=>ye z⟩
 ·exact⟨_,rfl,trivial,trivial,λz=>no #v[3] z,λ_=>⟨_,rfl,trivial,trivial,λ_=>⟨by show¬(1=0/\_);simp,q [(b,ss)] ⟨Ia ..,λ_=>Qe⟩⟩,λz=>ye z⟩⟩
 rw[e1];have a0:atI (U.s x::us) 0=some (.s x):=pF (show(U.s x::us)[0]? =some (U.s x)from rfl);refine⟨.s x,a0,trivial,trivial,λz=>no n1 z,λ_=>⟨.s x,a0,trivial,trivial,λz=>no n2 z,λ_=>?_⟩⟩;have h1:HT.sIx (U.s x::us).length 0 (some 1)=1:=by
  show min 1 (us.length+1)=1
  lia
 have ec:yV (.s x::us) (some 1) none=us:=by
  unfold yV;rw[h1];show us.take (us.length+1-1)=us;rw[Nat.add_sub_cancel];exact Vk
 refine⟨λz=>by rw[h1]at z;exact absurd z.1 ⋯,?_⟩;rw[ec];subst e2;refine eO (λl ρ=>∃(ks js:List (Sum Tm Int))(ps:List Tk)(y:Sl),l=ks.map sU/\js++ks=tlS t/\ρ=[.sh (.tp (.s x::(tlS t).map sU)),.ow (ps.map tkU),y]/\ps.length<=17*js.length/\∀y,y∈ps↔ ∃k,.inl k∈js/\y∈raw k) ?_ ?_ ⟨tlS t,[],[],_,rfl,rfl,rfl,Am _,by simp⟩
 ·rintro ρ ⟨ks,js,ps,y,el,ej,rfl,pl,pm⟩;obtain rfl:=Cz.mp el.symm;rw[Bs]at ej;subst ej;have kl:=aIz t;obtain⟨zs,zl,zm⟩:=fw;have rk:∀y,y∈ps↔y∈raw t:=λy=>(pm y).trans ⟨λ⟨k,h1,h2⟩=>(aA5 nt y).mpr ⟨k,(aBb t nt k).mp h1,h2⟩,λh=>let⟨k,h1,h2⟩:=(aA5 nt y).mp h;⟨k,(aBb t nt k).mpr h1,h2⟩⟩;exact⟨ps,rfl,∅,λys pw ym=>q ys ⟨pw,λy=>(ym y).trans (rk y)⟩⟩
 ·rintro u r ρ ⟨ks,js,ps,y,el,ej,rfl,pl,pm⟩ ih;obtain⟨k,ks,rfl,rfl,rfl⟩:=Jk.mp el.symm;have kl:=aIz t;have jl:js.length+(ks.length+1)<=3:=by rw[<-ej,An,Aq]at kl;exact kl
  cases k with
  |inr n=>exact⟨_,rfl,nofun,λ_=>ih _ ⟨ks,js++[.inr n],ps,_,rfl,by rw[Cv];exact ej,rfl,by rw[An];show _<=17*(js.length+1);lia,λy=>by simp[pm y]⟩⟩
  |inl k=>
   have hk:k∈kids t:=(aBb t nt k).mp (by rw[<-ej];simp);have fk:Few k:=let⟨zs,zl,zm⟩:=fw;⟨zs,zl,λy hy=>zm y (aIh hk y hy)⟩;obtain⟨vs,ev⟩:=aQ6 k;have tt:tyU (cB k)=some .tp:=by rw[ev];rfl
   refine⟨_,tt,λ_=>?_,nofun⟩;refine⟨k,rfl,sI t hd k hk,fk,λys ik=>?_⟩;have yl:=vV fk ik;refine⟨by rw[Ac,Ac];lia,ih _ ⟨ks,js++[.inl k],ps++ys,_,rfl,by rw[Cv];exact ej,by rw[Em];rfl,by rw[An,An];show _<=17*(js.length+1);lia,λy=>?_⟩⟩;rw[Cd,pm y,ik.2 y];constructor
   ·rintro(⟨j,hj,hy⟩|hy)
    ·exact⟨j,Ea _ hj,hy⟩
    ·exact⟨k,by simp,hy⟩
   ·rintro⟨j,hj,hy⟩;rcases Cd.mp hj with hj|hj
    ·exact .inl ⟨j,hj,hy⟩
    ·cases Br.mp hj;exact .inr hy
def fIn(ns:List Str):List U->(List Str->List U->Prop)->Prop:=λus R=>us.length=ns.length/\R ns us
def uE:aP ["self","value"] ["self","value"] (aF iM):={}
def aNa(F:Fun K "__init__" "Number.__init__" iM f fd)(cN:Cfl K C ["value"]):↥1 f fd ["self","value"] (spI C (fIn ["value"])):=by
 refine F.ok uE (λvs H Q E h=>?_) (λcdv A outer s H vs Q E hr h=>?_)
 ·obtain⟨x,dx,vs',H1,W,B,us,R,rfl,_,_,_,_,ds,⟨l,_⟩,_⟩:=h;rw[Aq, <-ds.length,l];rfl
 ·obtain⟨x,dx,vs',H1,W,B,us,R,rfl,n1,hx,s1,eb,ds,⟨l,hR⟩,q⟩:=h;have nw:¬W x:=λz=>eb.dm x (eb.wb x z) n1;have f0:=eb.same s1;match us,l,vs',ds with
  | [u0],_,_,⟨v0,_,rfl,d0,rfl⟩=>
   refine⟨_,(cI (eV (pv 0) (pv 1) rfl)),?_⟩;refine⟨v0,rfl,_,rfl,x,C,dx,_,rfl,hx,cN.cl,cN.na _ (by simp),by show(0:Nat)<1000;decide,?_⟩;have key:∀{H'},Fw W H1 H'->H' x=some (.ins C dx ((["value"]:List Str).zip [v0]))->Q .non H':=λfw hx=>q ["value"] _ [v0] _ hR fw hx rfl ⟨_,_,rfl,DU.mono (eb.keep fw) _ d0,rfl⟩;exact key (f0.upd n1 nw) aM
def xP:aP ["self","back","steps"] ["self","back","steps"] (aF kJ):={}
def aM8(F:Fun K "__init__" "Take.__init__" kJ f fd)(cN:Cfl K C ["back","steps"]):↥1 f fd ["self","back","steps"] (spI C (fIn ["back","steps"])):=by
 refine F.ok xP (λvs H Q E h=>?_) (λcdv A outer s H vs Q E hr h=>?_)
 ·obtain⟨x,dx,vs',H1,W,B,us,R,rfl,_,_,_,_,ds,⟨l,_⟩,_⟩:=h;rw[Aq, <-ds.length,l];rfl
 ·obtain⟨x,dx,vs',H1,W,B,us,R,rfl,n1,hx,s1,eb,ds,⟨l,hR⟩,q⟩:=h;have nw:¬W x:=λz=>eb.dm x (eb.wb x z) n1;have f0:=eb.same s1;match us,l,vs',ds with
  | [u0,u1],_,_,⟨v0,_,rfl,d0,⟨v1,_,rfl,d1,rfl⟩⟩=>
   refine⟨_,(bC (eV (pv 0) (pv 1) rfl) (cI (eV (pv 0) (pv 2) rfl))),?_⟩;refine⟨v0,rfl,_,rfl,x,C,dx,_,rfl,hx,cN.cl,cN.na _ (by simp),by show(0:Nat)<1000;decide,⟨v1,rfl,_,rfl,x,C,dx,_,rfl,aM,cN.cl,cN.na _ (by simp),by show(1:Nat)<1000;decide,?_⟩⟩;have key:∀{H'},Fw W H1 H'->H' x=some (.ins C dx ((["back","steps"]:List Str).zip [v0,v1]))->Q .non H':=λfw hx=>q ["back","steps"] _ [v0,v1] _ hR fw hx rfl ⟨_,_,rfl,DU.mono (eb.keep fw) _ d0,⟨_,_,rfl,DU.mono (eb.keep fw) _ d1,rfl⟩⟩;exact key ((f0.upd n1 nw).upd n1 nw) aM
def uF:aP ["self","one","other"] ["self","one","other"] (aF iQ):={}
def rC(F:Fun K "__init__" "Paired.__init__" iQ f fd)(cN:Cfl K C ["one","other"]):↥1 f fd ["self","one","other"] (spI C (fIn ["one","other"])):=by
 refine F.ok uF (λvs H Q E h=>?_) (λcdv A outer s H vs Q E hr h=>?_)
 ·obtain⟨x,dx,vs',H1,W,B,us,R,rfl,_,_,_,_,ds,⟨l,_⟩,_⟩:=h;rw[Aq, <-ds.length,l];rfl
 ·obtain⟨x,dx,vs',H1,W,B,us,R,rfl,n1,hx,s1,eb,ds,⟨l,hR⟩,q⟩:=h;have nw:¬W x:=λz=>eb.dm x (eb.wb x z) n1;have f0:=eb.same s1;match us,l,vs',ds with
  | [u0,u1],_,_,⟨v0,_,rfl,d0,⟨v1,_,rfl,d1,rfl⟩⟩=>
   refine⟨_,(bC (eV (pv 0) (pv 1) rfl) (cI (eV (pv 0) (pv 2) rfl))),?_⟩;refine⟨v0,rfl,_,rfl,x,C,dx,_,rfl,hx,cN.cl,cN.na _ (by simp),by show(0:Nat)<1000;decide,⟨v1,rfl,_,rfl,x,C,dx,_,rfl,aM,cN.cl,cN.na _ (by simp),by show(1:Nat)<1000;decide,?_⟩⟩;have key:∀{H'},Fw W H1 H'->H' x=some (.ins C dx ((["one","other"]:List Str).zip [v0,v1]))->Q .non H':=λfw hx=>q ["one","other"] _ [v0,v1] _ hR fw hx rfl ⟨_,_,rfl,DU.mono (eb.keep fw) _ d0,⟨_,_,rfl,DU.mono (eb.keep fw) _ d1,rfl⟩⟩;exact key ((f0.upd n1 nw).upd n1 nw) aM
def xO:aP ["self","one","by"] ["self","one","by"] (aF kI):={}
def aNb(F:Fun K "__init__" "Rest.__init__" kI f fd)(cN:Cfl K C ["one","by"]):↥1 f fd ["self","one","by"] (spI C (fIn ["one","by"])):=by
 refine F.ok xO (λvs H Q E h=>?_) (λcdv A outer s H vs Q E hr h=>?_)
 ·obtain⟨x,dx,vs',H1,W,B,us,R,rfl,_,_,_,_,ds,⟨l,_⟩,_⟩:=h;rw[Aq, <-ds.length,l];rfl
 ·obtain⟨x,dx,vs',H1,W,B,us,R,rfl,n1,hx,s1,eb,ds,⟨l,hR⟩,q⟩:=h;have nw:¬W x:=λz=>eb.dm x (eb.wb x z) n1;have f0:=eb.same s1;match us,l,vs',ds with
  | [u0,u1],_,_,⟨v0,_,rfl,d0,⟨v1,_,rfl,d1,rfl⟩⟩=>
   refine⟨_,(bC (eV (pv 0) (pv 1) rfl) (cI (eV (pv 0) (pv 2) rfl))),?_⟩;refine⟨v0,rfl,_,rfl,x,C,dx,_,rfl,hx,cN.cl,cN.na _ (by simp),by show(0:Nat)<1000;decide,⟨v1,rfl,_,rfl,x,C,dx,_,rfl,aM,cN.cl,cN.na _ (by simp),by show(1:Nat)<1000;decide,?_⟩⟩;have key:∀{H'},Fw W H1 H'->H' x=some (.ins C dx ((["one","by"]:List Str).zip [v0,v1]))->Q .non H':=λfw hx=>q ["one","by"] _ [v0,v1] _ hR fw hx rfl ⟨_,_,rfl,DU.mono (eb.keep fw) _ d0,⟨_,_,rfl,DU.mono (eb.keep fw) _ d1,rfl⟩⟩;exact key ((f0.upd n1 nw).upd n1 nw) aM
def uD:aP ["self","test","one","other"] ["self","test","one","other"] (aF iJ):={}
def aM3(F:Fun K "__init__" "Chosen.__init__" iJ f fd)(cN:Cfl K C ["test","one","other"]):↥1 f fd ["self","test","one","other"] (spI C (fIn ["test","one","other"])):=by
 refine F.ok uD (λvs H Q E h=>?_) (λcdv A outer s H vs Q E hr h=>?_)
 ·obtain⟨x,dx,vs',H1,W,B,us,R,rfl,_,_,_,_,ds,⟨l,_⟩,_⟩:=h;rw[Aq, <-ds.length,l];rfl
 ·obtain⟨x,dx,vs',H1,W,B,us,R,rfl,n1,hx,s1,eb,ds,⟨l,hR⟩,q⟩:=h;have nw:¬W x:=λz=>eb.dm x (eb.wb x z) n1;have f0:=eb.same s1;match us,l,vs',ds with
  | [u0,u1,u2],_,_,⟨v0,_,rfl,d0,⟨v1,_,rfl,d1,⟨v2,_,rfl,d2,rfl⟩⟩⟩=>
   refine⟨_,(bC (eV (pv 0) (pv 1) rfl) (bC (eV (pv 0) (pv 2) rfl) (cI (eV (pv 0) (pv 3) rfl)))),?_⟩;refine⟨v0,rfl,_,rfl,x,C,dx,_,rfl,hx,cN.cl,cN.na _ (by simp),by show(0:Nat)<1000;decide,⟨v1,rfl,_,rfl,x,C,dx,_,rfl,aM,cN.cl,cN.na _ (by simp),by show(1:Nat)<1000;decide,⟨v2,rfl,_,rfl,x,C,dx,_,rfl,aM,cN.cl,cN.na _ (by simp),by show(2:Nat)<1000;decide,?_⟩⟩⟩;have key:∀{H'},Fw W H1 H'->H' x=some (.ins C dx ((["test","one","other"]:List Str).zip [v0,v1,v2]))->Q .non H':=λfw hx=>q ["test","one","other"] _ [v0,v1,v2] _ hR fw hx rfl ⟨_,_,rfl,DU.mono (eb.keep fw) _ d0,⟨_,_,rfl,DU.mono (eb.keep fw) _ d1,⟨_,_,rfl,DU.mono (eb.keep fw) _ d2,rfl⟩⟩⟩;exact key (((f0.upd n1 nw).upd n1 nw).upd n1 nw) aM
def aIa(N:Cn)(d:Nat):Fv:=λus R=>∃t,us=[cB t]/\ht t<=d/\R (.sh (enc N t))
abbrev MkB(P:Ap)(w:Bh)(K:Ab)(mg:Str->#v[8])(base:Heap)(C:Addr)(x:Str)(ns:List Str):Prop:=MkU P w K mg base 1 C x ("self"::ns) (fIn ns)
def pZ:aP ["_law_told_here","_law_one","_law_other"] ["_law_told_here"] (aF nG):={}
def aP1(F:Fun K "_law_made" "_law_made" nG f fd)(M_Number:MkB P w K mg base N.num "Number" ["value"])(M_Take:MkB P w K mg base N.take "Take" ["back","steps"])(M_Rest:MkB P w K mg base N.rest "Rest" ["one","by"])(M_Chosen:MkB P w K mg base N.cho "Chosen" ["test","one","other"])
  (M_Added:MkB P w K mg base (N.bin 0) "Added" ["one","other"]) (M_Lessened:MkB P w K mg base (N.bin 1) "Lessened" ["one","other"]) (M_Multiplied:MkB P w K mg base (N.bin 2) "Multiplied" ["one","other"]) (M_Least:MkB P w K mg base (N.bin 3) "Least" ["one","other"]) (M_Most:MkB P w K mg base (N.bin 4) "Most" ["one","other"])
  (c__law_made:⇑(d+2) "_law_made" ["_law_told_here"] (spV (aIa N d))) (T:Txt mg):↥(d+3) f fd ["_law_told_here"] (spV (aIa N (d+1))):=by
 refine vfn F pZ (λcdv A outer s H E hr=>(aG (bJ (bA (bM (huD hr)) bN (bQ bF bO (aB 0) aC) aN) (aH (aQ (jM M_Number (hr.mono ∅) (aA (bQ bF bO (aB 0) aC) aD)))) aU) (aG (bJ (bA (bM (huD hr)) bN (bQ bF bO (aB 0) aC) aN) (aH (aQ (jM M_Take (hr.mono ∅) (aA (bQ bF bO (aB 0) aC) (aA (bQ bF bO (aB 0) aC) aD))))) aU) (aG (aZ (i:=1) pZ.nd (aK c__law_made (hr.mono ∅) rfl (aA (bQ bF bO (aB 0) aC) aD))) (aG (bJ (bA (bM (huD hr)) bN (bQ bF bO (aB 0) aC) aN) (aH (aQ (jM M_Rest (hr.mono ∅) (aA (aB 1) (aA (bQ bF bO (aB 0) aC) aD))))) aU) (aG (aZ (i:=2) pZ.nd (aK c__law_made (hr.mono ∅) rfl (aA (bQ bF bO (aB 0) aC) aD))) (aG (bJ (bA (bM (huD hr)) bN (bQ bF bO (aB 0) aC) aN) (aH (aQ (jM M_Chosen (hr.mono ∅) (aA (aB 1) (aA (aB 2) (aA (aK c__law_made (hr.mono ∅) rfl (aA (bQ bF bO (aB 0) aC) aD)) aD)))))) aU) (aG (bJ (bA (bM (huD hr)) bN (bQ bF bO (aB 0) aC) aN) (aH (aQ (jM M_Added (hr.mono ∅) (aA (aB 1) (aA (aB 2) aD))))) aU) (aG (bJ (bA (bM (huD hr)) bN (bQ bF bO (aB 0) aC) aN) (aH (aQ (jM M_Lessened (hr.mono ∅) (aA (aB 1) (aA (aB 2) aD))))) aU) (aG (bJ (bA (bM (huD hr)) bN (bQ bF bO (aB 0) aC) aN) (aH (aQ (jM M_Multiplied (hr.mono ∅) (aA (aB 1) (aA (aB 2) aD))))) aU) (aG (bJ (bA (bM (huD hr)) bN (bQ bF bO (aB 0) aC) aN) (aH (aQ (jM M_Least (hr.mono ∅) (aA (aB 1) (aA (aB 2) aD))))) aU) (aH (aQ (jM M_Most (hr.mono ∅) (aA (aB 1) (aA (aB 2) aD)))))))))))))))) ?_;rintro _ R ⟨t,rfl,hd,q⟩;have no:∀{a b:Str}{p:Prop},a≠b->(U.eq (.s a) (.s b))=true->p:=λh z=>by
  have z:eqV (.str _) (.str _)=true:=z;simp[eqV]at z;exact(h z).elim
 have ye:∀{a:Str}{p:Prop},(U.eq (.s a) (.s a))=false->p:=λ{a} _ z=>by
  have z:eqV (.str a) (.str a)=false:=z;simp[eqV]at z
 have kd:=sI t hd;refine⟨rfl,?_⟩;cases t with
 |num n=>exact⟨_,rfl,trivial,trivial,λ_=>⟨_,rfl,rfl,q⟩,λz=>ye z⟩
 |take b ss=>exact⟨_,rfl,trivial,trivial,λz=>no #v[3] z,λ_=>⟨_,rfl,trivial,trivial,λ_=>⟨_,rfl,_,rfl,rfl,q⟩,λz=>ye z⟩⟩
 |rest t y=>
  refine⟨_,rfl,trivial,trivial,λz=>no #v[3] z,λ_=>⟨_,rfl,trivial,trivial,λz=>no #v[3] z,λ_=>⟨_,rfl,t,rfl,kd t (by simp[kids]),?_⟩⟩⟩;exact⟨_,rfl,trivial,trivial,λ_=>⟨_,rfl,rfl,q⟩,λz=>ye z⟩
 |cho a b c=>
  refine⟨_,rfl,trivial,trivial,λz=>no #v[3] z,λ_=>⟨_,rfl,trivial,trivial,λz=>no #v[3] z,λ_=>⟨_,rfl,a,rfl,kd a (by simp[kids]),?_⟩⟩⟩;refine⟨_,rfl,trivial,trivial,λz=>no #v[3] z,λ_=>⟨_,rfl,b,rfl,kd b (by simp[kids]),?_⟩⟩;exact⟨_,rfl,trivial,trivial,λ_=>⟨_,rfl,c,rfl,kd c (by simp[kids]),rfl,q⟩,λz=>ye z⟩
 |bin k a b=>
  have:k=0∨k=1∨k=2∨k=3∨k=4:=(by decide:∀k:Fin 5,k=0∨k=1∨k=2∨k=3∨k=4) k;have ka:=kd a (by simp[kids]);have kb:=kd b (by simp[kids]);rcases this with rfl|rfl|rfl|rfl|rfl
  all_goals
   refine⟨_,rfl,trivial,trivial,λz=>no #v[3] z,λ_=>⟨_,rfl,trivial,trivial,λz=>no #v[3] z,λ_=>⟨_,rfl,a,rfl,ka,?_⟩⟩⟩;refine⟨_,rfl,trivial,trivial,λz=>no #v[3] z,λ_=>⟨_,rfl,b,rfl,kb,?_⟩⟩;refine⟨_,rfl,trivial,trivial,λz=>no #v[3] z,λ_=>?_⟩
  ·exact⟨_,rfl,trivial,trivial,λ_=>⟨rfl,q⟩,λz=>ye z⟩
  all_goals refine⟨_,rfl,trivial,trivial,λz=>no #v[3] z,λ_=>?_⟩
  ·exact⟨_,rfl,trivial,trivial,λ_=>⟨rfl,q⟩,λz=>ye z⟩
  all_goals refine⟨_,rfl,trivial,trivial,λz=>no #v[3] z,λ_=>?_⟩
  ·exact⟨_,rfl,trivial,trivial,λ_=>⟨rfl,q⟩,λz=>ye z⟩
  all_goals refine⟨_,rfl,trivial,trivial,λz=>no #v[3] z,λ_=>?_⟩
  all_goals refine⟨_,rfl,trivial,trivial,λz=>?_,λz=>?_⟩
  ·exact⟨rfl,q⟩
  ·exact ye z
  ·exact no #v[3] z
  ·exact⟨rfl,q⟩
theorem aCj{x:Str}{u:U}{R:Sl->Prop}(q:R (.sh u)):∀{xs:List Str}{us:List U}{k:Nat},xs.Nodup->xs[k]? =some x->us[k]? =some u->wO x xs us R
 | [],_,_,_,h,_=>by simp at h
 |_::_,[],_,_,_,h=>by simp at h
 |a::xs,v::us,0,_,h1,h2=>by
  simp at h1 h2;subst h1 h2;exact .inl ⟨rfl,q⟩
 |a::xs,v::us,k+1,nd,h1,h2=>by
  have h1:xs[k]? =some x:=by simpa using h1
  refine .inr ⟨λe=>?_,aCj q (El.mp nd).2 h1 (by simpa using h2)⟩;subst e;exact(El.mp nd).1 (Cf h1)
def wN6:List Str:=["sizes","rims","told","modulus","rounds","first"]
def wNs(b:Bool):List Str:=if b then wN6++[("word":Str)]else wN6
def wB(ns:List Int)(rs:List Rim)(t:Tm)(mU rU fU:U):List U:=[.ls (ns.map U.n),.ls (rs.map Rim.u),cB t,mU,rU,fU]
def wUs(b:Bool)(ns:List Int)(rs:List Rim)(t:Tm)(mU rU fU wU:U):List U:=wB ns rs t mU rU fU++(if b then [wU]else [])
def xV:∀b,(wNs b).Nodup:=by intro b;cases b<;>decide+kernel
def wF{rs:List Rim}{mU rU fU wU u:U}(k:Nat)(hx:wN6[k]? =some x)(hu:(wB ns rs t mU rU fU)[k]? =some u)(q:R (.sh u)):wO x (wNs b) (wUs b ns rs t mU rU fU wU) R:=by
 refine aCj q (xV b) (k:=k) ?_ ?_
 ·cases b
  ·exact hx
  ·exact(Cq (Ax.mp hx).1).trans hx
 ·exact(Cq (Ax.mp hu).1).trans hu
def smV:V->Prop
 |.non=>True
 |.bl _=>True
 |.int i=>i.natAbs<2 ^ 101
 |.str x=>x="0"∨x="7"
 |_=>False
def aUx:∀{v:V},smV v->∃t,tyU (.v v)=some t
 |.non,_=>⟨_,rfl⟩
 |.bl _,_=>⟨_,rfl⟩
 |.int _,_=>⟨_,rfl⟩
 |.str _,_=>⟨_,rfl⟩
def rwU(r:Bool×List V):U:=if r.1 then .tp (r.2.map .v)else .ls (r.2.map .v)
def dZ(b:Bool)(l:List (Bool×List V)):U:=if b then .tp (l.map rwU)else .ls (l.map rwU)
structure fOk(k:Nat)(l:List (Bool×List V)):Prop where
 len:l.length<=3+k
 each:∀r∈l,r.2.length<=40*4 ^ k/\∀v∈r.2,smV v
def mOk(mU:U):Prop:=∃v,mU=.v v/\smV v
def rOk(rU:U):Prop:=∃a,tyU rU=some a
open Classical in
structure gR(t:Tm)(wd:Option Str):Prop where
 hd:ht t<=13
 pr:fV t<=200
 fw:Few t
 ok:wd=none->ht t<=4/\ff t=none/\(∃n,Lin t n)/\fV t<=60/\∀ys,fH t ys->ys.length<=6
 no:∀x,wd=some x->ff t=some x∨(ff t=none/\∀ys,fH t ys->chk t ys (∃n,Lin t n)=some x)
structure GW(k:Nat)(ns:List Int)(rs:List Rim)(b:Bool)(t:Tm)(mU rU:U)(fl:List (Bool×List V))(wd:Option Str):Prop where
 gs:aB2 ns
 el:rs.length=ns.length
 rk:∀x∈rs,x.ok
 tk:gR t wd
 nb:b=false->wd=none
 mm:mOk mU
 rk2:rOk rU
 fk:fOk k fl
def GoodR(n:Int)(m:Int)(l:List Int):Prop:=(l.length:Int)=n/\l.length<=40/\∀x∈l,0<=x/\x<m
def lsR(ls:List (List Int)):List (Bool×List V):=ls.map λl=>(false,l.map V.int)
def aSn(ls:List (List Int)):dZ false (lsR ls)=.ls (iI ls):=by
 show U.ls ((lsR ls).map rwU)=_;unfold lsR iI;rw[Cp];refine congrArg U.ls (Hr λl _=>?_);show U.ls ((l.map V.int).map .v)=_;rw[Cp];rfl
def aT0(h3:ls.length<=3)(hm:m<=1000000001)(h:∀l∈ls,GoodR n m l):fOk 0 (lsR ls):=by
 refine⟨by unfold lsR;rw[Ac];exact h3,λr hr=>?_⟩;obtain⟨l,hl,rfl⟩:=Az.mp hr;obtain⟨_,h2,h4⟩:=h l hl;refine⟨by show(l.map V.int).length<=40;rw[Ac];exact h2,λv hv=>?_⟩;obtain⟨x,hx,rfl⟩:=Az.mp hv;have:=h4 x hx;show x.natAbs<2 ^ 101;have:x.natAbs<2000000000:=by lia
 exact Kk this ⋯
theorem pJ:∀{t:Tm},Wf t->(∀x∈raw t,aHy x/\1<=x.2.length/\x.2.length<=3)->ff t=none
 |.num n,w,_=>by
  show(bif isIn (.n n) _ _ then _ else _)=_;rw[show isIn (.n n) (-1000000000000) 1000000000000=true by simp[isIn,w.1,w.2]];rfl
 |.take b ss,_,h=>by
  obtain⟨⟨h1,h2,h3⟩,h4,h5⟩:=h (b,ss) Ah;show(bif isIn (.n b) 1 3 then _ else _)=_;rw[show isIn (.n b) 1 3=true by simp[isIn];exact⟨h1,h2⟩];show(bif xR ss then _ else _)=_;have:xR ss=true:=by
   unfold xR;rw[decide_eq_true (show 1<=ss.length from h4),decide_eq_true (show ss.length<=3 from h5)];simp only[Gk,Ou];intro s hs;have:=h3 s hs;simp[isIn,this.1,this.2]
  rw[this];rfl
 |.rest a y,w,h=>by
  show(ff a).or (bif isIn (.n y) 1 1000000000 then _ else _)=_;rw[pJ w.2.2 h,show isIn (.n y) 1 1000000000=true by simp[isIn,w.1,w.2.1]];rfl
 |.cho a b c,w,h=>by
  show(ff a).or ((ff b).or (ff c))=_;rw[pJ w.1 λx hx=>h x (Ea _ hx),pJ w.2.1 λx hx=>h x (Bg _ (Ea _ hx)),pJ w.2.2 λx hx=>h x (Bg _ (Bg _ hx))];rfl
 |.bin _ a b,w,h=>by
  show(ff a).or (ff b)=_;rw[pJ w.1 λx hx=>h x (Ea _ hx),pJ w.2 λx hx=>h x (Bg _ hx)];rfl
variable {CG CJ:Addr}
def aSd:Fv:=λus R=>us=[.wl]/\∀ns rs t m r ls,GW 0 ns rs false t (.n m) (.n r) (lsR ls) none->R (.oo (dkO (wNs false) (wUs false ns rs t (.n m) (.n r) (.ls (iI ls)) .no)))
abbrev tR:List Str:=["_law_well_here","_law_sizes_here","_law_rims","_law_many","_law_size","_law_told_here","_law_modulus","_law_rounds","_law_deep","_law_first","_law_world"]
def cD:aP ["_law_well_here","_law_sizes_here","_law_rims","_law_many","_law_size","_law_told_here","_law_modulus","_law_rounds","_law_deep","_law_first","_law_world"] ["_law_well_here"] (aF gZ):={}
def aP0(F:Fun K "_law_job" "_law_job" gZ f fd)(aJ:#v[e])(aDf:⇑2 "_law_sizes" ["_law_well_here"] (spV aL7))(aGr:⇑2 "_law_rim" ["_law_well_here"] (spV aSf))(uR:⇑3 "_law_some_takes" ["_law_well_here","_law_lines"] (spV aL8))(jO:⇑6 "_law_told" ["_law_well_here","_law_some","_law_deep"] (spV (aIc 4)))(c__law_takes:⇑5 "_law_takes" ["_law_told_here"] (spV (sG 4)))(T:Txt mg):↥7 f fd ["_law_well_here"] (spV aSd):=by
 refine vfn F cD (λcdv A outer s H E hr=>(aG (aZ (i:=1) cD.nd (aK aDf (hr.mono ⋯) rfl (aA (aB 0) aD))) (zT 1 (aG (aS1 (i:=2) (own:=["_law_size"]) (cap:=[("_law_well_here",0)]) cD.nd (aF gZ) tR rfl rfl (λx h=>bY h) #v[3] rfl (vic (cY (aB 1))) ↑(bW (i:=0) (~~~["_law_size","_law_well_here"]) rfl (Ex rfl) (Fy rfl)) (dI ⋯) ↑(aK aGr (hr.mono ⋯) rfl (aA (aB 1) aD))) (zT 2 (aG (aZ (i:=3) cD.nd aC) (aG (iY Cu rfl (cY (aB 1)) (gA (i:=4) cD.nd) (aH (aZ (i:=3) cD.nd (bB jY jR (aB 3) (aB 4))))) (aG (aZ (i:=5) cD.nd (aK jO (hr.mono ⋯) rfl (aA (aB 0) (aA (aK uR (hr.mono ⋯) rfl (aA (aB 0) (aA (bD aV cR T.len Eg (aO (aB 1) aX)) aD))) (aA aC aD))))) (aG (aZ (i:=6) cD.nd (bB bV cM aC (aK aJ (hr.mono ⋯) rfl (aA (aB 0) (aA (bQ bF bO (bR (aA aC (aA aC (aA (bB mD dC (bB mC jR aC aC) aC) aD)))) #v[d]) aD))))) (aG (aZ (i:=7) cD.nd (bB jY jR (bB bV cM aC (aK aJ (hr.mono ⋯) rfl (aA (aB 0) (aA (bD (aCc rfl) aR9 T.min boot_min (aO aC (aO (bB zM jR aC (aB 3)) aX))) aD)))) (dX rZ aDn T.int Rg (aO (qG (jZ (huD hr)) bN #v[d] aC) aX)))) (aG (aZ (i:=8) cD.nd (zR rfl T.max (aO (oW (own:=["_law_back","_law_steps_here"]) (cap:=[]) (aF gZ) tR rfl rfl (λx h=>bY h) #v[3] rfl (vic (cY (aK c__law_takes (hr.mono ⋯) rfl (aA (aB 5) aD)))) ↑(aD4 rfl (mH (bW (i:=0) (~~~["_law_back","_law_steps_here"]) rfl (Ex rfl) (Fy rfl)) (mH (bW (i:=1) (~~~["_law_back","_law_steps_here"]) rfl (Ex rfl) (Fy rfl)) zN))) (aO4 (is:=[0,1]) rfl ⋯) ↑(aB 0)) aX) aC)) (aG (aVn (i:=9) (own:=["_law_turn"]) (cap:=[("_law_well_here",0),("_law_many",3),("_law_modulus",6)]) aPs cD.nd (aF gZ) tR rfl rfl (λx h=>bY h) #v[3] rfl (vic (gQ T.range (aO (aB 8) aX))) (λcs cf C s2 H2 fp=>(bW (i:=0) (~~~["_law_turn","_law_well_here","_law_many","_law_modulus"]) rfl (Ex rfl) (Fy rfl))) (dI ⋯) (λcs cf C s2 H2 fp=>(aVh (own:=["_law_k"]) (icap:=[("_law_well_here",1),("_law_modulus",3)]) (aF gZ) cf rfl rfl #v[3] rfl (vic (gQ T.range (aO (aB 2) aX))) (λcl C' s3 H3 fp'=>(bW (i:=0) (~~~["_law_k","_law_well_here","_law_modulus"]) rfl (Ex rfl) (Fy rfl))) (dI ⋯) (λcl C' s3 H3 fp'=>(aK aJ (hr.mono ⋯) rfl (aA (aB 1) (aA (aB 2) aD))))))) (zT 9 (aG (aZ (i:=10) cD.nd (aI2 (sY (aB 1) (sY (aB 2) (sY (aB 5) (sY (aB 6) aO5)))) #v[3] ⋯)) (aG (aRg 10 (aI2 (sY (aB 7) (sY (aB 9) aO5)) #v[3] ⋯)) (aH (vZ 10))))))))))))))))) ?_;rintro _ R ⟨rfl,q⟩;refine⟨rfl,rfl,λns gs=>?_⟩;have l1:=gs.l1;have l3:=gs.l3;refine⟨by rw[Ac];lia,jP (λx=>∃r:Rim,x=r.u/\r.ok) (λu hu c hc=>⟨rfl,λr ro=>hc _ ⟨r,rfl,ro⟩⟩) λxs xl xp=>?_⟩;obtain⟨rs,rfl,hr⟩:=pull xp;rw[Ac,Ac]at xl;show gK (kY 4) _ _ (ns.map U.n) [.sh .wl,.sh (.ls (ns.map U.n)),.sh (.ls (rs.map Rim.u)),.sh (.n 1),.no,.no,.no,.no,.no,.no,.no];refine eO (λl ρ=>∃(don rst:List Int)(x:Sl),l=rst.map U.n/\don++rst=ns/\ρ=[.sh .wl,.sh (.ls (ns.map U.n)),.sh (.ls (rs.map Rim.u)),.sh (.n (bL don)),x,.no,.no,.no,.no,.no,.no]) ?_ ?_ ⟨[],ns,_,rfl,rfl,rfl⟩
 rotate_left
 ·rintro u l ρ ⟨don,rst,x,e1,e2,rfl⟩ ih;cases rst with
  |nil=>cases e1
  |cons n rst=>
   cases e1;have hn:=gs.ok n (by rw[<-e2];simp);exact⟨.inr ⟨∅,∅⟩,ih _ ⟨don++[n],rst,.sh (.n n),rfl,by rw[<-e2];simp,by rw[show bL (don++[n])=bL don*n from aAm don 1 n];rfl⟩⟩
 rintro ρ ⟨don,rst,x,e1,e2,rfl⟩;obtain rfl:rst=[]:=Cz.mp e1.symm;rw[Bs]at e2;subst e2;have p1:1<=bL don:=rE don 1 (λn h=>(gs.ok n h).1) ⋯;have p40:=gs.mn;have hd:1<=48 / bL don:=by rw[Rw ∅];lia
 refine⟨_,rfl,by rw[Ac];lia,λys gy=>⟨3,_,ys,⋯,rfl,gy,λt gn=>?_⟩⟩;refine⟨⟨⋯,⋯,⋯⟩,3,rfl,⋯,⋯,λr2 a2 b2=>?_⟩;have key:∃mm:Int,atI [U.n 5,U.n 200,U.n (10 ^ (9:Int).toNat-1)] r2=some (.n mm)/\0<mm/\mm<=999999999:=three (R:=λu=>∃mm:Int,u=.n mm/\0<mm/\mm<=999999999) a2 b2 ⟨_,rfl,⋯,⋯⟩ ⟨_,rfl,⋯,⋯⟩ ⟨_,rfl,⋯,⋯⟩ |>.elim λu ⟨e,mm,eu,h⟩=>⟨mm,eu▸e,h⟩;obtain⟨mm,em,m0,m9⟩:=key;refine⟨_,em,mm,rfl,m0,∅,λv v0 vm=>?_⟩;refine⟨⟨∅,∅⟩,_,rfl,?_,?_,λr3 a3 b3=>⟨16,rfl,⋯,⋯,λz z0 z16=>⟨trivial,trivial,?_,?_⟩⟩⟩
 ·show 0<(if 48 / bL don<12 then 48 / bL don else 12);split<;>lia
 ·show(if 48 / bL don<12 then 48 / bL don else 12)<2 ^ 62;split<;>lia
 ·exact .inr ((by decide:∀b:Bool, -2 ^ 64<(if b=true then(1:Int)else 0)/\(if b=true then(1:Int)else 0)<2 ^ 64) _)
 have b3:r3<(if 48 / bL don<12 then 48 / bL don else 12):=b3;have b4:1+r3<=12/\1+r3<=48 / bL don:=by split at b3<;>lia
 show aOw 7 [.sh .wl,.sh (.ls (don.map U.n)),.sh (.ls (rs.map Rim.u)),.sh (.n (bL don)),x,.sh (cB t),.sh (.n (2+v)),.no,.no,.no,.no] _ (.sh (.n ((1+r3)*(if(!(U.eq (.n z) (.n 7)))=true then 1 else 0))));have rb:∃r,(1+r3)*(if(!(U.eq (.n z) (.n 7)))=true then 1 else 0)=r/\0<=r/\r<=12/\r*bL don<=120:=by
  refine⟨_,rfl,?_⟩;have h48:(1+r3)*bL don<=48:=by
   have h1:=Ov b4.2 (show 0<=bL don by lia);have h2:=Int.ediv_mul_le 48 (show bL don≠0 by lia)
   lia
  split
  ·rw[Tz];lia
  ·rw[Int.mul_zero,Int.zero_mul];lia
 obtain⟨r,er,r0,r12,rp⟩:=rb;rw[er];have fy:∀x∈raw t,aHy x/\x.2.length=don.length:=λx hx=>by
  have:=gy.g x (gn.rw_ x hx);rw[Ac]at this;exact this
 have fw:Few t:=⟨ys,by have:=gy.l;lia,gn.rw_⟩;have h4:ht t<=4:=gn.ht;have gj:∀ls:List (List Int),ls.length<=3->(∀l∈ls,GoodR (bL don) (2+v) l)->GW 0 don rs false t (.n (2+v)) (.n r) (lsR ls) none:=λls h3 hl=>
  ⟨gs,xl,hr,⟨∅,Bd gn.pr ⋯,fw,λ_=>⟨h4,pJ gn.wf λx hx=>⟨(fy x hx).1,by rw[(fy x hx).2];exact⟨l1,l3⟩⟩,⟨don.length,λx hx=>(fy x hx).2⟩,Bd gn.pr ⋯,λzs hz=>by
   have:=(xF hz.1).length_le_of_subset (l₂:=ys) λx hx=>gn.rw_ x ((hz.2 x).mp hx);have:=gy.l
   lia⟩,nofun⟩,λ_=>rfl,⟨_,rfl,by show(2+v).natAbs<2 ^ 101;have:(2+v).natAbs<2000000000:=(by lia);exact Kk this ⋯⟩,⟨_,rfl⟩,aT0 h3 ∅ hl⟩
 have zp:∀{zs},fH t zs->∀y∈zs,1<=y.1/\y.1<=3:=λh y hy=>let g:=(fy y ((h.2 y).mp hy)).1;⟨g.1,g.2.1⟩;have same:∀{zs ws},fH t zs->fH t ws->∀z,z∈zs↔z∈ws:=λh h' z=>(h.2 z).trans (h'.2 z).symm;refine⟨t,rfl,h4,fw,λzs ik=>⟨by rw[Ac];have:=vV fw ik;lia,aF3 (g:=λy=> .n y.1) (α:=Unit) (λy hy k hk=>⟨rfl,hk⟩) ⟨zs.map (·.1),by rw[Cp];rfl,λh=>?_,λm hm ha=>?_⟩⟩⟩
 ·have dq:∀ws,fH t ws->dpt ws=1:=λws hz=>by
   have e0:=Cz.mp h;have:ws=[]:=Gf.mpr λz hz'=>by have:=(same hz ik z).mp hz';rw[e0]at this;cases this
   rw[this];rfl
  have m13:(1:Int)<=1/\(1:Int)<=3:=by decide
  refine⟨∅,∅,by rw[cQ];lia,jP (λx=>∃l:List Int,x=.ls (l.map U.n)/\GoodR (bL don) (2+v) l) (λu hu c hc=>?_) λxs xl' xp=>?_⟩
  ·refine⟨∅,∅,by rw[cQ];lia,jP (λx=>∃y:Int,x=.n y/\(0<=y/\y<2+v)) (λu hu c hc=>⟨2+v,rfl,∅,∅,λy y0 y1=>hc _ ⟨y,rfl,y0,y1⟩⟩) λxs xl xp=>?_⟩;obtain⟨l,rfl,hl⟩:=pull xp;rw[Ac,cQ]at xl;exact hc _ ⟨l,rfl,∅,∅,hl⟩
  ·obtain⟨ls,rfl,hl⟩:=pull xp;rw[Ac,cQ]at xl';exact⟨_,_,rfl,_,_,rfl,by decide+kernel,⋯,q don rs t (2+v) r ls (gj ls ∅ hl)⟩
 ·have dq:∀ws,fH t ws->dpt ws=m:=λws hz=>by
   obtain⟨y,hy,e⟩:=Az.mp hm;refine aGw (λy hy=>by have:=zp hz y hy;lia) (Az.mpr ⟨y,(same hz ik y).mpr hy,e⟩) λa ha'=>?_;obtain⟨z,hz',e'⟩:=Az.mp ha';exact ha a (Az.mpr ⟨z,(same hz ik z).mp hz',e'⟩)
  have m13:1<=m/\m<=3:=by
   obtain⟨y,hy,e⟩:=Az.mp hm;have:=zp ik y hy
   lia
  refine⟨∅,∅,by rw[cQ];lia,jP (λx=>∃l:List Int,x=.ls (l.map U.n)/\GoodR (bL don) (2+v) l) (λu hu c hc=>?_) λxs xl' xp=>?_⟩
  ·refine⟨∅,∅,by rw[cQ];lia,jP (λx=>∃y:Int,x=.n y/\(0<=y/\y<2+v)) (λu hu c hc=>⟨2+v,rfl,∅,∅,λy y0 y1=>hc _ ⟨y,rfl,y0,y1⟩⟩) λxs xl xp=>?_⟩;obtain⟨l,rfl,hl⟩:=pull xp;rw[Ac,cQ]at xl;exact hc _ ⟨l,rfl,∅,∅,hl⟩
  ·obtain⟨ls,rfl,hl⟩:=pull xp;rw[Ac,cQ]at xl';exact⟨_,_,rfl,_,_,rfl,by decide+kernel,⋯,q don rs t (2+v) r ls (gj ls ∅ hl)⟩
def aBx:aP ["_law_thing","_law_low","_law_high"] ["_law_thing","_law_low","_law_high"] (aF pU):={}
def aKj(F:Fun K "_law_whole" "_law_whole" pU f fd)(T:Txt mg):↥1 f fd ["_law_thing","_law_low","_law_high"] (spV fQ):=by
 refine vfn F aBx (λcdv A outer s H E hr=>(aH (aQ (uJ (kW .int nofun T.isinstance T.int Rg (aB 0)) (uJ (aO2 (kW .bl nofun T.isinstance T.bool boot_bool (aB 0))) (uL (aF8 yK yK dC dC (aB 1) (aB 0) (aB 2)))))))) ?_;rintro _ R ⟨u,t,a,b,rfl,ht,q⟩;refine⟨rfl,t,ht,?_⟩;match u,ht,q with
 |.v (.int i),ht,q=>
  cases ht;refine⟨λ_=>⟨_,rfl,⟨λ_=>⟨λh=>?_,λh=>?_⟩,nofun⟩⟩,nofun⟩
  ·simp only[isIn,h,Gk]at q;exact q
  ·simp only[isIn,h,Dh]at q;exact q
 |.v .non,ht,q=>cases ht;exact⟨nofun,λ_=>q⟩
 |.v (.bl _),ht,q=>cases ht;exact⟨λ_=>⟨_,rfl,nofun,λ_=>q⟩,nofun⟩
 |.v (.str _),ht,q=>cases ht;exact⟨nofun,λ_=>q⟩
 |.tp _,ht,q=>cases ht;exact⟨nofun,λ_=>q⟩
 |.ls _,ht,q=>cases ht;exact⟨nofun,λ_=>q⟩
 |.dk _ _,ht,q=>cases ht;exact⟨nofun,λ_=>q⟩
abbrev wD(b:Bool)(ns:List Int)(rs:List Rim)(t:Tm)(mU rU fU:U)(wd:Option Str):U:=.dk (wNs b) (wUs b ns rs t mU rU fU (osU wd))
def aAl:Fv:=λus R=>∃(b:Bool)(ns:List Int)(rs:List Rim)(t:Tm)(m:Int)(rU fU:U)(wd:Option Str)(k n:Int),us=[wD b ns rs t (.n m) rU fU wd,.n k,.n n]/\xK fU/\R (.sh (.b (dF k n m fU)))
abbrev uN:List Str:=["_law_world","_law_deep","_law_many","_law_first","_law_row"]
def iB:aP ["_law_world","_law_deep","_law_many","_law_first","_law_row"] ["_law_world","_law_deep","_law_many"] (aF fC):={}
def aD0(F:Fun K "_law_first_good" "_law_first_good" fC f fd)(lE:⇑1 "_law_whole" ["_law_thing","_law_low","_law_high"] (spV fQ))(T:Txt mg):↥2 f fd ["_law_world","_law_deep","_law_many"] (spV aAl):=by
 refine vfn F iB (λcdv A outer s H E hr=>(aG (aZ (i:=3) iB.nd (cX (eZ hr) (aB 0))) (aG (bJ (jW (mQ (dW (dD (kW .ls nofun T.isinstance T.list Jt (aB 3)))) (iD (bA (jZ (huD hr)) bN (bD aV cR T.len Eg (aO (aB 3) aX)) (aB 1))))) (aH (aQ oV)) aU) (aG (iY Cu rfl (cY (aB 3)) (gA (i:=4) iB.nd) (aG (bJ (jW (mQ (dW (dD (kW .ls nofun T.isinstance T.list Jt (aB 4)))) (iD (bA (jZ (huD hr)) bN (bD aV cR T.len Eg (aO (aB 4) aX)) (aB 2))))) (aH (aQ oV)) aU) (aH (bJ (dW (dD (bD uT (aDm rfl) T.all Ws (aO (oW (own:=["_law_worth"]) (cap:=[("_law_world",0)]) (aF fC) uN rfl rfl (λx h=>bY h) #v[3] rfl (vic (cY (aB 4))) ↑(bW (i:=0) (~~~["_law_worth","_law_world"]) rfl (Ex rfl) (Fy rfl)) (dI ⋯) ↑(aK lE (hr.mono ⋯) rfl (aA (aB 0) (aA aC (aA (bB mD dC (cX (eZ hr) (aB 1)) aC) aD))))) aX)))) (aH (aQ oV)) aU)))) (aH (aQ oV)))))) ?_;rintro _ R ⟨b,ns,rs,t,m,rU,fU,wd,k,n,rfl,g,q⟩;refine⟨rfl,wF 5 rfl rfl ?_⟩;by_cases hl:∃l,fU=.ls l
 ·obtain⟨l,rfl⟩:=hl;obtain⟨g1,g2⟩:=g;rw[show dF k n m (.ls l)=(decide ((l.length:Int)=k) && l.all λx=>nC n m x)from rfl]at q;refine⟨_,rfl,nofun,λ_=>⟨trivial,trivial,λz=>?_,λz=>?_⟩⟩
  ·have z:(!decide ((l.length:Int)=k))=true:=z;rw[show decide ((l.length:Int)=k)=false by simpa using z,Dh]at q;exact q
  have z:(!decide ((l.length:Int)=k))=false:=z;rw[show decide ((l.length:Int)=k)=true by simpa using z,Gk]at q;refine eO (λl' ρ=>∃x:Sl,(∀r∈l',aFu r)/\R (.sh (.b (l'.all λx=>nC n m x)))/\ρ=[.sh (wD b ns rs t (.n m) rU (.ls l) wd),.sh (.n k),.sh (.n n),.sh (.ls l),x]) ?_ ?_ ⟨_,g2,q,rfl⟩
  ·rintro ρ ⟨x,_,q,rfl⟩;exact q
  ·rintro u r ρ ⟨x,gr,q,rfl⟩ ih;have gu:=gr u Ah;rw[Nr]at q;by_cases hu:∃l,u=.ls l
   ·obtain⟨lu,rfl⟩:=hu;obtain⟨u1,u2⟩:=gu;rw[show nC n m (.ls lu)=(decide ((lu.length:Int)=n) && lu.all λx=>isIn x 0 (m-1))from rfl]at q;refine⟨_,rfl,nofun,λ_=>⟨trivial,trivial,λz=>?_,λz=>?_⟩⟩
    ·have z:(!decide ((lu.length:Int)=n))=true:=z;rw[show decide ((lu.length:Int)=n)=false by simpa using z,Dh,Dh]at q;exact q
    have z:(!decide ((lu.length:Int)=n))=false:=z;rw[show decide ((lu.length:Int)=n)=true by simpa using z,Gk]at q;refine⟨u1,fJ (h:=λx=> .b (isIn x 0 (m-1))) (λx hx k hk=>?_) ⟨lu.map λx=>isIn x 0 (m-1),by rw[Cp];rfl,?_⟩⟩
    ·obtain⟨a,ha⟩:=u2 x hx;exact wF 3 rfl rfl ⟨_,a,_,_,rfl,ha,hk⟩
    ·have e:(lu.map λx=>isIn x 0 (m-1)).all id=lu.all λx=>isIn x 0 (m-1):=by simp[Oj]
     show((!(lu.map λx=>isIn x 0 (m-1)).all id)=true->_)/\((!(lu.map λx=>isIn x 0 (m-1)).all id)=false->_);rw[e];cases ea:lu.all λx=>isIn x 0 (m-1)with
     |false=>
      rw[ea,Dh]at q;exact⟨λ_=>q,nofun⟩
     |true=>
      rw[ea,Gk]at q;exact⟨nofun,λ_=>ih _ ⟨_,λr' h'=>gr r' (Ag _ h'),q,rfl⟩⟩
   ·have nl:∀l,u≠.ls l:=λl e=>hu ⟨l,e⟩;obtain⟨a,ha,e⟩:=aMx (n:=n) (m:=m) gu nl;rw[e,Dh]at q;have f:=aIj ha nl;exact⟨a,ha,λ_=>⟨λ_=>q,nofun⟩,λz=>by rw[f]at z;cases z⟩
 ·have nl:∀l,fU≠.ls l:=λl e=>hl ⟨l,e⟩;obtain⟨a,ha,e⟩:=aIk (k:=k) (n:=n) (m:=m) g nl;rw[e]at q;have f:=aIj ha nl;exact⟨a,ha,λ_=>⟨λ_=>q,nofun⟩,λz=>by rw[f]at z;cases z⟩
open Classical in
noncomputable def due(ns:List Int)(t:Tm)(ys:List Tk)(mU rU fU:U):Option Str->Str×Option Str
 |some x=>("term",some x)
 |none=>match uW ns t ys mU rU fU with
  |some x=>("job",some x)
  |none=>("made",none)
def aWe:Fv:=λus R=>∃(b:Bool)(ns:List Int)(rs:List Rim)(t:Tm)(mU rU fU:U)(wd:Option Str),us=[wD b ns rs t mU rU fU wd]/\aB2 ns/\gR t wd/\(b=false->wd=none)/\(∃a,tyU mU=some a)/\(∃a,tyU rU=some a)/\xK fU/\∀ys,fH t ys->R (.sh (.tp [.s (due ns t ys mU rU fU wd).1,osU (due ns t ys mU rU fU wd).2]))
def aTz{n:Nat}{y:Tk}(l:Lin t n)(hy:y∈raw t)(k:Nat):¬Lin t k↔y.2.length≠k:=⟨λh e=>h (e▸(l y hy).symm▸l),λh l'=>h (l' y hy)⟩
def aTo{rs:List Rim}{mU rU fU:U}(q:R (.sh .no)):getD "word" (wNs b) (wUs b ns rs t mU rU fU (osU none)) R:=by
 cases b
 ·exact .inl ⟨by decide+kernel,q⟩
 ·exact .inr (aCj (k:=6) q (xV true) rfl rfl)
abbrev aGg:List Str:=["_law_world","_law_told_here","_law_takes_here","_law_many","_law_size"]
def iG:aP ["_law_world","_law_told_here","_law_takes_here","_law_many","_law_size"] ["_law_world"] (aF pQ):={}
open Classical in
def aT4(F:Fun K "_law_due" "_law_due" pQ f fd)(lE:⇑1 "_law_whole" ["_law_thing","_law_low","_law_high"] (spV fQ))(c__law_takes:⇑5 "_law_takes" ["_law_told_here"] (spV (sG 4)))(uQ:⇑2 "_law_first_good" ["_law_world","_law_deep","_law_many"] (spV aAl))(T:Txt mg):↥6 f fd ["_law_world"] (spV aWe):=by
 refine vfn F iG (λcdv A outer s H E hr=>(aG (aZ (i:=1) iG.nd (cX (eZ hr) (aB 0))) (aG (bJ (aEm (aRb hr (aB 0))) (aH (aQ (aY (aA aN (aA (cX (eZ hr) (aB 0)) aD))))) aU) (aG (aZ (i:=2) iG.nd (aK c__law_takes (hr.mono ⋯) rfl (aA (aB 1) aD))) (zT 2 (aG (bJ (jW (aPc (bA (jZ (huD hr)) bN (aB 2) (bR aD)) (aI8 (bA (jZ (huD hr)) bN (bD aV cR T.len Eg (aO (bQ bF bO (bQ bF bO (aB 2) aC) aC) aX)) (bD aV cR T.len Eg (aO (cX (eZ hr) (aB 0)) aX)))))) (aH (aQ (aY (aA aN (aA aN aD))))) aU) (aG (aZ (i:=3) iG.nd aC) (aG (iY Cu rfl (cY (cX (eZ hr) (aB 0))) (gA (i:=4) iG.nd) (aH (aZ (i:=3) iG.nd (bB jY jR (aB 3) (aB 4))))) (aG (bJ (dW (dD (aK lE (hr.mono ⋯) rfl (aA (cX (eZ hr) (aB 0)) (aA aC (aA (bB mC jR aC aC) aD)))))) (aH (aQ (aY (aA aN (aA aN aD))))) aU) (aG (bJ (jW (mQ (dW (dD (aK lE (hr.mono ⋯) rfl (aA (cX (eZ hr) (aB 0)) (aA aC (aA aC aD)))))) (iD (bA vJ dC (bB jY jR (cX (eZ hr) (aB 0)) (aB 3)) aC)))) (aH (aQ (aY (aA aN (aA aN aD))))) aU) (aG (bJ (dW (dD (aK uQ (hr.mono ⋯) rfl (aA (aB 0) (aA (zR rfl T.max (aO (oW (own:=["_law_back","_law_steps_here"]) (cap:=[]) (aF pQ) aGg rfl rfl (λx h=>bY h) #v[3] rfl (vic (cY (aB 2))) ↑(aD4 rfl (mH (bW (i:=0) (~~~["_law_back","_law_steps_here"]) rfl (Ex rfl) (Fy rfl)) (mH (bW (i:=1) (~~~["_law_back","_law_steps_here"]) rfl (Ex rfl) (Fy rfl)) zN))) (aO4 (is:=[0,1]) rfl ⋯) ↑(aB 0)) aX) aC) (aA (aB 3) aD)))))) (aH (aQ (aY (aA aN (aA aN aD))))) aU) (aH (aQ (aY (aA aN (aA iC aD)))))))))))))))) ?_;rintro _ R ⟨b,ns,rs,t,mU,rU,fU,wd,rfl,gs,tk,nb,⟨am,gm⟩,⟨ar,gr⟩,gf,q⟩;refine⟨rfl,wF 2 rfl rfl ?_⟩;cases wd with
 |some x=>
  obtain⟨ys,ik⟩:=aOp P w t;have q:=q ys ik;have eb:b=true:=by
   cases b with
   |false=>cases nb rfl
   |true=>rfl
  subst eb;have k6:∀{R:Sl->Prop},R (.sh (.s x))->wO "word" (wNs true) (wUs true ns rs t mU rU fU (.s x)) R:=λh=>aCj (k:=6) h (xV true) rfl rfl;exact⟨_,_,rfl,.inr (k6 ⟨λ_=>show wO "word" _ _ _ from k6 q,nofun⟩)⟩
 |none=>
 obtain⟨h4,f0,⟨nl,lin⟩,p60,y6⟩:=tk.ok rfl;refine⟨_,_,rfl,?_⟩;refine aTo (b:=b) (ns:=ns) (rs:=rs) (t:=t) (mU:=mU) (rU:=rU) (fU:=fU) ?_;refine⟨nofun,λ_=>⟨t,rfl,h4,tk.fw,λys ik=>?_⟩⟩;have q:=q ys ik;have q:R (.sh (.tp [.s (match uW ns t ys mU rU fU with
  |some x=>(("job":Str),some x)
  |none=>("made",none)).1,osU (match uW ns t ys mU rU fU with
  |some x=>(("job":Str),some x)
  |none=>("made",none)).2])):=q
 have re:ys=[]↔raw t=[]:=by
  constructor
  ·rintro rfl;exact Gf.mpr λy hy=>nomatch (ik.2 y).mpr hy
  ·intro e;exact Gf.mpr λy hy=>by have:=(ik.2 y).mp hy;rw[e]at this;cases this
 refine(λ(rest:(¬(raw t≠[]/\¬Lin t ns.length))->(?R:Prop))=> ?main) ?restp
 case main=>
  refine⟨zQ 37 ys,trivial,λz=>?_,λz=>⟨nofun,λ_=>?_⟩⟩
  rotate_left
  ·have z:(!U.eq (.ls (ys.map tkU)) (.ls []))=false:=z;rw[aEi]at z;have e:ys=[]:=by simpa using z
   exact rest λh=>h.1 (re.mp e)
  ·have z:(!U.eq (.ls (ys.map tkU)) (.ls []))=true:=z;rw[aEi]at z;have hy:0<ys.length:=Mo.mpr (by simpa using z);have m0:=(ik.2 ys[0]).mp (Ew hy);have rn:raw t≠[]:=λe=>by rw[e]at m0;cases m0
   refine⟨tkU ys[0],pF (show(ys.map tkU)[0]? =some (tkU ys[0]) by rw[Ay,Ak hy];rfl),_,rfl,wF 0 rfl rfl ⟨trivial,trivial,?_⟩⟩;have ec:(!U.eq (.n ((ys[0].2.map U.n).length:Nat)) (.n ((ns.map U.n).length:Nat)))=decide (raw t≠[]/\¬Lin t ns.length):=by
    rw[aLw,Ac,Ac];have:=aTz lin m0 ns.length;by_cases e:ys[0].2.length=ns.length
    ·rw[decide_eq_false (λh=>(this.mp h.2) e),e];simp
    ·rw[decide_eq_true ⟨rn,this.mpr e⟩];have:¬((ys[0].2.length:Int)=ns.length):=λh=>e ∅;simp[this]
   refine⟨λz2=>?_,λz2=>?_⟩
   ·have h:=of_decide_eq_true (ec.symm.trans z2);rw[uW,if_pos h]at q;exact q
   ·exact rest (of_decide_eq_false (ec.symm.trans z2))
 case restp=>
  intro hl;rw[uW,if_neg hl]at q;refine wF 0 rfl rfl ?_;show gK (kY 4) _ _ (ns.map U.n) [.sh (wD b ns rs t mU rU fU none),.sh (cB t),.sh (.ls (ys.map tkU)),.sh (.n 1),.no];refine eO (λl ρ=>∃(don rst:List Int)(x:Sl),l=rst.map U.n/\don++rst=ns/\ρ=[.sh (wD b ns rs t mU rU fU none),.sh (cB t),.sh (.ls (ys.map tkU)),.sh (.n (bL don)),x]) ?_ ?_ ⟨[],ns,_,rfl,rfl,rfl⟩
  rotate_left
  ·rintro u l ρ ⟨don,rst,x,e1,e2,rfl⟩ ih;cases rst with
   |nil=>cases e1
   |cons n rst=>
    cases e1;have hn:=gs.ok n (by rw[<-e2];simp);exact⟨.inr ⟨∅,∅⟩,ih _ ⟨don++[n],rst,.sh (.n n),rfl,by rw[<-e2];simp,by rw[show bL (don++[n])=bL don*n from aAm don 1 n];rfl⟩⟩
  rintro ρ ⟨don,rst,x,e1,e2,rfl⟩;obtain rfl:rst=[]:=Cz.mp e1.symm;rw[Bs]at e2;subst e2;have p1:1<=bL don:=rE don 1 (λn h=>(gs.ok n h).1) ⋯;have p40:=gs.mn;refine wF 3 rfl rfl ⟨⟨⋯,⋯,⋯⟩,_,am,_,_,rfl,gm,?_⟩;rw[show(10:Int) ^ (9:Int).toNat=1000000000 by decide];cases em:isIn mU 2 1000000000 with
  |false=>
   rw[if_pos em]at q;exact⟨λ_=>q,nofun⟩
  |true=>
  rw[if_neg (by rw[em];decide)]at q;refine⟨nofun,λ_=>?_⟩;obtain⟨m,rfl⟩:∃m,mU=.n m:=⟨_,(dR em).1⟩;refine wF 4 rfl rfl ⟨_,ar,_,_,rfl,gr,?_⟩;cases er:isIn rU 0 12 with
  |false=>
   rw[if_pos (.inl er)]at q;exact⟨λ_=>⟨λ_=>q,nofun⟩,nofun⟩
  |true=>
  obtain⟨r1,r2⟩:=(dR er).2;obtain⟨r,rfl⟩:∃r,rU=.n r:=⟨_,(dR er).1⟩;have r1:0<=r:=r1;have r2:r<=12:=r2;refine⟨nofun,λ_=>wF 4 rfl rfl ⟨.inl ⟨∅,∅⟩,λz=>?_,λz=>?_⟩⟩
  ·rw[if_pos (.inr (of_decide_eq_true z))]at q;exact q
  have z:¬120<r*bL don:=of_decide_eq_false z;rw[if_neg (λh=>h.elim (λh=>by rw[er]at h;cases h) z)]at q;have yp:∀y∈ys,0<=y.1:=λy h=>by
   have:1<=y.1:=(dR (tK f0 y ((ik.2 y).mp h)).2).2.1
   lia
  have q:(if dF (dpt ys) (bL don) m fU=false then R (.sh (.tp [.s "job",.s "first"]))else R (.sh (.tp [.s "made",.no]))):=by
   split
   ·rw[if_pos (by assumption)]at q;exact q
   ·rw[if_neg (by assumption)]at q;exact q
  have fin:((!dF (dpt ys) (bL don) m fU)=true->R (.sh (.tp [.s "job",.s "first"])))/\((!dF (dpt ys) (bL don) m fU)=false->R (.sh (.tp [.s "made",.no]))):=by
   cases ea:dF (dpt ys) (bL don) m fU with
   |false=>rw[if_pos ea]at q;exact⟨λ_=>q,nofun⟩
   |true=>rw[if_neg (by rw[ea];decide)]at q;exact⟨nofun,λ_=>q⟩
  refine⟨by rw[Ac];have:=y6 ys ik;lia,aF3 (g:=λy=> .n y.1) (α:=Unit) (λy hy k hk=>⟨rfl,hk⟩) ⟨ys.map (·.1),by rw[Cp];rfl,λh=>?_,λmm hm ha=>?_⟩⟩
  ·have e:ys=[]:=Cz.mp h;have ed:dpt ys=1:=by rw[e];rfl
   rw[ed]at fin;exact⟨b,don,rs,t,m,.n r,fU,none,_,_,rfl,gf,fin⟩
  ·rw[aGw yp hm ha]at fin;exact⟨b,don,rs,t,m,.n r,fU,none,_,_,rfl,gf,fin⟩
def aVo(n:Nat)(l:List V):U.dts n (l.map .v):=by
 induction l with
 |nil=>cases n<;>trivial
 |cons r rs ih=>cases n<;>exact⟨trivial,ih⟩
def aXg(n:Nat)(r:Bool×List V):(rwU r).dt (n+1):=by
 obtain⟨b,l⟩:=r;cases b<;>exact aVo n l
def aEc(n:Nat)(l:List (Bool×List V)):U.dts (n+1) (l.map rwU):=by
 induction l with
 |nil=>trivial
 |cons r rs ih=>exact⟨aXg n r,ih⟩
def aUt(b:Bool)(l:List (Bool×List V)):(dZ b l).dt 40:=by cases b<;>exact aEc 38 l
def aH7{α:Type}(f:α->U)(l:List α)(a b:Option Int):yV (l.map f) a b=((l.drop (HT.sIx l.length 0 a)).take (HT.sIx l.length l.length b-HT.sIx l.length 0 a)).map f:=by
 unfold yV;rw[Ac,Ww,Wx]
def lsB(fl:List (Bool×List V)):List (Bool×List V):=fl.map λr=>(false,r.2)
def fOk.lsB{fl:List (Bool×List V)}(h:fOk k fl):fOk k (lsB fl):=by
 refine⟨by unfold Q.lsB;rw[Ac];exact h.len,λr hr=>?_⟩;obtain⟨r',h',rfl⟩:=Az.mp hr;exact h.each r' h'
def fOk.up{fl:List (Bool×List V)}(h:fOk k fl):fOk (k+1) fl:=⟨Nat.le_succ_of_le h.len,λr hr=>⟨Bd (h.each r hr).1 (Nh 40 (Jo ⋯ (Gp k))),(h.each r hr).2⟩⟩
def fOk.set{k n:Nat}{fl:List (Bool×List V)}{r:Bool×List V}(h:fOk k fl)(hr:r.2.length<=40*4 ^ k/\∀v∈r.2,smV v):fOk k (fl.set n r):=by
 refine⟨by rw[Bm];exact h.len,λx hx=>?_⟩;rcases List.mem_or_eq_of_mem_set hx with hx|rfl
 ·exact h.each x hx
 ·exact hr
def fOk.sub{fl gl:List (Bool×List V)}(h:fOk k fl)(hs:gl.Sublist fl):fOk k gl:=⟨Bd hs.length_le h.len,λr hr=>h.each r (hs.subset hr)⟩
def aWf:Fv:=λus R=>∃(b fb:Bool)(ns:List Int)(rs:List Rim)(t:Tm)(mU rU:U)(fl:List (Bool×List V))(wd:Option Str)(k:Nat),us=[.wl,wD b ns rs t mU rU (dZ fb fl) wd]/\fOk k fl/\fl≠[]/\k<=2/\mOk mU/\∀gl,fOk (k+1) gl->R (.ow (gl.map rwU))/\∀gb,R (.sh (dZ gb gl))
abbrev oM:List Str:=["_law_well_here","_law_world","_law_first","_law_way","_law_at","_law_row","_law_k","_law_odd"]
def bZ:aP ["_law_well_here","_law_world","_law_first","_law_way","_law_at","_law_row","_law_k","_law_odd"] ["_law_well_here","_law_world"] (aF dU):={}
def aT6(F:Fun K "_law_odd_first" "_law_odd_first" dU f fd)(aJ:#v[e])(T:Txt mg):↥2 f fd ["_law_well_here","_law_world"] (spV aWf):=by
 refine vfn F bZ (λcdv A outer s H E hr=>(aG (aS1 (i:=2) (own:=["_law_row"]) (cap:=[]) bZ.nd (aF dU) oM rfl rfl (λx h=>bY h) #v[3] rfl (vic (aYo (cY (cX (eZ hr) (aB 1))) (aHv (cX (eZ hr) (aB 1))))) ↑(bW (i:=0) (~~~["_law_row"]) rfl (Ex rfl) (Fy rfl)) (dI ⋯) ↑(dX (jB rfl) sE T.list Jt (aO (aB 0) aX))) (aG (aZ (i:=3) bZ.nd #v[d]) (aG (aZ (i:=4) bZ.nd (aK aJ (hr.mono ⋯) rfl (aA (aB 0) (aA (bD aV cR T.len Eg (aO (aB 2) aX)) aD)))) (aG (aZ (i:=5) bZ.nd (bQ bF bO (aB 2) (aB 4))) (aG (aZ (i:=6) bZ.nd (aK aJ (hr.mono ⋯) rfl (aA (aB 0) (aA (bB bV cM (bD aV cR T.len Eg (aO (aB 5) aX)) aC) aD)))) (aG (bJ (bA (bM (huD hr)) bN (aB 3) aC) (aH (aQ (bB bV cM (aB 2) (bR (aA (dX (jB rfl) sE T.list Jt (aO (bQ bF bO (aB 2) aC) aX)) aD))))) aU) (aG (bJ (bA (bM (huD hr)) bN (aB 3) aC) (aH (aQ (aCz (aB 2) (sX aC) sW))) aU) (aG (bJ (bA (bM (huD hr)) bN (aB 3) aC) (aH (aEp 2 (aB 4) (bB bV cM (aB 5) (bR (aA aC aD))))) (aH (bJ (bA (bM (huD hr)) bN (aB 3) aC) (aH (aEp 2 (aB 4) (aCz (aB 5) (sX aC) sW))) (aH (bJ (bA aNh dC (aB 3) aC) (aG (aZ (i:=7) bZ.nd (bQ bF bO (bR (aA (cX (eZ hr) (aB 1)) (aA (bB mD dC (uK aC) #v[d]) (aA oV (aA aN (aA iC (aA oV aD))))))) #v[d])) (aH (aEp 2 (aB 4) (bB bV cM (bB bV cM (aCz (aB 5) sW (sX (aB 6))) (bR (aA (aB 7) aD))) (aCz (aB 5) (sX (bB bV cM (aB 6) aC)) sW))))) (aH (aQ (bQ bF bO (bR (aA (dX (qW rfl) aAf T.tuple Nn (aO (aB 2) aX)) (aA (oW (own:=["_law_one"]) (cap:=[]) (aF dU) oM rfl rfl (λx h=>bY h) #v[3] rfl (aZw (aB 2)) ↑(bW (i:=0) (~~~["_law_one"]) rfl (Ex rfl) (Fy rfl)) (dI ⋯) ↑(dX (qW rfl) aAf T.tuple Nn (aO (aB 0) aX))) aD))) (bB mD dC (aB 3) aC))))))))) (aH (vZ 2))))))))))) ?_;rintro _ R ⟨b,fb,ns,rs,t,mU,rU,fl,wd,k,rfl,fk,nf,k5,⟨mv,rfl,ms⟩,q⟩;have l0:0<fl.length:=Mo.mpr nf;have l1:=fk.len;refine⟨rfl,?_⟩;have start:∀(R:List U->Prop),(fl.map rwU).length<=10000/\R (fl.map rwU)->((vLs (aU8 (aEk 1) "first")) [.sh .wl,.sh (wD b ns rs t (.v mv) rU (dZ fb fl) wd),.no,.no,.no,.no,.no,.no] λl=>l.length<=10000/\R l)∨((vTp (aU8 (aEk 1) "first")) [.sh .wl,.sh (wD b ns rs t (.v mv) rU (dZ fb fl) wd),.no,.no,.no,.no,.no,.no] λl=>l.length<=10000/\R l):=λR h=>by
  cases fb
  ·exact .inl (wF 5 rfl rfl h)
  ·exact .inr (wF 5 rfl rfl h)
 refine start _ ⟨by rw[Ac];lia,fJ (h:=λu=>match u with|.ls l=> .ls l|.tp l=> .ls l|u=>u) (λu hu c hc=>?_) ?_⟩
 ·obtain⟨⟨rb,rl⟩,hr,rfl⟩:=Az.mp hu;cases rb<;>exact hc
 rw[Jx,Cp];have e0:fl.map ((λu=>match u with|.ls l=> .ls l|.tp l=> .ls l|u=>u)∘rwU)=(lsB fl).map rwU:=by
  unfold lsB;rw[Cp];refine Hr λr _=>?_;obtain⟨rb,rl⟩:=r;cases rb<;>rfl
 rw[e0];have fk:=fk.lsB;have l0:0<(lsB fl).length:=by unfold lsB;rw[Ac];exact l0
 have l1:=fk.len;have rf:∀r∈lsB fl,r.1=false:=λr hr=>by obtain⟨_,_,rfl⟩:=Az.mp hr;rfl
 generalize lsB fl=gl at fk l0 l1 rf;have kp:4 ^ (k+1)=4*4 ^ k:=by rw[Yq,Yr]
 have kq:1<=4 ^ k:=Nat.one_le_pow _ _ ⋯;have k16:4 ^ k<=16:=Bd (Jo ⋯ k5) ⋯;have at_ls:∀n(h:n<gl.length),∃r:List V,gl[n]=(false,r)/\r.length<=40*4 ^ k/\∀v∈r,smV v:=λn h=>⟨gl[n].2,Pb (rf _ (Ew h)) rfl,fk.each _ (Ew h)⟩;have ix_:∀n(h:n<gl.length)(r:List V),gl[n]=(false,r)->(gl.map rwU)[n]? =some (.ls (r.map .v)):=λn h r e=>by
  rw[Ay,Ak h,e];rfl
 refine⟨9,rfl,⋯,⋯,λway w0 w9=>⟨_,rfl,by rw[Ac];lia,by rw[Ac];lia,λat_ a0 a1=>?_⟩⟩;rw[Ac]at a1;obtain⟨n,rfl⟩:∃n:Nat,at_=n:=⟨at_.toNat,∅⟩;have hn:n<gl.length:=by lia
 obtain⟨r,er,rl,rs_⟩:=at_ls n hn;refine⟨.ls (r.map .v),pF (ix_ n hn r er),?_⟩;refine⟨_,rfl,by rw[Ac];lia,by rw[Ac];lia,λkk c0 c1=>?_⟩;have put:∀r':List V,r'.length<=40*4 ^ (k+1)->(∀v∈r',smV v)->R (.ow ((gl.map rwU).set n (.ls (r'.map .v)))):=λr' h1 h2=>by
  have:=(q (gl.set n (false,r')) (fk.up.set ⟨h1,h2⟩)).1;rw[List.map_set]at this;exact this
 have cutl:∀(a b:Option Int),∃c:List V,yV (r.map .v) a b=c.map .v/\c.length<=r.length/\∀v∈c,smV v:=λa b=>⟨_,aH7 _ _ _ _,by rw[Hk,Ji];lia,λv hv=>rs_ v (Mh (Sr hv))⟩;have ixn:ixN (gl.map rwU).length (n:Int)=some n:=by
  rw[Ac];unfold ixN;rw[if_pos ∅,if_pos ∅];simp
 refine⟨trivial,trivial,λ_=>?_,λ_=>⟨trivial,trivial,λ_=>?_,λ_=>⟨trivial,trivial,λ_=>?_,λ_=>⟨trivial,trivial,λ_=>?_,λ_=>⟨λz=>?_,λz=>?_⟩⟩⟩⟩⟩
 ·obtain⟨r0,e0,l0',s0⟩:=at_ls 0 l0;refine⟨.ls (r0.map .v),pF (ix_ 0 l0 r0 e0),by rw[Ac];show gl.length+1<=10000;lia,?_⟩;have:=(q (gl++[(false,r0)]) ⟨by rw[An];show gl.length+1<=3+(k+1);lia,λx hx=>by
   rcases Cd.mp hx with hx|hx
   ·exact fk.up.each x hx
   ·rw[Br.mp hx];exact⟨by show r0.length<=_;lia,s0⟩⟩).1
  rw[Em]at this;exact this
 ·show R (.ow (yV (gl.map rwU) (some 1) none));rw[aH7];exact(q _ (fk.up.sub ((Od _ _).trans (Uk _ _)))).1
 ·refine⟨by rw[Ac];show r.length+1<=10000;lia,_,n,rfl,ixn,?_⟩;have:=put (r++[.int 0]) (by rw[An];show r.length+1<=_;lia) λv hv=>by
   rcases Cd.mp hv with hv|hv
   ·exact rs_ v hv
   ·rw[Br.mp hv];show(0:Int).natAbs<2 ^ 101;decide
  rw[Em]at this;exact this
 ·obtain⟨c,ec,cl,cs⟩:=cutl (some 1) none;have:=put c ∅ cs;rw[<-ec]at this;exact⟨_,n,rfl,ixn,this⟩
 ·refine wF 3 rfl rfl ⟨9,rfl,⋯,⋯,λd d0 d9=>⟨6,rfl,⋯,⋯,λi i0 i6=>?_⟩⟩;have key:∃v,atI [U.v mv,.n (-1-d),.b true,.s "0",.no,.b false] i=some (.v v)/\smV v:=by
   have:i=0∨i=1∨i=2∨i=3∨i=4∨i=5:=by lia
   rcases this with rfl|rfl|rfl|rfl|rfl|rfl
   ·exact⟨_,rfl,ms⟩
   ·refine⟨_,rfl,?_⟩;show(-1-d).natAbs<2 ^ 101;have:(-1-d).natAbs<100:=by lia
    exact Kk this ⋯
   ·exact⟨_,rfl,trivial⟩
   ·exact⟨_,rfl,.inl rfl⟩
   ·exact⟨_,rfl,trivial⟩
   ·exact⟨_,rfl,trivial⟩
  obtain⟨v,ev,vs⟩:=key;refine⟨_,ev,?_⟩;obtain⟨c,ec,cl,cs⟩:=cutl none (some kk);obtain⟨c',ec',cl',cs'⟩:=cutl (some (kk+1)) none;have:=put (c++[v]++c') (by rw[An,An];show c.length+1+c'.length<=_;lia) λx hx=>by
   rcases Cd.mp hx with hx|hx
   ·rcases Cd.mp hx with hx|hx
    ·exact cs x hx
    ·rw[Br.mp hx];exact vs
   ·exact cs' x hx
  rw[Em,Em, <-ec, <-ec']at this;have e1:(yV (r.map .v) none (some kk)).length<=r.length:=by rw[ec,Ac];exact cl
  have e2:(yV (r.map .v) (some (kk+1)) none).length<=r.length:=by rw[ec',Ac];exact cl'
  refine⟨by show _+1<=10000;lia,by rw[An];show _+1+_<=10000;lia,_,n,rfl,ixn,this⟩
 ·have w7:¬way<7:=of_decide_eq_false z;refine⟨by rw[Ac];lia,fJ (h:=λu=>match u with|.ls l=> .tp l|u=>u) (λu hu c hc=>?_) ?_⟩
  ·obtain⟨x,hx,rfl⟩:=Az.mp hu;obtain⟨m,hm,rfl⟩:=Gj hx;obtain⟨r',e',_⟩:=at_ls m hm;rw[e']at hc⊢;exact hc
  ·have eg:(gl.map rwU).map (λu=>match u with|.ls l=> .tp l|u=>u)=(gl.map λr=>(true,r.2)).map rwU:=by
    rw[Cp,Cp];refine Hr λx hx=>?_;obtain⟨m,hm,rfl⟩:=Gj hx;obtain⟨r',e',_⟩:=at_ls m hm;rw[Ul,Ul,e'];rfl
   rw[Jx,eg];refine two ∅ ∅ ?_ ?_
   ·exact(q gl fk.up).2 true
   ·exact(q (gl.map λr=>(true,r.2)) ⟨by rw[Ac];exact fk.up.len,λx hx=>by
     obtain⟨y,hy,rfl⟩:=Az.mp hx;exact fk.up.each y hy⟩).2 false
def sO{g:TVg}{b:TVS}{E:lW}(n:Nat)(I:Nat->EV->Prop)(hn:∀ρ,I n ρ->E.nx ρ)(hc:∀(k:Nat) ρ r,k<n->I k ρ->(∀ρ',I (k+1) ρ'->gK g b E r ρ')->gK g b E (.n k::r) ρ){ρ:EV}(h:I 0 ρ){l:List U}(hl:l=gO 0 n):gK g b E l ρ:=by
 subst hl;refine eO (λl ρ=>∃k,k<=n/\l=(List.range' k (n-k)).map (λi:Nat=>U.n (0+(i:Int)))/\I k ρ) ?_ ?_ ⟨0,Bt _,by unfold gO;rw[List.range_eq_range',Nat.sub_zero],h⟩
 ·rintro ρ ⟨k,hk,e,h⟩;have:n-k=0:=by
   have:=congrArg Pl e;simpa using this.symm
  obtain rfl:k=n:=by lia
  exact hn ρ h
 ·rintro u r ρ ⟨k,hk,e,h⟩ ih;have hk':k<n:=by
   by_cases z:k<n
   ·exact z
   ·rw[show n-k=0 by lia]at e;cases e
  rw[show n-k=(n-(k+1))+1 by lia,List.range'_succ]at e;cases e;show gK g b E (U.n (0+(k:Int))::_) ρ;rw[Int.zero_add];exact hc k ρ _ hk' h λρ' h'=>ih ρ' ⟨k+1,hk',rfl,h'⟩
def fr_{g:TVg}{b:TVS}{E:lW}{l:List U}{ρ ρ':EV}(e:ρ=ρ')(h:gK g b E l ρ'):gK g b E l ρ:=e▸h
def aIv(n:Nat)(x:Int):(Al n [U.n x]).flatten=(Al n x).map U.n:=by
 induction n with
 |zero=>rfl
 |succ n ih=>rw[Ds,Ds,Ge,ih];rfl
def tDp:Nat->Tm
 |0=> .num 1
 |k+1=> .bin 0 (.num k) (tDp k)
def tRc:Nat->Tm
 |0=> .num 2
 |k+1=> .rest (tRc k) 5
def aKx:Nat->Tm
 |0=> .bin 4 (.num 3) (.num 4)
 |k+1=> .bin 3 (aKx k) (aKx k)
def tWd:Nat->Tm
 |0=>tRc 4
 |k+1=> .bin 0 (aKx (k+1)) (tWd k)
def zF(n:Nat):Nat->Tm
 |0=> .take 1 (Al n (-1))
 |k+1=> .bin 1 (zF n k) (.take (1+(k:Int) % 3) (Al n k))
def aOo(n:Nat):Tm:=.bin 2 (.take 1 (Al n 0)) (.take 1 (Al (1+n % 3) 0))
open Classical in
def qU(h1:ht t<=13)(h2:fV t<=200)(h3:(raw t).length<18)(h4:ff t=some x∨(ff t=none/\∀ys,fH t ys->chk t ys (∃n,Lin t n)=some x)):gR t (some x):=⟨h1,h2,⟨raw t,h3,λ_ h=>h⟩,nofun,λy e=>by cases e;exact h4⟩
open Classical in
def aDd(n:Nat)(l:Lin t n)(h:(12<ht t/\x="depth")∨(ht t<=12/\60<fV t/\x="parts")∨(ht t<=12/\fV t<=60/\(raw t).Nodup/\6<(raw t).length/\x="takes"))(ys:List Tk)(ik:fH t ys):chk t ys (∃n,Lin t n)=some x:=by
 unfold chk;rw[if_pos ⟨n,l⟩];rcases h with ⟨h,rfl⟩|⟨h,h',rfl⟩|⟨h,h',nd,h6,rfl⟩
 ·rw[if_pos h]
 ·rw[if_neg ∅,if_pos h']
 ·rw[if_neg ∅,if_neg ∅,if_pos];have:=nd.length_le_of_subset (l₂:=ys) λy hy=>(ik.2 y).mpr hy
  lia
open Classical in
def aPk(n:Nat)(h1:1<=n)(h3:n<=3):gR (aOo n) (some "lines"):=by
 have nl:¬ ∃k,Lin (aOo n) k:=λ⟨k,l⟩=>by
  have a:=l (1,Al n 0) (by unfold aOo;simp[raw]);have b:=l (1,Al (1+n % 3) 0) (by unfold aOo;simp[raw]);simp only[Cy]at a b
  lia
 have:n=1∨n=2∨n=3:=by lia
 refine qU ?_ ?_ ?_ (.inr ⟨?_,λys _=>?_⟩)
 ·exact(by decide:(2:Nat)<=13)
 ·exact(by decide:(3:Nat)<=200)
 ·exact(by decide:(2:Nat)<18)
 ·rcases this with rfl|rfl|rfl<;>decide+kernel
 ·unfold chk;rw[if_neg nl]
def aPj(n:Nat)(h1:1<=n)(h3:n<=3):gR (.num (10 ^ (12:Int).toNat+1)) (some "number")/\gR (.rest (.num 1) 0) (some "by")/\gR (.take 4 [0]) (some "back")/\gR (.take 1 (Al n 10)) (some "steps")/\gR (aOo n) (some "lines")/\gR (tDp 12) (some "depth")/\gR (tWd 3) (some "parts")/\gR (zF n 6) (some "takes"):=by
 have hn:n=1∨n=2∨n=3:=by lia
 refine⟨qU ⋯ ⋯ ⋯ (.inl #v[3]),qU ⋯ ⋯ ⋯ (.inl #v[3]),qU ⋯ ⋯ ⋯ (.inl #v[3]),qU (by exact(by decide:(1:Nat)<=13)) (by exact(by decide:(1:Nat)<=200)) (by exact(by decide:(1:Nat)<18)) (.inl ?_),aPk n h1 h3,
  qU ⋯ ⋯ ⋯ (.inr ⟨by decide+kernel,aDd 0 (λx hx=>nomatch (show x∈([]:List Tk)from hx)) (.inl ⟨⋯,rfl⟩)⟩),qU ⋯ ⋯ ⋯ (.inr ⟨by decide+kernel,aDd 0 (λx hx=>nomatch (show x∈([]:List Tk)from hx)) (.inr (.inl ⟨⋯,⋯,rfl⟩))⟩),?_⟩
 ·rcases hn with rfl|rfl|rfl<;>decide+kernel
 ·have key:∀n,(n=1∨n=2∨n=3)->(∀x∈raw (zF n 6),x.2.length=n):=by
   rintro n (rfl|rfl|rfl)<;>decide+kernel
  have l:=key n hn;rcases hn with rfl|rfl|rfl
  all_goals
   exact qU ⋯ ⋯ ⋯ (.inr ⟨by decide+kernel,aDd _ l (.inr (.inr ⟨⋯,⋯,by decide+kernel,⋯,rfl⟩))⟩)
def aWd:Fv:=λus R=>∃n:Nat,us=[.wl,.n n]/\1<=n/\n<=3/\∀t x,gR t (some x)->R (.sh (.tp [cB t,.s x]))
def aW:aP ["_law_well_here","_law_lines","_law_deep","_law_wide","_law_row","_law_k","_law_one","_law_two","_law_some"] ["_law_well_here","_law_lines"] (aF kO):={}
def aT3(F:Fun K "_law_bad_term" "_law_bad_term" kO f fd)(aJ:#v[e])(T:Txt mg):↥2 f fd ["_law_well_here","_law_lines"] (spV aWd):=by
 refine vfn F aW (λcdv A outer s H E hr=>(aG (aZ (i:=2) aW.nd (aY (aA aN (aA aC aD)))) (aG (aZ (i:=3) aW.nd (aY (aA aN (aA aC aD)))) (aG (aZ (i:=4) aW.nd (aY (aA aN (aA aC (aA (bB oU sS (aY (aA (uK aC) aD)) (aB 1)) aD))))) (aG (iY Cu rfl (gQ T.range (aO aC aX)) (gA (i:=5) aW.nd) (aH (aZ (i:=2) aW.nd (aY (aA aN (aA (aY (aA aN (aA (aB 5) aD))) (aA (aB 2) aD))))))) (aG (iY Cu rfl (gQ T.range (aO aC aX)) (gA (i:=5) aW.nd) (aH (aZ (i:=3) aW.nd (aY (aA aN (aA (aB 3) (aA aC aD))))))) (aG (aZ (i:=6) aW.nd (aY (aA aN (aA (aY (aA aN (aA aC aD))) (aA (aY (aA aN (aA aC aD))) aD))))) (aG (iY Cu rfl (gQ T.range (aO aC aX)) (gA (i:=5) aW.nd) (aG (aZ (i:=6) aW.nd (aY (aA aN (aA (aB 6) (aA (aB 6) aD))))) (aH (aZ (i:=3) aW.nd (aY (aA aN (aA (aB 6) (aA (aB 3) aD)))))))) (aG (iY Cu rfl (gQ T.range (aO aC aX)) (gA (i:=5) aW.nd) (aH (aZ (i:=4) aW.nd (aY (aA aN (aA (aB 4) (aA (aY (aA aN (aA (bB bV cM aC (bB pN jR (aB 5) aC)) (aA (bB oU sS (aY (aA (aB 5) aD)) (aB 1)) aD)))) aD))))))) (aG (aZ (i:=7) aW.nd (aY (aA aN (aA (aY (aA aN (aA aC (aA (bB oU sS (aY (aA aC aD)) (aB 1)) aD)))) (aA (aY (aA aN (aA aC (aA (bB oU sS (aY (aA aC aD)) (bB bV cM aC (bB pN jR (aB 1) aC))) aD)))) aD))))) (aG (aZ (i:=8) aW.nd (bR (aA (aY (aA (aY (aA aN (aA (bB bV cM (bB mC jR aC aC) aC) aD))) (aA aN aD))) (aA (aY (aA (aY (aA aN (aA (aY (aA aN (aA aC aD))) (aA aC aD)))) (aA aN aD))) (aA (aY (aA (aY (aA aN (aA aC (aA (aY (aA aC aD)) aD)))) (aA aN aD))) aD))))) (aG (aZ (i:=8) aW.nd (bB bV cM (aB 8) (bR (aA (aY (aA (aY (aA aN (aA aC (aA (bB oU sS (aY (aA aC aD)) (aB 1)) aD)))) (aA aN aD))) (aA (aY (aA (aB 7) (aA aN aD))) (aA (aY (aA (aB 2) (aA aN aD))) (aA (aY (aA (aB 3) (aA aN aD))) aD))))))) (aH (aQ (bQ bF bO (bB bV cM (aB 8) (bR (aA (aY (aA (aB 4) (aA aN aD))) aD))) #v[d]))))))))))))))) ?_;rintro _ R ⟨n,rfl,n1,n3,q⟩;have rp:∀(x:Int)(k:Nat),U.tp (Al ((k:Int)).toNat [U.n x]).flatten=.tp ((Al k x).map U.n):=λx k=>by rw[Om,aIv]
 refine⟨rfl,∅,∅,⋯,⋯,?_⟩;rw[rp];have rg:∀{k:Nat}{p:Prop},k<=1000->p->(-(2 ^ 62)<=(k:Int)/\(k:Int)<2 ^ 62/\p):=λh h'=>⟨∅,∅,h'⟩;show(-(2 ^ 62)<=(12:Int)/\(12:Int)<2 ^ 62/\gK (kY 5) _ _ (gO 0 12) _);generalize h12_:gO 0 12=l12_;refine rg (k:=12) ⋯ (fr_ (ρ':=[.sh .wl,.sh (.n n),.sh (cB (tDp 0)),.sh (.tp [.s "number",.n 2]),.sh (cB (zF n 0)),.no,.no,.no,.no]) rfl ?_);refine sO 12 (λk ρ=>∃x,ρ=[.sh .wl,.sh (.n n),.sh (cB (tDp k)),.sh (.tp [.s "number",.n 2]),.sh (cB (zF n 0)),x,.no,.no,.no]) ?_ ?_ ⟨_,rfl⟩ h12_.symm
 rotate_left
 ·rintro k ρ r hk ⟨x,rfl⟩ ih;exact ih _ ⟨_,rfl⟩
 rintro _ ⟨x1,rfl⟩;generalize hD:cB (tDp 12)=D0;show(-(2 ^ 62)<=(4:Int)/\(4:Int)<2 ^ 62/\gK (kY 5) _ _ (gO 0 4) _);generalize h4_:gO 0 4=l4_;refine rg (k:=4) ⋯ (fr_ (ρ':=[.sh .wl,.sh (.n n),.sh D0,.sh (cB (tRc 0)),.sh (cB (zF n 0)),x1,.no,.no,.no]) rfl ?_);refine sO 4 (λk ρ=>∃x,ρ=[.sh .wl,.sh (.n n),.sh D0,.sh (cB (tRc k)),.sh (cB (zF n 0)),x,.no,.no,.no]) ?_ ?_ ⟨_,rfl⟩ h4_.symm
 rotate_left
 ·rintro k ρ r hk ⟨x,rfl⟩ ih;exact ih _ ⟨_,rfl⟩
 rintro _ ⟨x2,rfl⟩;show(-(2 ^ 62)<=(3:Int)/\(3:Int)<2 ^ 62/\gK (kY 5) _ _ (gO 0 3) _);generalize h3_:gO 0 3=l3_;refine rg (k:=3) ⋯ (fr_ (ρ':=[.sh .wl,.sh (.n n),.sh D0,.sh (cB (tWd 0)),.sh (cB (zF n 0)),x2,.sh (cB (aKx 0)),.no,.no]) rfl ?_);refine sO 3 (λk ρ=>∃x,ρ=[.sh .wl,.sh (.n n),.sh D0,.sh (cB (tWd k)),.sh (cB (zF n 0)),x,.sh (cB (aKx k)),.no,.no]) ?_ ?_ ⟨_,rfl⟩ h3_.symm
 rotate_left
 ·rintro k ρ r hk ⟨x,rfl⟩ ih;exact ih _ ⟨_,rfl⟩
 rintro _ ⟨x3,rfl⟩;generalize hW:cB (tWd 3)=W0;generalize cB (aKx 3)=O0;show(-(2 ^ 62)<=(6:Int)/\(6:Int)<2 ^ 62/\gK (kY 5) _ _ (gO 0 6) _);generalize h6_:gO 0 6=l6_;refine rg (k:=6) ⋯ (fr_ (ρ':=[.sh .wl,.sh (.n n),.sh D0,.sh W0,.sh (cB (zF n 0)),x3,.sh O0,.no,.no]) rfl ?_);refine sO 6 (λk ρ=>∃x,ρ=[.sh .wl,.sh (.n n),.sh D0,.sh W0,.sh (cB (zF n k)),x,.sh O0,.no,.no]) ?_ ?_ ⟨_,rfl⟩ h6_.symm
 rotate_left
 ·rintro k ρ r hk ⟨x,rfl⟩ ih;refine⟨by show(0:Int)<3;decide,∅,∅,nofun,by simp,?_⟩;rw[rp];exact ih _ ⟨_,rfl⟩
 rintro _ ⟨x4,rfl⟩;generalize hT:cB (zF n 6)=T0;have rp2:∀x:Int,U.tp (Al ((1+(n:Int) % 3)).toNat [U.n x]).flatten=.tp ((Al (1+n % 3) x).map U.n):=λx=>by
  rw[show(1+(n:Int) % 3)=((1+n % 3:Nat):Int) by lia];exact rp x _
 refine⟨∅,∅,nofun,by simp,?_⟩;rw[rp];refine⟨by show(0:Int)<3;decide,∅,∅,nofun,by simp,?_⟩;rw[rp2];show(aVz 10 12/\_);refine⟨⟨⋯,⋯,⋯⟩,?_⟩;refine⟨∅,∅,nofun,by simp,?_⟩;rw[rp];refine⟨by simp,?_⟩;refine⟨by simp,8,rfl,⋯,⋯,λi i0 i8=>?_⟩;obtain⟨b1,b2,b3,b4,b5,b6,b7,b8⟩:=aPj n n1 n3;have key:i=0∨i=1∨i=2∨i=3∨i=4∨i=5∨i=6∨i=7:=by lia
 rcases key with rfl|rfl|rfl|rfl|rfl|rfl|rfl|rfl
 ·exact⟨_,rfl,q _ _ b1⟩
 ·exact⟨_,rfl,q _ _ b2⟩
 ·exact⟨_,rfl,q _ _ b3⟩
 ·exact⟨_,rfl,q _ _ b4⟩
 ·exact⟨_,rfl,q _ _ b5⟩
 ·exact⟨_,rfl,hD▸q _ _ b6⟩
 ·exact⟨_,rfl,hW▸q _ _ b7⟩
 ·exact⟨_,rfl,hT▸q _ _ b8⟩
def aI9(b:Bool):(wNs b).length<=48:=by cases b<;>decide
def aVu(h:wN6[k]? =some x):(wNs b)[k]? =some x:=by
 cases b
 ·exact h
 ·exact(Cq (Ax.mp h).1).trans h
def sV{rs:List Rim}{mU rU fU wU u:U}{us:List U}{R:List Str->List U->Prop}(k:Nat)(hx:wN6[k]? =some x)(hk:k<6)(e:(wB ns rs t mU rU fU).set k u=us)(q:R (wNs b) (us++if b then [wU]else [])):putD (wNs b) (wUs b ns rs t mU rU fU wU) x u R:=by
 refine .inr ⟨k,xV b,aVu hx,?_⟩;have:(wUs b ns rs t mU rU fU wU).set k u=us++if b then [wU]else []:=by
  unfold wUs;rw[List.set_append_left _ _ (show k<(wB ns rs t mU rU fU).length from hk),e]
 rw[this];exact q
def aFr{rs:List Rim}{mU rU fU wU u:U}{R:List Str->List U->Prop}(h:b=false->wU=.no)(q:R (wNs true) (wUs true ns rs t mU rU fU u)):putD (wNs b) (wUs b ns rs t mU rU fU wU) "word" u R:=by
 cases b
 ·exact .inl ⟨by decide+kernel,q⟩
 ·exact .inr ⟨6,xV true,rfl,q⟩
def GW.up{rs:List Rim}{mU rU:U}{fl:List (Bool×List V)}(g:GW k ns rs b t mU rU fl wd):GW (k+1) ns rs b t mU rU fl wd:=⟨g.gs,g.el,g.rk,g.tk,g.nb,g.mm,g.rk2,g.fk.up⟩
def t0(n:Nat):Tm:=.bin 0 (.take 1 (Al (1+n % 3) 0)) (.num 1)
def aXn(n:Nat)(h1:1<=n)(h3:n<=3):gR (t0 n) none:=by
 refine⟨(by decide:(2:Nat)<=13),(by decide:(3:Nat)<=200),⟨raw (t0 n),(by decide:(1:Nat)<18),λ_ h=>h⟩,λ_=>⟨(by decide:(2:Nat)<=4),?_,⟨1+n % 3,λx hx=>?_⟩,(by decide:(3:Nat)<=60),λys ik=>?_⟩,nofun⟩
 ·have:n=1∨n=2∨n=3:=by lia
  rcases this with rfl|rfl|rfl<;>decide+kernel
 ·rw[Br.mp (show x∈[((1:Int),Al (1+n % 3) (0:Int))]from hx)];exact Cy
 ·have:=(xF ik.1).length_le_of_subset (l₂:=raw (t0 n)) λx hx=>(ik.2 x).mp hx;have e:(raw (t0 n)).length=1:=rfl
  lia
inductive aK7(u0:U)(names:List Str)(us:List U)(R:(List Str->List U->Prop)):Prop
 |mk (k:Nat) (ns:List Int) (rs:List Rim) (b fb:Bool) (t:Tm) (mU rU:U) (fl:List (Bool×List V)) (wd:Option Str) (q0_:u0=.wl) (q1_:names=wNs b) (q2_:us=wUs b ns rs t mU rU (dZ fb fl) (osU wd)) (q3_:GW k ns rs b t mU rU fl wd) (q4_:k<=2) (q5_:∀b fb t mU rU fl wd,GW (k+1) ns rs b t mU rU fl wd->R (wNs b) (wUs b ns rs t mU rU (dZ fb fl) (osU wd))):aK7 u0 names us R
def aL9:U->List Str->List U->(List Str->List U->Prop)->Prop:=λu0 names us R=>aK7 u0 names us R
def rO:aP ["_law_well_here","_law_world","_law_way"] ["_law_well_here","_law_world"] (aF oF):={}
def aKi(F:Fun K "_law_turned" "_law_turned" oF f fd)(aJ:#v[e])(yU:⇑2 "_law_bad_term" ["_law_well_here","_law_lines"] (spV aWd))(wL:⇑2 "_law_odd_first" ["_law_well_here","_law_world"] (spV aWf))(T:Txt mg):↥3 f fd ["_law_well_here","_law_world"] (spD aL9):=by
 refine aZv F rO rfl (λcdv A outer s H E hr=>(aG (aZ (i:=2) rO.nd #v[d]) (aG (bJ (bA (bM (huD hr)) bN (aB 2) aC) (aG (vY 1 hr (aY (aA aN (aA (aY (aA aN (aA aC (aA (bB oU sS (aY (aA aC aD)) (bB bV cM aC (bB pN jR (bD aV cR T.len Eg (aO (aEo hr (aB 1)) aX)) aC))) aD)))) (aA (aY (aA aN (aA aC aD))) aD))))) (aH (vY 1 hr iC))) aU) (aG (bJ (bA (bM (huD hr)) bN (aB 2) aC) (aH (vY 1 hr (bQ bF bO (bR (aA aC (aA aC (aA (uK aC) (aA (bB bV cM (bB mC jR aC aC) aC) (aA oV (aA iC (aA aN (aA (bB mC jR aC aC) aD))))))))) #v[d]))) aU) (aG (bJ (bA (bM (huD hr)) bN (aB 2) aC) (aH (vY 1 hr (bQ bF bO (bR (aA aC (aA (uK aC) (aA (bB mC jR aC aC) (aA oV (aA iC (aA aN (aA (bR (aA aC aD)) (aA (uK (bB mC jR aC aC)) aD))))))))) #v[d]))) aU) (aG (bJ (bA (bM (huD hr)) bN (aB 2) aC) (aH (aO8 1 hr rfl (aK yU (hr.mono ⋯) rfl (aA (aB 0) (aA (bD aV cR T.len Eg (aO (aEo hr (aB 1)) aX)) aD))))) aU) (aH (bJ (jW (aPc (bA (bM (huD hr)) bN (aB 2) aC) (aI8 (bA vJ dC (bD aV cR T.len Eg (aO (aEo hr (aB 1)) aX)) aC)))) (aH (vY 1 hr (aOy 0 1 wL (hr.mono ⋯)))) aU)))))))) ?_;rintro p _ _ _ R ⟨k,ns,rs,b,fb,t,mU,rU,fl,wd,rfl,rfl,rfl,g,k2,q⟩;have n1:=g.gs.l1;have n3:=g.gs.l3;refine⟨5,rfl,⋯,⋯,λway w0 w5=>?_⟩;have no:∀{i j:Int}{p:Prop},i≠j->U.eq (.n i) (.n j)=true->p:=λh z=>by
  rw[aLw]at z;exact absurd (by simpa using z) h
 have ye:∀{i:Int}{p:Prop},U.eq (.n i) (.n i)=false->p:=λ{i}{p} z=>by
  rw[aLw]at z;simp at z
 have ln:∀x:Int,U.tp (Al ((1+((ns.map U.n).length:Int) % 3)).toNat [U.n x]).flatten=.tp ((Al (1+ns.length % 3) x).map U.n):=λx=>by
  rw[Ac,show(1+(ns.length:Int) % 3)=((1+ns.length % 3:Nat):Int) by lia,Om,aIv]
 have l50:(wNs b).length<=50:=Bd (aI9 b) ⋯;have key:way=0∨way=1∨way=2∨way=3∨way=4:=by lia
 rcases key with rfl|rfl|rfl|rfl|rfl
 ·refine⟨trivial,trivial,λ_=>?_,ye⟩;refine⟨_,_,_,rfl,wF 0 rfl rfl ⟨by show(0:Int)<3;decide,∅,∅,nofun,by simp,?_⟩⟩;rw[ln];refine⟨_,_,_,rfl,l50,sV (us:=wB ns rs (t0 ns.length) mU rU (dZ fb fl)) 2 rfl ⋯ rfl ?_⟩;refine⟨_,_,_,rfl,l50,aFr (b:=b) (ns:=ns) (rs:=rs) (t:=t0 ns.length) (mU:=mU) (rU:=rU) (fU:=dZ fb fl) (wU:=osU wd) (λh=>by rw[g.nb h];rfl) ?_⟩;refine⟨trivial,trivial,no ⋯,λ_=>⟨trivial,trivial,no ⋯,λ_=>⟨trivial,trivial,no ⋯,λ_=>⟨trivial,trivial,no ⋯,λ_=>⟨nofun,λ_=>?_⟩⟩⟩⟩⟩;exact⟨_,_,rfl,q true fb (t0 ns.length) mU rU fl none ⟨g.gs,g.el,g.rk,aXn _ n1 n3,λ_=>rfl,g.mm,g.rk2,g.fk.up⟩⟩
 ·refine⟨trivial,trivial,no ⋯,λ_=>⟨trivial,trivial,λ_=>?_,ye⟩⟩;refine⟨⟨⋯,⋯,⋯⟩,⟨⋯,⋯,⋯⟩,8,rfl,⋯,⋯,λi i0 i8=>?_⟩;have key:∃v,atI [U.n 1,.n 0,.n (-5),.n (10 ^ (9:Int).toNat+1),.b true,.no,.s "7",.n (10 ^ (30:Int).toNat)] i=some (.v v)/\smV v:=by
   have:i=0∨i=1∨i=2∨i=3∨i=4∨i=5∨i=6∨i=7:=by lia
   rcases this with rfl|rfl|rfl|rfl|rfl|rfl|rfl|rfl
   ·exact⟨_,rfl,by show(1:Int).natAbs<2 ^ 101;decide⟩
   ·exact⟨_,rfl,by show(0:Int).natAbs<2 ^ 101;decide⟩
   ·exact⟨_,rfl,by show(-5:Int).natAbs<2 ^ 101;decide⟩
   ·exact⟨_,rfl,by show((10:Int) ^ (9:Int).toNat+1).natAbs<2 ^ 101;decide+kernel⟩
   ·exact⟨_,rfl,trivial⟩
   ·exact⟨_,rfl,trivial⟩
   ·exact⟨_,rfl,.inr rfl⟩
   ·exact⟨_,rfl,by show((10:Int) ^ (30:Int).toNat).natAbs<2 ^ 101;decide+kernel⟩
  obtain⟨v,ev,sv⟩:=key;refine⟨_,ev,_,_,_,rfl,l50,sV (us:=wB ns rs t (.v v) rU (dZ fb fl)) 3 rfl ⋯ rfl ?_⟩;refine⟨trivial,trivial,no ⋯,λ_=>⟨trivial,trivial,no ⋯,λ_=>⟨trivial,trivial,no ⋯,λ_=>⟨nofun,λ_=>?_⟩⟩⟩⟩;exact⟨_,_,rfl,q b fb t (.v v) rU fl wd ⟨g.gs,g.el,g.rk,g.tk,g.nb,⟨v,rfl,sv⟩,g.rk2,g.fk.up⟩⟩
 ·refine⟨trivial,trivial,no ⋯,λ_=>⟨trivial,trivial,no ⋯,λ_=>⟨trivial,trivial,λ_=>?_,ye⟩⟩⟩;refine⟨⟨⋯,⋯,⋯⟩,⟨⋯,⋯,⋯⟩,8,rfl,⋯,⋯,λi i0 i8=>?_⟩;have key:∃u,atI [U.n 13,.n (-1),.n (10 ^ (20:Int).toNat),.b true,.no,.s "3",.ls [.n 2],.n (-(10 ^ (9:Int).toNat))] i=some u/\rOk u:=by
   have:i=0∨i=1∨i=2∨i=3∨i=4∨i=5∨i=6∨i=7:=by lia
   rcases this with rfl|rfl|rfl|rfl|rfl|rfl|rfl|rfl<;>exact⟨_,rfl,_,rfl⟩
  obtain⟨u,ev,su⟩:=key;refine⟨_,ev,_,_,_,rfl,l50,sV (us:=wB ns rs t mU u (dZ fb fl)) 4 rfl ⋯ rfl ?_⟩;refine⟨trivial,trivial,no ⋯,λ_=>⟨trivial,trivial,no ⋯,λ_=>⟨nofun,λ_=>?_⟩⟩⟩;exact⟨_,_,rfl,q b fb t mU u fl wd ⟨g.gs,g.el,g.rk,g.tk,g.nb,g.mm,su,g.fk.up⟩⟩
 ·refine⟨trivial,trivial,no ⋯,λ_=>⟨trivial,trivial,no ⋯,λ_=>⟨trivial,trivial,no ⋯,λ_=>⟨trivial,trivial,λ_=>?_,ye⟩⟩⟩⟩;refine⟨_,_,_,rfl,wF 0 rfl rfl ⟨ns.length,by rw[Ac],n1,n3,λt' x tk=>?_⟩⟩;refine⟨_,_,rfl,_,_,_,rfl,aI9 b,sV (us:=wB ns rs t' mU rU (dZ fb fl)) 2 rfl ⋯ rfl ?_⟩;refine aFr (b:=b) (ns:=ns) (rs:=rs) (t:=t') (mU:=mU) (rU:=rU) (fU:=dZ fb fl) (wU:=osU wd) (λh=>by rw[g.nb h];rfl) ?_;refine⟨trivial,trivial,no ⋯,λ_=>⟨nofun,λ_=>?_⟩⟩;exact⟨_,_,rfl,q true fb t' mU rU fl (some x) ⟨g.gs,g.el,g.rk,tk,nofun,g.mm,g.rk2,g.fk.up⟩⟩
 ·refine⟨trivial,trivial,no ⋯,λ_=>⟨trivial,trivial,no ⋯,λ_=>⟨trivial,trivial,no ⋯,λ_=>⟨trivial,trivial,no ⋯,λ_=>⟨trivial,trivial,λ_=>?_,ye⟩⟩⟩⟩⟩;have lenf:∀{R:Sl->Prop},R (.sh (.n (fl.length:Nat)))->aTn [dZ fb fl] R:=λ{R} h=>by
   have e:(fl.map rwU).length=fl.length:=Ac ..;cases fb
   ·show R (.sh (.n ((fl.map rwU).length:Nat)));rw[e];exact h
   ·show R (.sh (.n ((fl.map rwU).length:Nat)));rw[e];exact h
  refine⟨_,_,_,rfl,wF 5 rfl rfl (lenf ⟨λz=>?_,λ_=>?_⟩)⟩
  ·have z:0<fl.length:=by
    have:=of_decide_eq_true (show decide ((0:Int)<(fl.length:Nat))=true from z)
    lia
   refine⟨_,_,_,rfl,.inr ⟨_,rfl⟩,b,fb,ns,rs,t,mU,rU,fl,wd,k,rfl,g.fk,Mo.mp z,k2,g.mm,λgl gk=>?_⟩;have fin:∀gb,R (wNs b) (wUs b ns rs t mU rU (dZ gb gl) (osU wd)):=λgb=>q b gb t mU rU gl wd ⟨g.gs,g.el,g.rk,g.tk,g.nb,g.mm,g.rk2,gk⟩;refine⟨⟨aEc 39 gl,_,_,_,rfl,l50,sV (us:=wB ns rs t mU rU (dZ false gl)) 5 rfl ⋯ rfl ⟨_,_,rfl,fin false⟩⟩,λgb=>⟨aUt gb gl,_,_,_,rfl,l50,sV (us:=wB ns rs t mU rU (dZ gb gl)) 5 rfl ⋯ rfl ⟨_,_,rfl,fin gb⟩⟩⟩
  ·exact⟨_,_,rfl,q b fb t mU rU fl wd g.up⟩
def uls{a b:List U}(h:U.ls a=.ls b):a=b:=by injection h
def aAp(ms:List Int):D.eqs (U.ds (ms.map U.n)) (U.ds (ms.map U.n))=true:=by
 induction ms with
 |nil=>rfl
 |cons a l ih=>
  show(eqV (.int a) (.int a) && D.eqs (U.ds (l.map U.n)) (U.ds (l.map U.n)))=true;rw[ih];simp[eqV]
def aU3(ys:List Tk):U.eq (.ls (ys.map tkU)) (.ls (ys.map tkU))=true:=by
 show D.eqs (U.ds _) (U.ds _)=true;induction ys with
 |nil=>rfl
 |cons y l ih=>
  show((eqV (.int y.1) (.int y.1) && (D.eqs (U.ds (y.2.map U.n)) (U.ds (y.2.map U.n)) && true)) && D.eqs (U.ds (l.map tkU)) (U.ds (l.map tkU)))=true;rw[ih,aAp];simp[eqV]
def aQs(ls:List (List Int)):U.eq (.ls (iI ls)) (.ls (iI ls))=true:=by
 show D.eqs (U.ds _) (U.ds _)=true;induction ls with
 |nil=>rfl
 |cons y l ih=>
  show(D.eqs (U.ds (y.map U.n)) (U.ds (y.map U.n)) && D.eqs (U.ds (iI l)) (U.ds (iI l)))=true;rw[ih,aAp];rfl
structure XFc(K:Ab)(mg:Str->#v[8])(cTile cGrid cText CN CT:Addr):Prop where
 mg_TileError:mg "TileError"=some (.ref cTile)
 mg_NoGrid:mg "NoGrid"=some (.ref cGrid)
 mg_NoText:mg "NoText"=some (.ref cText)
 mg_NoJob:mg "NoJob"=some (.ref CN)
 mg_NoTerm:mg "NoTerm"=some (.ref CT)
 askN:dY K CN
 askT:dY K CT
 exN:Ll K (.ref CN) (.ref cTile)=some true
 exT:Ll K (.ref CT) (.ref cTile)=some true
 anyN:Ka K (.ref CN) [.ref cGrid,.ref cText]=some false
 anyT:Ka K (.ref CT) [.ref cGrid,.ref cText]=some false
 nn:Dk K (.ref CN) (.ref CN)=some true
 nt:Dk K (.ref CN) (.ref CT)=some false
 tn:Dk K (.ref CT) (.ref CN)=some false
 tt:Dk K (.ref CT) (.ref CT)=some true
 hdN:Dq K CN=true
 hdT:Dq K CT=true
 fdN:Bo K (.ref CN) "at"=some none
 fdT:Bo K (.ref CT) "at"=some none
def jF{N:Cn}{CG:Addr}{rs:List Rim}{m r:Int}{u:U}(k:Nat)(hx:jNm[k]? =some x)(hu:(jUs N CG ns rs t ys m r)[k]? =some u)(q:R (.sh u)):wO x jNm (jUs N CG ns rs t ys m r) R:=aCj q #v[3] hx hu
def aOb{fb:Bool}{fl:List (Bool×List V)}(h:fOk k fl)(hk:k<=3):xK (dZ fb fl):=by
 have row:∀x∈fl.map rwU,aFu x:=λx hx=>by
  obtain⟨⟨b,l⟩,hr,rfl⟩:=Az.mp hx;obtain⟨h1,h2⟩:=h.each _ hr;have:4 ^ k<=64:=Bd (Jo ⋯ hk) ⋯;have h1:l.length<=40*4 ^ k:=h1;cases b
  ·exact⟨by rw[Ac];lia,λy hy=>by
    obtain⟨v,hv,rfl⟩:=Az.mp hy;exact aUx (h2 v hv)⟩
  ·exact⟨_,rfl⟩
 cases fb
 ·exact⟨by rw[Ac];have:=h.len;lia,row⟩
 ·exact⟨_,rfl⟩
def aWs{mU:U}(h:mOk mU):∃a,tyU mU=some a:=by
 obtain⟨v,rfl,sv⟩:=h;cases v<;>first|exact⟨_,rfl⟩|exact sv.elim
open Classical in
def aJo{mU rU fU:U}(h:uW ns t ys mU rU fU=none):dF (dpt ys) (bL ns) (toI mU) fU=true/\mU=.n (toI mU)/\rU=.n (toI rU):=by
 unfold uW at h;split at h
 ·cases h
 split at h
 ·cases h
 split at h
 ·cases h
 split at h
 ·cases h
 rename_i _ h2 h3 h4;refine⟨by simpa using h4,(dR (show isIn mU 2 1000000000=true by simpa using h2)).1,(dR (show isIn rU 0 12=true from ?_)).1⟩;cases e:isIn rU 0 12
 ·exact absurd (.inl e) h3
 ·rfl
def aZs(K:Ab)(cGrid cText CN CT:Addr):TVS:=aQ9 (vIf (vOr (nM (aOv K cGrid cText (aEk 4))) (nM (vOp (gEq false) (aOu K (.ref CN) (aEk 4)) (aOu K (.ref CT) (aEk 4))))) (aOx (aVe (yS (vC (U.s "other")) (yS (vC U.no) aEj)))) aSy)
 (aOx (aVe (yS (vOp gIx (aYc (yS (vC (U.s "term")) (yS (vC (U.s "job")) aEj))) (aHt aTm (aSx (aOu K (.ref CN) (aEk 4)) aEj))) (yS (aVf K (aEk 4)) aEj))))
def suF{K:Ab}{cGrid cText CN CT:Addr}{C:Addr}{N1:lW}(ask:dY K C)(any:Ka K (.ref C) [.ref cGrid,.ref cText]=some false)(kn:Dk K (.ref C) (.ref CN)=some b)(kt:Dk K (.ref C) (.ref CT)=some (!b))(hd:Dq K C=true)(fd:Bo K (.ref C) "at"=some none)
  (h:N1.rt (.sh (.tp [.s (if b then "job" else "term"),.s x]))):aZs K cGrid cText CN CT (N1.gone 4) ((Al 7 .no).set 4 (.sh (.op (aLx C (.str x))))):=by
 refine⟨C,_,false,rfl,ask,any,nofun,λ_=>⟨C,_,b,rfl,ask,kn,C,_, !b,rfl,ask,kt,trivial,trivial,λz=>?_,λ_=>?_⟩⟩
 ·cases b<;>cases z
 ·refine⟨C,_,b,rfl,ask,kn,?_⟩;cases b
  ·exact⟨_,rfl,C,_,rfl,ask,hd,fd,h⟩
  ·exact⟨_,rfl,C,_,rfl,ask,hd,fd,h⟩
def aCl(ns:List Int):U.dts 39 (ns.map U.n):=by
 induction ns with
 |nil=>trivial
 |cons a l ih=>exact⟨trivial,ih⟩
def aA6(ls:List (List Int)):U.dts 39 (iI ls):=by rw[<-uls (aSn ls)];exact aEc 38 (lsR ls)
def aKs{ls ks:List (List Int)}(h:iI ls=iI ks):ls=ks:=
 (Tu λx y e=>(Tu λa b e=>by cases e;rfl).mp (uls e)).mp h
def aTg [Decidable (∃n,Lin t n)](k:gR t none)(ik:fH t ys):chk t ys (∃n,Lin t n)=none:=by
 obtain⟨h4,f0,lin,p60,y6⟩:=k.ok rfl;have:=y6 ys ik;unfold chk;rw[if_pos lin,if_neg ∅,if_neg ∅,if_neg ∅]
open Classical in
inductive aHz(us:List U)(R:(Sl->Prop))(M:MU):Prop
 |mk (k:Nat) (b fb:Bool) (ns:List Int) (rs:List Rim) (t:Tm) (mU rU:U) (fl:List (Bool×List V)) (wd:Option Str) (q0_:us=[wD b ns rs t mU rU (dZ fb fl) wd,dZ fb fl]) (q1_:GW k ns rs b t mU rU fl wd) (q2_:k<=3) (q3_:(∀x,wd=some x->R (.sh (.tp [.s "term",.s x])))) (q4_:(wd=none->∀ys,fH t ys->match uW ns t ys mU rU (dZ fb fl)with|some x=>R (.sh (.tp [.s "job",.s x]))|none=>M (.tp [.s "made",.no]))):aHz us R M
def aL0:List U->(Sl->Prop)->MU->Prop:=λus R M=>aHz us R M
abbrev aC8:List Str:=["_law_world","_law_first","_law_grid","_law_job_here","e","_law_kept","_law_row"]
def eQ:aP ["_law_world","_law_first","_law_grid","_law_job_here","e","_law_kept","_law_row"] ["_law_world","_law_first"] (aF lM):={}
open Classical in
def aM4{cTile cGrid cText CN CT:Addr}(F:Fun K "_law_found" "_law_found" lM f fd)(cG:Cfl K CG ["sizes","rims"])(cJ:Cfl K CJ ["taken","grid","term","modulus","rounds","first"])(M_Grid:MkU P w K mg base 5 CG "Grid" ["self","sizes","rims"] aGz)(M_Job:MkO P w K mg base 19 CJ "Job" ["self","grid","term","modulus","rounds","first"] (fJX N CG CJ CT CN 13))(c__law_made:⇑15 "_law_made" ["_law_told_here"] (spV (aIa N 13)))
  (c__law_takes:⇑5 "_law_takes" ["_law_told_here"] (spV (sG 4))) (lD:jN P w K mg base N 14 "takes" (pI N 13)) (Z:XFc K mg cTile cGrid cText CN CT) (T:Txt mg):↥21 f fd ["_law_world","_law_first"] (spZ aL0):=by
 apply aYn F eQ
 ·intro cdv A outer s H E hr;apply iZ
  ·exact(aZ (i:=2) eQ.nd (jM M_Grid (hr.mono ⋯) (aA (cX (eZ hr) (aB 0)) (aA (cX (eZ hr) (aB 0)) aD))))
  apply iZ
  ·exact(aRh (K:=K) (i:=4) rfl Z.mg_TileError eQ.nd (λpins W E hW=>(qH (aVs (i:=3) eQ.nd (aK4 M_Job (hr.mono ⋯) (aWy hW) (aA (aB 2) (aA (aK c__law_made (hr.mono ⋯) rfl (aA (cX (eZ hr) (aB 0)) aD)) (aA (cX (eZ hr) (aB 0)) (aA (cX (eZ hr) (aB 0)) (aA (aB 1) aD))))))))) (λe=>(aG (bJ (jW (mQ (dD (aO1 (K:=K) rfl T.isinstance Z.mg_NoGrid Z.mg_NoText (aB 4))) (iD (bA (bM (by have z:=huD hr;exact z)) bN (aEn (K:=K) rfl T.isinstance Z.mg_NoJob (aB 4)) (aEn (K:=K) rfl T.isinstance Z.mg_NoTerm (aB 4)))))) (aH (aQ (aY (aA aN (aA iC aD))))) aU) (aH (aQ (aY (aA (bQ bF bO (bR (aA aN (aA aN aD))) (dX rZ aDn T.int Rg (aO (aEn (K:=K) rfl T.isinstance Z.mg_NoJob (aB 4)) aX))) (aA (aRd (K:=K) rfl (aB 4)) aD))))))))
  apply iZ
  ·exact(bJ (jW (mQ (bA (jZ (huD hr)) bN (aI3 cJ (aB 3)) (cX (eZ hr) (aB 0))) (iD (bA (jZ (huD hr)) bN (aI3 cJ (aB 3)) (cX (eZ hr) (aB 0)))))) (aH (aQ (aY (aA aN (aA iC aD))))) aU)
  apply iZ
  ·exact(bJ (jW (mQ (bA (jZ (huD hr)) bN (fP cG (aI3 cJ (aB 3))) (cX (eZ hr) (aB 0))) (iD (bA (jZ (huD hr)) bN (cL (aI3 cJ (aB 3)) lD (hr.mono ⋯)) (aK c__law_takes (hr.mono ⋯) rfl (aA (cX (eZ hr) (aB 0)) aD)))))) (aH (aQ (aY (aA aN (aA iC aD))))) aU)
  apply iZ
  ·exact(aVq (i:=5) (y:="_law_row") eQ.nd (aF lM) aC8 rfl rfl (λx h=>bY h) #v[3] rfl (vic (cY (aB 1))) ↑(bW (i:=0) (~~~["_law_row"]) rfl (Ex rfl) (Fy rfl)) (dI ⋯) ↑(dX (jB rfl) sE T.list Jt (aO (aB 0) aX)) (λr ρ R z h=>by cases ρ with|nil=>cases z|cons y ρ=>cases z;exact h))
  exact aRl (C:=CJ) 1 3 5 6 (aY (aA (bQ bF bO (bR (aA aN (aA aN aD))) (dX rZ aDn T.int Rg (aO (qG (bM (huD hr)) bN (fP cJ (aB 3)) (aB 5)) aX))) (aA iC aD))) eQ.nd rfl Cu
 rintro _ R M ⟨k,b,fb,ns,rs,t,mU,rU,fl,wd,rfl,g,k3,q1,q2⟩;have gf:=aOb (fb:=fb) g.fk k3;refine⟨rfl,wF 0 rfl rfl (wF 1 rfl rfl ⟨ns,rs,rfl,g.gs,g.el,g.rk,?_⟩)⟩;refine wF 2 rfl rfl ⟨t,rfl,g.tk.hd,wF 3 rfl rfl (wF 4 rfl rfl ?_)⟩;have wc:wd=none∨∃y,wd=some y:=by
  cases wd
  ·exact .inl rfl
  ·exact .inr ⟨_,rfl⟩
 refine⟨ns,rs,t,mU,rU,dZ fb fl,rfl,g.gs,g.tk.hd,g.tk.pr,g.tk.fw,aWs g.mm,g.rk2,gf,λx hx=>?_,λhf ys ik=>?_⟩
 ·rcases wc with hw|⟨y,hw⟩
  ·rw[(g.tk.ok hw).2.1]at hx;cases hx
  ·rcases g.tk.no y hw with h|h
   ·rw[hx]at h;cases h;exact⟨Z.exT,suF (b:=false) Z.askT Z.anyT Z.tn Z.tt Z.hdT Z.fdT (q1 x hw)⟩
   ·rw[h.1]at hx;cases hx
 rcases wc with hw|⟨y,hw⟩
 rotate_left
 ·rcases g.tk.no y hw with h|h
  ·rw[hf]at h;cases h
  ·rw[h.2 ys ik];exact⟨Z.exT,suF (b:=false) Z.askT Z.anyT Z.tn Z.tt Z.hdT Z.fdT (q1 y hw)⟩
 rw[aTg (hw▸g.tk) ik];have q3:=q2 hw ys ik;cases hd:uW ns t ys mU rU (dZ fb fl)with
 |some x=>
  rw[hd]at q3;exact⟨Z.exN,suF (b:=true) Z.askN Z.anyN Z.nn Z.nt Z.hdN Z.fdN q3⟩
 |none=>
 rw[hd]at q3;obtain⟨ha,e1,e2⟩:=aJo hd;intro ls _ _ e3;rw[e3]at ha⊢;obtain⟨m,rfl⟩:∃m,mU=.n m:=⟨_,e1⟩;obtain⟨r,rfl⟩:∃r,rU=.n r:=⟨_,e2⟩;have nn:∀{c:Bool}{p:Prop},c=true->(!c)=true->p:=λh z=>by rw[h]at z;cases z
 have en:∀i:Int,U.eq (.n i) (.n i)=true:=λi=>by rw[aLw];simp
 refine⟨_,_,_,_,rfl,jF 3 rfl rfl (wF 3 rfl rfl ⟨trivial,trivial,nn (en m),λ_=>?_⟩)⟩;refine⟨_,_,_,_,rfl,jF 4 rfl rfl (wF 4 rfl rfl ⟨trivial,trivial,λz=>nn (en r) z,λ_=>?_⟩)⟩;refine⟨_,_,_,_,rfl,jF 1 rfl rfl ⟨rfl,.inl ⟨rfl,wF 0 rfl rfl ⟨aCl ns,aCl ns,nn (aAp ns),λ_=>?_⟩⟩⟩⟩;refine⟨_,_,_,_,rfl,jF 2 rfl rfl (fB t #v[3] ⟨t,rfl,rfl,g.tk.hd,g.tk.fw,λys1 ik1=>?_⟩)⟩;obtain⟨h4,f0,lin,p60,y6⟩:=g.tk.ok hw;refine wF 2 rfl rfl ⟨t,rfl,h4,g.tk.fw,λys2 ik2=>?_⟩;obtain rfl:=ik1.uniq ik2;refine⟨zQ 37 _,zQ 37 _,λz=>nn (aU3 _) z,λ_=>?_⟩;obtain⟨ls',e4,l4,l5⟩:=xZ ha;obtain rfl:=aKs (uls e4);have lsB:ls.length<=1000:=by
  have h3:=g.fk.len;cases fb with
  |true=>cases e3
  |false=>
   have e:=congrArg Pl (uls e3);rw[Ac,show(iI ls).length=ls.length from Ac ..]at e
   lia
 have llB:∀l∈ls,l.length<=1000:=λl hl=>by
  have:=l5 l hl;have:=g.gs.mn
  lia
 refine⟨ls,rfl,∅,?_⟩;refine⟨ls,ls,_,_,rfl,rfl,rfl,⋯,by show 6<7;decide,lsB,llB,?_⟩;refine⟨rfl,aCj (k:=5) ?_ (show(jNm++[("first":Str)]).Nodup by decide+kernel) rfl rfl⟩;refine⟨aA6 ls,aA6 ls,?_⟩;dsimp only[aEj,Sl.rd];rw[show U.eq (.ls (ls.map λr=> .ls (r.map U.n))) (.ls (ls.map λr=> .ls (r.map U.n)))=true from aQs ls];exact⟨_,rfl,_,rfl,q3⟩
def aXl:∀{v:V},smV v->rpV v=true/\(U.v v).pd.showable=true/\Hu 33 (U.v v).pd=true/\(U.v v).pd.weight<=102
 |.non,_=>⟨rfl,rfl,rfl,Bt _⟩
 |.bl _,_=>⟨rfl,rfl,rfl,Bt _⟩
 |.int i,h=>by
  have h:i.natAbs<2 ^ 101:=h;have hl:i.natAbs.log2<101:=by
   by_cases z:i.natAbs=0
   ·rw[z];decide
   ·exact(Zg z).mpr h
  refine⟨rfl,decide_eq_true (show i.natAbs.log2<1920 by lia),decide_eq_true ?_,?_⟩
  ·have e:=int_text_length_le10 (a:=i) (k:=31) ⋯ (Kk h ⋯);show(Ht (toString i)).length<=33;rw[PySem.ofString_length]
   lia
  ·show(if i==0 then 0 else i.natAbs.log2+1)<=102;split<;>lia
 |.str x,h=>by
  rcases (show x="0"∨x="7" from h)with rfl|rfl
  ·exact⟨rfl,rfl,by decide+kernel,by show(Ht "0").length<=102;decide+kernel⟩
  ·exact⟨rfl,rfl,by decide+kernel,by show(Ht "7").length<=102;decide+kernel⟩
theorem aOh(n:Nat):∀{l:List V},(∀v∈l,smV v)->U.rps n (l.map .v)/\Kb (U.pds (l.map .v))=true/\Ir 33 (U.pds (l.map .v))=true/\Kx (U.pds (l.map .v))<=103*l.length
 | [],_=>⟨trivial,rfl,rfl,Am _⟩
 |v::l,h=>by
  obtain⟨a1,a2,a3,a4⟩:=aXl (h v Ah);obtain⟨b1,b2,b3,b4⟩:=aOh n λx hx=>h x (Ag _ hx);refine⟨⟨a1,b1⟩,?_,?_,?_⟩
  ·show((U.v v).pd.showable && Kb (U.pds (l.map .v)))=true;rw[a2,b2];rfl
  ·show(Hu 33 (U.v v).pd && Ir 33 (U.pds (l.map .v)))=true;rw[a3,b3];rfl
  ·show(U.v v).pd.weight+1+Kx (U.pds (l.map .v))<=103*(l.length+1)
   lia
def aXh(n:Nat)(r:Bool×List V)(h:∀v∈r.2,smV v):(rwU r).rp (n+1)/\(rwU r).pd.showable=true/\Hu 33 (rwU r).pd=true/\(rwU r).pd.weight<=103*r.2.length:=by
 obtain⟨b,l⟩:=r;cases b<;>exact aOh n h
theorem aOc(n L:Nat):∀{l:List (Bool×List V)},(∀r∈l,r.2.length<=L/\∀v∈r.2,smV v)->U.rps (n+1) (l.map rwU)/\Kb (U.pds (l.map rwU))=true/\Ir 33 (U.pds (l.map rwU))=true/\Kx (U.pds (l.map rwU))<=(103*L+1)*l.length
 | [],_=>⟨trivial,rfl,rfl,Bt _⟩
 |r::l,h=>by
  obtain⟨a1,a2,a3,a4⟩:=aXh n r (h r Ah).2;have a5:=(h r Ah).1;obtain⟨b1,b2,b3,b4⟩:=aOc n L λx hx=>h x (Ag _ hx);refine⟨⟨a1,b1⟩,?_,?_,?_⟩
  ·show((rwU r).pd.showable && Kb (U.pds (l.map rwU)))=true;rw[a2,b2];rfl
  ·show(Hu 33 (rwU r).pd && Ir 33 (U.pds (l.map rwU)))=true;rw[a3,b3];rfl
  ·show(rwU r).pd.weight+1+Kx (U.pds (l.map rwU))<=(103*L+1)*(l.length+1);rw[Nat.mul_succ]
   lia
def aOf{fb:Bool}{fl:List (Bool×List V)}(h:fOk k fl)(hk:k<=2):(dZ fb fl).rp 9/\(∃l,dZ fb fl=.tp l∨dZ fb fl=.ls l)/\(dZ fb fl).pd.showable=true/\(dZ fb fl).pd.shown.length<=sizeLine:=by
 have hp:4 ^ k<=16:=Bd (Jo ⋯ hk) ⋯;obtain⟨a1,a2,a3,a4⟩:=aOc 7 640 (l:=fl) λr hr=>⟨by have:r.2.length<=40*4 ^ k:=(h.each r hr).1;lia,(h.each r hr).2⟩;have hl:=h.len;have key:∀{d:PyData},Hu 33 d=true->d.weight<=(103*640+1)*fl.length->d.shown.length<=sizeLine:=λ{d} h1 h2=>by
  have h3:=PyData.shown_le 33 ⋯ d h1;have h4:(103*640+1)*fl.length<=(103*640+1)*5:=Nh _ ∅;have h5:(33+2)*d.weight<=35*329605:=Nh _ ∅;show _<=2 ^ 24
  lia
 cases fb
 ·exact⟨a1,⟨_,.inr rfl⟩,a2,key (d:=.list (U.pds (fl.map rwU))) a3 a4⟩
 ·exact⟨a1,⟨_,.inl rfl⟩,a2,key (d:=.tuple (U.pds (fl.map rwU))) a3 a4⟩
theorem aDt:∀l:List Int,Nws (l.map U.n)
 | []=>trivial
 |_::l=>⟨trivial,aDt l⟩
theorem qF:∀t:Tm,Nw (cB t)
 |.num _=>⟨trivial,trivial,trivial⟩
 |.take _ ss=>⟨trivial,trivial,aDt ss,trivial⟩
 |.rest t _=>⟨trivial,qF t,trivial,trivial⟩
 |.cho a b c=>⟨trivial,qF a,qF b,qF c,trivial⟩
 |.bin _ a b=>⟨trivial,qF a,qF b,trivial⟩
theorem zO:∀l:List Rim,Nws (l.map Rim.u)
 | []=>trivial
 |.fixed _::l=>⟨⟨trivial,trivial,trivial⟩,zO l⟩
 |.mirror::l=>⟨⟨trivial,trivial⟩,zO l⟩
 |.round::l=>⟨⟨trivial,trivial⟩,zO l⟩
theorem aIx:∀l:List (List Int),Nws (iI l)
 | []=>trivial
 |r::l=>⟨aDt r,aIx l⟩
def aVv{rs:List Rim}{m r:Int}:Nws (wUs false ns rs t (.n m) (.n r) (.ls (iI ls)) .no):=⟨aDt ns,zO rs,qF t,trivial,trivial,aIx ls,trivial⟩
def aI6{X:Cx}{st:Stmt}{F G:TVS}(h:VS X st F)(hw:∀E ρ,G E ρ->F E ρ):VS X st G:=let⟨t,p,f⟩:=h;⟨t,p,λo g j=>f o (hw _ _ g) j⟩
def GW.to2{rs:List Rim}{mU rU:U}{fl:List (Bool×List V)}(g:GW k ns rs b t mU rU fl wd)(h:k<=2):GW 2 ns rs b t mU rU fl wd:=by
 have:k=0∨k=1∨k=2:=by lia
 rcases this with rfl|rfl|rfl
 ·exact g.up.up
 ·exact g.up
 ·exact g
def frL(s0:Sl)(b:Bool)(us:List U)(x:Sl):EV:=[s0,.oo (dkO (wNs b) us),.sh .wl,x,.no,.no,.no]
def aZq:TVS:=λE ρ=>∃s0 us,ρ=frL s0 false us .no/\us.length=6/\∀us',us'=us∨(∃r:Int,us'=us.set 4 (.n r))->E.nx (frL s0 false us' .no)
def aZt:TVS:=λE ρ=>∃(s0:Sl)(ns:List Int)(rs:List Rim)(b fb:Bool)(t:Tm)(mU rU:U)(fl:List (Bool×List V))(wd:Option Str),ρ=frL s0 b (wUs b ns rs t mU rU (dZ fb fl) (osU wd)) .no/\GW 0 ns rs b t mU rU fl wd/\
 ∀b fb t mU rU fl wd x,GW 2 ns rs b t mU rU fl wd->E.nx (frL s0 b (wUs b ns rs t mU rU (dZ fb fl) (osU wd)) x)
inductive aRr(K:Ab)(us:List U)(R:(Sl->Prop))(M:MU):Prop
 |mk (sc:List Int) (q0_:us=[.op (aQx K sc)]) (q1_:R (.sh (.b true))) (q2_:M (.b true)):aRr K us R M
def aL3(K:Ab):List U->(Sl->Prop)->MU->Prop:=λus R M=>aRr K us R M
def uH:aP ["_law_script","_law_world","_law_well_here","_law_k","_law_kept","_law_due_here","_law_found_here"] ["_law_script"] (aF aCu):={}
open Classical in
def aT5(F:Fun K "law" "law" aCu f fd)(yC:⇑2 "_law_well" ["_law_script","_law_k"] (spV (aSg K)))(aJ:#v[e])(aGq:⇑7 "_law_job" ["_law_well_here"] (spV aSd))
  (c__law_turned:⇑3 "_law_turned" ["_law_well_here","_law_world"] (spD aL9)) (aGp:⇑6 "_law_due" ["_law_world"] (spV aWe)) (aDe:⇑21 "_law_found" ["_law_world","_law_first"] (spZ aL0)) (rp:mg "repr"=none) (T:Txt mg):↥22 f fd ["_law_script"] (spZ (aL3 K)):=by
 apply aYn F uH
 ·intro cdv A outer s H E hr;apply iZ
  ·exact(aZ (i:=1) uH.nd (aK2 aGq (hr.mono ⋯) rfl (aK yC (hr.mono ⋯) rfl (aA (aB 0) (aA aC aD))) aD))
  apply iZ
  ·exact(aZ (i:=2) uH.nd (aK yC (hr.mono ⋯) rfl (aA (aB 0) (aA aC aD))))
  apply aRm 2;apply iZ
  ·apply aI6 (G:=aZq)
   ·exact(bJ (bA (bM (huD hr)) bN (aK aJ (hr.mono ⋯) rfl (aA (aB 2) (aA aC aD))) aC) (aH (aO7 1 hr (aK aJ (hr.mono ⋯) rfl (aA (aB 2) (aA aC aD))))) aU)
   ·rintro E ρ ⟨s0,us,rfl,hl,h⟩;refine⟨6,rfl,⋯,⋯,λi _ _=>⟨trivial,trivial,λ_=>?_,λ_=>h _ (.inl rfl)⟩⟩;exact⟨13,rfl,⋯,⋯,λr _ _=>⟨_,_,4,rfl,⋯,xV false,rfl,h _ (.inr ⟨r,rfl⟩)⟩⟩
  apply iZ
  ·apply aI6 (G:=aZt)
   ·exact(iY Cu rfl (gQ T.range (aO (aK aJ (hr.mono ⋯) rfl (aA (aB 2) (aA aC aD))) aX)) (gA (i:=3) uH.nd) (aH (aO6 2 1 c__law_turned (hr.mono ⋯))))
   ·rintro E ρ ⟨s0,ns,rs,b,fb,t,mU,rU,fl,wd,rfl,g,h⟩;refine⟨3,rfl,⋯,⋯,λn n0 n3=>?_⟩;show-2 ^ 62<=n/\n<2 ^ 62/\gK (kY 3) (aOt 2 1 aL9) E (gO 0 n.toNat) (frL s0 b (wUs b ns rs t mU rU (dZ fb fl) (osU wd)) .no);refine⟨∅,∅,?_⟩;have hl:(gO 0 n.toNat).length<=2:=by
     unfold gO;rw[Ac,Fe]
     lia
    generalize gO 0 n.toNat=l at hl⊢;refine eO (λl ρ=>∃(k:Nat)(b fb:Bool)(t:Tm)(mU rU:U)(fl:List (Bool×List V))(wd:Option Str)(x:Sl),GW k ns rs b t mU rU fl wd/\k+l.length<=2/\ρ=frL s0 b (wUs b ns rs t mU rU (dZ fb fl) (osU wd)) x) ?_ ?_ ⟨0,b,fb,t,mU,rU,fl,wd,.no,g,∅,rfl⟩
    ·rintro ρ ⟨k,b,fb,t,mU,rU,fl,wd,x,g,hk,rfl⟩;exact h b fb t mU rU fl wd x (g.to2 (by rw[Hc]at hk;lia))
    ·rintro u l ρ ⟨k,b,fb,t,mU,rU,fl,wd,x,g,hk,rfl⟩ ih;rw[Aq]at hk;exact⟨_,_,_,rfl,rfl,k,ns,rs,b,fb,t,mU,rU,fl,wd,rfl,rfl,rfl,g,∅,λb' fb' t' mU' rU' fl' wd' g'=>ih _ ⟨k+1,b',fb',t',mU',rU',fl',wd',_,g',∅,rfl⟩⟩
  apply aVt 1;apply iZ
  ·exact(aZ (i:=4) uH.nd (aI4 hr rp (cX (eZ hr) (aB 1))))
  apply iZ
  ·exact(aZ (i:=5) uH.nd (aK aGp (hr.mono ⋯) rfl (aA (aB 1) aD)))
  exact aRk (i:=6) uH.nd aDe (hr.mono ⋯) rfl (aA (aB 1) (aA (cX (eZ hr) (aB 1)) aD)) (uJ (qG (bM (huD hr)) bN (aB 6) (aB 5)) (uL (aYl (qG (bM (huD hr)) bN (bQ bF bO (aB 5) aC) aN) (uL (qG (bM (huD hr)) bN (aI4 hr rp (cX (eZ hr) (aB 1))) (aB 4))))))
 rintro _ R M ⟨sc,rfl,qR,qM⟩;refine⟨rfl,sc,0,rfl,λa b c=>⟨rfl,λns rs t m r ls g=>⟨⟨_,_,rfl,aVv⟩,?_⟩⟩⟩;refine⟨sc,1,rfl,λa b c=>?_⟩;refine⟨_,_,rfl,rfl,λus' hu=>?_⟩;obtain⟨r0,rfl⟩:∃r0:Int,us'=wUs false ns rs t (.n m) (.n r0) (dZ false (lsR ls)) (osU none):=by
  rw[aSn];rcases hu with rfl|⟨r0,rfl⟩
  ·exact⟨r,rfl⟩
  ·exact⟨r0,rfl⟩
 have g0:GW 0 ns rs false t (.n m) (.n r0) (lsR ls) none:=⟨g.gs,g.el,g.rk,g.tk,g.nb,g.mm,⟨_,rfl⟩,g.fk⟩;refine⟨_,ns,rs,false,false,t,.n m,.n r0,lsR ls,none,rfl,g0,λb fb t mU rU fl wd x g=>?_⟩;obtain⟨s1,s2,s3,s4⟩:=aOf (fb:=fb) g.fk ⋯;have es:∀z:Str,U.eq (.s z) (.s z)=true:=λz=>by
  show eqV (.str z) (.str z)=true;simp[eqV]
 have eq2:∀z y:Str,U.eq (.tp [.s z,.s y]) (.tp [.s z,.s y])=true:=λz y=>by
  show(eqV (.str z) (.str z) && (eqV (.str y) (.str y) && true))=true;simp[eqV]
 have eR:R (.sh (.b (U.eq (.s (dZ fb fl).pd.shown) (.s (dZ fb fl).pd.shown)))):=by
  rw[es];exact qR
 refine⟨_,_,rfl,wF 5 rfl rfl ⟨s1,s2,s3,s4,?_⟩⟩;refine⟨b,ns,rs,t,mU,rU,_,wd,rfl,g.gs,g.tk,g.nb,aWs g.mm,g.rk2,aOb g.fk ⋯,λys ik=>?_⟩;refine wF 5 rfl rfl ⟨2,b,fb,ns,rs,t,mU,rU,fl,wd,rfl,g,⋯,λy hw=>?_,λhw ys' ik'=>?_⟩
 ·subst hw;refine⟨⟨trivial,trivial,trivial⟩,⟨trivial,trivial,trivial⟩,λ_=>?_,λz=>?_⟩
  ·exact⟨_,rfl,trivial,trivial,λ_=>⟨trivial,qR⟩,λ_=>wF 5 rfl rfl ⟨s1,s2,s3,s4,trivial,trivial,trivial,eR⟩⟩
  ·have z:U.eq (.tp [.s "term",.s y]) (.tp [.s "term",.s y])=false:=z;rw[eq2]at z;cases z
 ·subst hw;obtain rfl:=ik'.uniq ik;cases hd:uW ns t ys' mU rU (dZ fb fl)with
  |some y=>
  have e:due ns t ys' mU rU (dZ fb fl) none=(("job":Str),some y):=by
   unfold due;rw[hd]
  rw[e];refine⟨⟨trivial,trivial,trivial⟩,⟨trivial,trivial,trivial⟩,λ_=>?_,λz=>?_⟩
  ·exact⟨_,rfl,trivial,trivial,λ_=>⟨trivial,qR⟩,λ_=>wF 5 rfl rfl ⟨s1,s2,s3,s4,trivial,trivial,trivial,eR⟩⟩
  ·have z:U.eq (.tp [.s "job",.s y]) (.tp [.s "job",.s y])=false:=z;rw[eq2]at z;cases z
  |none=>
  have e:due ns t ys' mU rU (dZ fb fl) none=(("made":Str),none):=by
   unfold due;rw[hd]
  rw[e];refine⟨⟨trivial,trivial,trivial⟩,⟨trivial,trivial,trivial⟩,λ_=>?_,λz=>?_⟩
  ·refine⟨_,rfl,trivial,trivial,λ_=>⟨_,rfl,qM⟩,λz=>?_⟩;exact absurd (show true=false from z) ⋯
  ·exact absurd (show true=false from z) ⋯
def tag:Tm->Nat
 |.num _=>0
 |.take _ _=>1
 |.rest _ _=>2
 |.cho _ _ _=>3
 |.bin k _ _=>4+k.val
def aAh(N:Cn):List Addr:=[N.num,N.take,N.rest,N.cho,N.bin 0,N.bin 1,N.bin 2,N.bin 3,N.bin 4]
def aLs(N:Cn):∀t:Tm,(aAh N)[tag t]? =some (cls N t)
 |.num _=>rfl
 |.take _ _=>rfl
 |.rest _ _=>rfl
 |.cho _ _ _=>rfl
 |.bin k _ _=>by
  match k with
  |0=>rfl
  |1=>rfl
  |2=>rfl
  |3=>rfl
  |4=>rfl
def aBa{N:Cn}(nd:(aAh N).Nodup){t u:Tm}(h:cls N t=cls N u):tag t=tag u:=by
 have h1:=aLs N t;have h2:=aLs N u;rw[h]at h1;exact(List.getElem?_inj (Ax.mp h1).1 nd).mp (h1.trans h2.symm)
def aMs{N:Cn}(nd:(aAh N).Nodup)(h:cls N t=N.num):∃n,t=.num n:=by
 have:=aBa nd (u:=.num 0) h;cases t<;>simp[tag]at this<;>first|exact⟨_,rfl⟩|lia
def aDv{N:Cn}(nd:(aAh N).Nodup)(h:cls N t=N.take):∃b ss,t=.take b ss:=by
 have:=aBa nd (u:=.take 0 []) h;cases t<;>simp[tag]at this<;>first|exact⟨_,_,rfl⟩|lia
def aIf{N:Cn}(nd:(aAh N).Nodup)(h:cls N t=N.rest):∃a y,t=.rest a y:=by
 have:=aBa nd (u:=.rest (.num 0) 0) h;cases t<;>simp[tag]at this<;>first|exact⟨_,_,rfl⟩|lia
def aMr{N:Cn}(nd:(aAh N).Nodup)(h:cls N t=N.cho):∃a b c,t=.cho a b c:=by
 have:=aBa nd (u:=.cho (.num 0) (.num 0) (.num 0)) h;cases t<;>simp[tag]at this<;>first|exact⟨_,_,_,rfl⟩|lia
def aMq{N:Cn}(nd:(aAh N).Nodup){k:Fin 5}(h:cls N t=N.bin k):∃a b,t=.bin k a b:=by
 have:=aBa nd (u:=.bin k (.num 0) (.num 0)) h;cases t with
 |bin j a b=>
  have e:j=k:=Fin.ext (by simp only[tag]at this;lia);exact⟨a,b,by rw[e]⟩
 |_=>simp[tag]at this<;>lia
def knS{n:Nat}{P:List Value->Prop}(h:us.length=n+1)(k:∀a t,t.length=n->P (a::t)):P us:=by
 cases us with
 |nil=>cases h
 |cons a t=>exact k a t (Im h)
def kn1{P:List Value->Prop}(h:us.length=1)(k:∀a,P [a]):P us:=knS h λa t ht=>by cases t with|nil=>exact k a|cons=>cases ht
def kn2{P:List Value->Prop}(h:us.length=2)(k:∀a b,P [a,b]):P us:=knS h λa t ht=>kn1 (P:=λt=>P (a::t)) ht λb=>k a b
def kn3{P:List Value->Prop}(h:us.length=3)(k:∀a b c,P [a,b,c]):P us:=knS h λa t ht=>kn2 (P:=λt=>P (a::t)) ht λb c=>k a b c
def kn4{P:List Value->Prop}(h:us.length=4)(k:∀a b c d,P [a,b,c,d]):P us:=knS h λa t ht=>kn3 (P:=λt=>P (a::t)) ht λb c d=>k a b c d
def kn5{P:List Value->Prop}(h:us.length=5)(k:∀a b c d e,P [a,b,c,d,e]):P us:=knS h λa t ht=>kn4 (P:=λt=>P (a::t)) ht λb c d e=>k a b c d e
def kn6{P:List Value->Prop}(h:us.length=6)(k:∀a b c d e f,P [a,b,c,d,e,f]):P us:=knS h λa t ht=>kn5 (P:=λt=>P (a::t)) ht λb c d e f=>k a b c d e f
def kb1{fd:Bb}(h:us.length=1)(k:∀a,Ez fd ⟨[a],[]⟩=pure (ps.zip [a])):Ez fd ⟨us,[]⟩=pure (ps.zip us):=kn1 (P:=λus=>Ez fd ⟨us,[]⟩=pure (ps.zip us)) h k
def kb2{fd:Bb}(h:us.length=2)(k:∀a b,Ez fd ⟨[a,b],[]⟩=pure (ps.zip [a,b])):Ez fd ⟨us,[]⟩=pure (ps.zip us):=kn2 (P:=λus=>Ez fd ⟨us,[]⟩=pure (ps.zip us)) h k
def kb3{fd:Bb}(h:us.length=3)(k:∀a b c,Ez fd ⟨[a,b,c],[]⟩=pure (ps.zip [a,b,c])):Ez fd ⟨us,[]⟩=pure (ps.zip us):=kn3 (P:=λus=>Ez fd ⟨us,[]⟩=pure (ps.zip us)) h k
def kb4{fd:Bb}(h:us.length=4)(k:∀a b c d,Ez fd ⟨[a,b,c,d],[]⟩=pure (ps.zip [a,b,c,d])):Ez fd ⟨us,[]⟩=pure (ps.zip us):=kn4 (P:=λus=>Ez fd ⟨us,[]⟩=pure (ps.zip us)) h k
def kb6{fd:Bb}(h:us.length=6)(k:∀a b c d e f,Ez fd ⟨[a,b,c,d,e,f],[]⟩=pure (ps.zip [a,b,c,d,e,f])):Ez fd ⟨us,[]⟩=pure (ps.zip us):=kn6 (P:=λus=>Ez fd ⟨us,[]⟩=pure (ps.zip us)) h k
abbrev GN(K:Ab)(n:Str)(f:Addr):Prop:=Ra K Eo n=some (some (.ref f))
abbrev FI(K:Ab)(C:Addr)(n:Str)(f:Addr):Prop:=Bo K (.ref C) n=some (some (.ref f))
abbrev ZN(K:Ab)(n:Str):Prop:=Ra K Eo n=some none
abbrev QN(K:Ab)(n:Str)(i:Int)(t:Tok):Prop:=Ra K Eo n=some (some (.int i t))
structure FF(K:Ab)(x:Str)(st:Stmt)(f:Addr)(fd:Bb):Prop where
 a:GN K x f
 F:Fun K x x st f fd
structure MF(K:Ab)(C:Addr)(x q:Str)(st:Stmt)(f:Addr)(fd:Bb):Prop where
 m:Meth K C x f
 F:Fun K x q st f fd
structure CK(K:Ab)(C:Addr)(fs:List Str):Prop where
 c:Cls K C
 na:∀f∈fs,lU K C f
 ms:Of K C=true
 kc:Gi K (.ref C)=true
def CK.fl{K:Ab}{C:Addr}{fs:List Str}(h:CK K C fs):Cfl K C fs:=⟨h.c,h.na⟩
def na0{K:Ab}{C:Addr}:∀f∈([]:List Str),lU K C f:=λ_ h=>nomatch h
def naS{K:Ab}{C:Addr}{l:List Str}(h:Bo K (.ref C) x=some none)(k:∀f∈l,lU K C f):∀f∈x::l,lU K C f:=λf hf=>(Ao.mp hf).elim (λe=>e▸h) (k f)
def mth{K:Ab}{C D f:Addr}{n:Str}(h:Meth K C n f)(g:FI K D n f):Meth K D n f:=⟨g,h.fn,h.kp⟩
def mkO{K:Ab}{C f:Addr}{fs:List Str}(h:CK K C fs)(g:Meth K C "__init__" f):Mk K C f:=⟨h.ms,g.at_,g.fn,h.kc⟩
def fb1(a:Str){x q:Str}{st:Stmt}{f:Addr}{fd:Bb}(F:Fun K x q st f fd)(h:∀kV doc pm an cdv ct u,Ez (Fl x q (jH st) (dO st) (aF st) .none kV doc pm an cdv ct) ⟨[u],[]⟩=pure ([a].zip [u]):=by intros;rfl):Binds K fd [a] []:=F.binds λ_ _ _ _ _ _ us hl=>kb1 hl (h _ _ _ _ _ _)
def fb2(a b:Str){x q:Str}{st:Stmt}{f:Addr}{fd:Bb}(F:Fun K x q st f fd)(h:∀kV doc pm an cdv ct u v,Ez (Fl x q (jH st) (dO st) (aF st) .none kV doc pm an cdv ct) ⟨[u,v],[]⟩=pure ([a,b].zip [u,v]):=by intros;rfl):Binds K fd [a,b] []:=F.binds λ_ _ _ _ _ _ us hl=>kb2 hl (h _ _ _ _ _ _)
def fb3(a b c:Str){x q:Str}{st:Stmt}{f:Addr}{fd:Bb}(F:Fun K x q st f fd)(h:∀kV doc pm an cdv ct u v y,Ez (Fl x q (jH st) (dO st) (aF st) .none kV doc pm an cdv ct) ⟨[u,v,y],[]⟩=pure ([a,b,c].zip [u,v,y]):=by intros;rfl):Binds K fd [a,b,c] []:=F.binds λ_ _ _ _ _ _ us hl=>kb3 hl (h _ _ _ _ _ _)
def fb4(a b c d:Str){x q:Str}{st:Stmt}{f:Addr}{fd:Bb}(F:Fun K x q st f fd)(h:∀kV doc pm an cdv ct u v y z,Ez (Fl x q (jH st) (dO st) (aF st) .none kV doc pm an cdv ct) ⟨[u,v,y,z],[]⟩=pure ([a,b,c,d].zip [u,v,y,z]):=by intros;rfl):Binds K fd [a,b,c,d] []:=F.binds λ_ _ _ _ _ _ us hl=>kb4 hl (h _ _ _ _ _ _)
def fb6(a b c d e g:Str){x q:Str}{st:Stmt}{f:Addr}{fd:Bb}(F:Fun K x q st f fd)(h:∀kV doc pm an cdv ct u v y z o p,Ez (Fl x q (jH st) (dO st) (aF st) .none kV doc pm an cdv ct) ⟨[u,v,y,z,o,p],[]⟩=pure ([a,b,c,d,e,g].zip [u,v,y,z,o,p]):=by intros;rfl):Binds K fd [a,b,c,d,e,g] []:=F.binds λ_ _ _ _ _ _ us hl=>kb6 hl (h _ _ _ _ _ _)
def mY{CX:CXT}{f:Addr}{fd:Bb}{sp:Sp}(h:∀vs H Q E,¬sp vs H Q E):bG P w K mg base CX k f fd ps sp:=
 ⟨λvs H Q E z=>absurd z (h vs H Q E),λ_ _ _ H _ _ vs Q E _ _ _ _ z=>absurd z (h vs H Q E)⟩
def aJn{g1 g2 g3 g4:Bb}(nd:(aAh N).Nodup)(F1:Fun K "inner" "Term.inner" lK f1 g1)(F2:Fun K "inner" "Paired.inner" iR f2 g2)(F3:Fun K "inner" "Rest.inner" lH f3 g3)(F4:Fun K "inner" "Chosen.inner" iK f4 g4)
  (cl:∀C,IsC N C->Cls K C) (c3:Cfl K N.rest ["one","by"]) (c4:Cfl K N.cho ["test","one","other"]) (c5:∀k,Cfl K (N.bin k) ["one","other"])
  (m1:Meth K N.num "inner" f1) (m2:Meth K N.take "inner" f1) (m3:Meth K N.rest "inner" f3) (m4:Meth K N.cho "inner" f4) (m5:∀k,Meth K (N.bin k) "inner" f2):jN P w K mg base N 1 "inner" (iH N):=by
 refine⟨λC hC=>⟨cl C hC,?_⟩⟩;rcases hC with rfl|rfl|rfl|rfl|⟨k,rfl⟩
 ·exact⟨f1,g1,m1,aCs F1 (λt h=>by obtain⟨n,rfl⟩:=aMs nd h;rfl),fb1 "self" F1⟩
 ·exact⟨f1,g1,m2,aCs F1 (λt h=>by obtain⟨b,ss,rfl⟩:=aDv nd h;rfl),fb1 "self" F1⟩
 ·exact⟨f3,g3,m3,aKc F3 c3 λt h=>aIf nd h,fb1 "self" F3⟩
 ·exact⟨f4,g4,m4,aJ4 F4 c4 λt h=>aMr nd h,fb1 "self" F4⟩
 ·exact⟨f2,g2,m5 k,aKa F2 (c5 k) λt h=>aMq nd h,fb1 "self" F2⟩
theorem aCg{f1 f2:Addr}{g1 g2:Bb}(nd:(aAh N).Nodup)(F1:Fun K "takes" "Term.takes" lL f1 g1)(F2:Fun K "takes" "Take.takes" lJ f2 g2)(cl:∀C,IsC N C->Cls K C)(c2:Cfl K N.take ["back","steps"])
  (m1:∀C,IsC N C->C≠N.take->Meth K C "takes" f1) (m2:Meth K N.take "takes" f2) (cV:jN P w K mg base N 1 "inner" (iH N)) (T:Txt mg):∀d,jN P w K mg base N (d+1) "takes" (pI N d)
 |0=>⟨λC hC=>⟨cl C hC,by
   have no:∀vs H Q E,¬spV (pI N 0 C) vs H Q E:=λvs H Q E ⟨_,_,_,_,_,_,⟨t,_,_,h,_⟩,_⟩=>absurd (wQ t) ∅;by_cases e:C=N.take
   ·subst e;exact⟨f2,g2,m2,mY no,fb1 "self" F2⟩
   ·exact⟨f1,g1,m1 C hC e,mY no,fb1 "self" F1⟩⟩⟩
 |d+1=>⟨λC hC=>⟨cl C hC,by
   by_cases e:C=N.take
   ·subst e;exact⟨f2,g2,m2,aJ7 F2 c2 λt h=>aDv nd h,fb1 "self" F2⟩
   ·exact⟨f1,g1,m1 C hC e,aKh F1 (λt h b ss z=>e (by rw[<-h,z];rfl)) cV (aCg nd F1 F2 cl c2 m1 m2 cV T d) T,fb1 "self" F1⟩⟩⟩
theorem aCe{f1:Addr}{g1:Bb}(F1:Fun K "depth" "Term.depth" iT f1 g1)(cl:∀C,IsC N C->Cls K C)(m1:∀C,IsC N C->Meth K C "depth" f1)(cV:jN P w K mg base N 1 "inner" (iH N))(T:Txt mg):∀d,jN P w K mg base N (d+1) "depth" (aE8 N ht d)
 |0=>⟨λC hC=>⟨cl C hC,f1,g1,m1 C hC,mY (λvs H Q E ⟨_,_,_,_,_,_,⟨t,_,_,h,_⟩,_⟩=>absurd (wQ t) ∅),fb1 "self" F1⟩⟩
 |d+1=>⟨λC hC=>⟨cl C hC,f1,g1,m1 C hC,aKf F1 cV (aCe F1 cl m1 cV T d) T,fb1 "self" F1⟩⟩
theorem aCf{f1:Addr}{g1:Bb}(F1:Fun K "parts" "Term.parts" iU f1 g1)(cl:∀C,IsC N C->Cls K C)(m1:∀C,IsC N C->Meth K C "parts" f1)(cV:jN P w K mg base N 1 "inner" (iH N))(T:Txt mg):∀d,jN P w K mg base N (d+1) "parts" (aE8 N fV d)
 |0=>⟨λC hC=>⟨cl C hC,f1,g1,m1 C hC,mY (λvs H Q E ⟨_,_,_,_,_,_,⟨t,_,_,h,_⟩,_⟩=>absurd (wQ t) ∅),fb1 "self" F1⟩⟩
 |d+1=>⟨λC hC=>⟨cl C hC,f1,g1,m1 C hC,aKg F1 cV (aCf F1 cl m1 cV T d) T,fb1 "self" F1⟩⟩
theorem aLn{f:Addr}{fd:Bb}(F:Fun K "first_fault" "first_fault" jJ f fd)(m:mg "first_fault"=some (.ref f))(cV:jN P w K mg base N 1 "inner" (iH N))(aHx:jN P w K mg base N 4 "own_fault" (qY N)):∀d,⇑(d+4) "first_fault" ["term"] (spV (fFF N d))
 |0=>⟨_,_,mY (λvs H Q E ⟨_,_,_,_,_,_,⟨t,_,h,_⟩,_⟩=>absurd (wQ t) ∅),m,F.kp,fb1 "term" F⟩
 |d+1=>⟨_,_,aWv F (aLn F m cV aHx d) cV aHx,m,F.kp,fb1 "term" F⟩
def aJm{g1 g2 g3 g4:Bb}(nd:(aAh N).Nodup)(F1:Fun K "own_fault" "Term.own_fault" fZ f1 g1)(F2:Fun K "own_fault" "Number.own_fault" eE f2 g2)(F3:Fun K "own_fault" "Take.own_fault" fY f3 g3)(F4:Fun K "own_fault" "Rest.own_fault" fX f4 g4)
  (cl:∀C,IsC N C->Cls K C) (c1:Cfl K N.num ["value"]) (c2:Cfl K N.take ["back","steps"]) (c3:Cfl K N.rest ["one","by"])
  (c_within:⇑2 "is_within" PW3 (spV fQ)) (aPl:⇑3 "are_steps" ["thing"] (spV aG0)) (T:Txt mg)
  (m1:Meth K N.num "own_fault" f2) (m2:Meth K N.take "own_fault" f3) (m3:Meth K N.rest "own_fault" f4) (m4:Meth K N.cho "own_fault" f1) (m5:∀k,Meth K (N.bin k) "own_fault" f1):jN P w K mg base N 4 "own_fault" (qY N):=by
 refine⟨λC hC=>⟨cl C hC,?_⟩⟩;rcases hC with rfl|rfl|rfl|rfl|⟨k,rfl⟩
 ·exact⟨f2,g2,m1,aJ9 F2 c1 (λt h=>aMs nd h) c_within T,fb1 "self" F2⟩
 ·exact⟨f3,g3,m2,aJ6 F3 c2 (λt h=>aDv nd h) c_within aPl T,fb1 "self" F3⟩
 ·exact⟨f4,g4,m3,aKb F4 c3 (λt h=>aIf nd h) c_within T,fb1 "self" F4⟩
 ·exact⟨f1,g1,m4,aCr F1 (λt h=>by obtain⟨_,_,_,rfl⟩:=aMr nd h;rfl),fb1 "self" F1⟩
 ·exact⟨f1,g1,m5 k,aCr F1 (λt h=>by obtain⟨_,_,rfl⟩:=aMq nd h;rfl),fb1 "self" F1⟩
def aWb{CR f:Addr}{fd:Bb}{k:Nat}{m:Str}{ps:List Str}{sp:Sp}(cl:Cls K CR)(h:Meth K CR m f)(b:Binds K fd ps [])(F:↥k f fd ps sp):Dis P w K mg base CX0 k (·=CR) m ps λ_=>sp:=⟨λC hC=>by
 have hC:C=CR:=hC;subst hC;exact⟨cl,f,fd,h,F,b⟩⟩
theorem aEy{f:Addr}{fd:Bb}(F:Fun K "_law_told" "_law_told" nH f fd)(m:mg "_law_told"=some (.ref f))(c1:#v[e])(c2:⇑2 "_law_number" ["_law_well_here"] (spV aL5))(T:Txt mg):∀d,⇑(d+2) "_law_told" ["_law_well_here","_law_some","_law_deep"] (spV (aIc d))
 |0=>⟨_,_,mY (λvs H Q E ⟨_,_,_,_,_,_,⟨e,_,_,h,_⟩,_⟩=>absurd h ∅),m,F.kp,fb3 _ _ _ F⟩
 |d+1=>⟨_,_,aP7 F c1 c2 (aEy F m c1 c2 T d) T,m,F.kp,fb3 _ _ _ F⟩
theorem aEx{f:Addr}{fd:Bb}(F:Fun K "_law_made" "_law_made" nG f fd)(m:mg "_law_made"=some (.ref f))(M0:MkB P w K mg base N.num "Number" ["value"])(M1:MkB P w K mg base N.take "Take" ["back","steps"])(M2:MkB P w K mg base N.rest "Rest" ["one","by"])(M3:MkB P w K mg base N.cho "Chosen" ["test","one","other"])(M4:MkB P w K mg base (N.bin 0) "Added" ["one","other"])(M5:MkB P w K mg base (N.bin 1) "Lessened" ["one","other"])(M6:MkB P w K mg base (N.bin 2) "Multiplied" ["one","other"])(M7:MkB P w K mg base (N.bin 3) "Least" ["one","other"])(M8:MkB P w K mg base (N.bin 4) "Most" ["one","other"])(T:Txt mg):∀d,⇑(d+2) "_law_made" ["_law_told_here"] (spV (aIa N d))
 |0=>⟨_,_,mY (λvs H Q E ⟨_,_,_,_,_,_,⟨t,_,h,_⟩,_⟩=>absurd (wQ t) ∅),m,F.kp,fb1 _ F⟩
 |d+1=>⟨_,_,aP1 F M0 M1 M2 M3 M4 M5 M6 M7 M8 (aEx F m M0 M1 M2 M3 M4 M5 M6 M7 M8 T d) T,m,F.kp,fb1 _ F⟩
theorem aCb{f:Addr}{fd:Bb}(F:Fun K "_law_takes" "_law_takes" lO f fd)(m:mg "_law_takes"=some (.ref f))(T:Txt mg):∀d,⇑(d+1) "_law_takes" ["_law_told_here"] (spV (sG d))
 |0=>⟨_,_,mY (λvs H Q E ⟨_,_,_,_,_,_,⟨t,_,h,_⟩,_⟩=>absurd (wQ t) ∅),m,F.kp,fb1 _ F⟩
 |d+1=>⟨_,_,aKe F (aCb F m T d) T,m,F.kp,fb1 _ F⟩
def aTx{H:Hp}{a:Addr}{E:XK}(h:SqL K H a (ns.map V.int)):spZ (aL3 K) [.ref a] H (λv _=>v=.bl true) E:=
 ⟨λ_=>False,λ_=>False,[.op (aQx K ns)],λs=>s=.sh (.b true),λu=>u=.b true,⟨nofun,nofun,nofun⟩,⟨_,_,rfl,⟨a,rfl,h.imp (λh=>⟨id,h⟩) λh _=> .inr h⟩,rfl⟩,⟨ns,rfl,rfl,rfl⟩,λs v H' hs _ r=>by
  subst hs;exact r.1,λu v H' m _ d=>by
  subst m;exact d.1⟩
def qO:aP ["self","at"] ["self","at"] (aF fL):={}
def aP6{f:Addr}{fd:Bb}(F:Fun K "__init__" "TileError.__init__" fL f fd)(hV:mg "ValueError"=none):↥1 f fd ["self","at"] (rP K):=by
 refine F.ok qO (λvs H Q E h=>?_) (λcdv A outer s H vs Q E hr h=>?_)
 ·obtain⟨e,C,y,rfl,_⟩:=h;rfl
 ·obtain⟨e,C,y,rfl,he,c,tk,q⟩:=h;refine⟨_,bC (lG (aW4 rfl hV (bK (pv 0) (bK (pv 1) dN)))) (cI (aKq (pv 0) (pv 1) rfl)),?_⟩;refine⟨_,rfl,_,rfl,e,C,y,none,rfl,he,c.kts,?_⟩;exact⟨_,rfl,_,rfl,e,C,rfl,he,c,tk,λdx h1 h2=>q dx h1 h2⟩
def aTc{l:W.OpenLaw}{w:Bh}{K:W.Frag}{h:Heap}{mg:Str->#v[8]}{fa Cnum Ctake Crest Ccho Cb0 Cb1 Cb2 Cb3 Cb4 CG CJ f10 f11 f12 f13 f14 f15 f16 f17 f18 f19 f20 f21 f22 f23 f24 f25 f26 f27 f28 f29 f30 f31 f32 f33 f34 f35 f36 f37 f38 f39 f40 f41 f42 f43 f44 f45 f46 f47 f48 f49 f50 f51 f52 f53 f54 f55 f56 f57 f58 f59 f60 f61 f62:Addr}{g10 g11 g12 g13 g14 g15 g16 g17 g18 g19 g20 g21 g22 g23 g24 g25 g26 g27 g28 g29 g30 g31 g32 g33 g34 g35 g36 g37 g38 g39 g40 g41 g42 g43 g44 g45 g46 g47 g48 g49 g50 g51 g52 g53 g54 g55 g56 g57 g58 g59 g60 g61 g62:Bb}{t0 t1 t2 t3 t4 t5 t6 t7 t8 t9 t10 t11 t12 t13 t14:Tok}{ft XN XT XE XG XX:Addr}{gt:Bb}(X:K.In h)(G:h.Ns Eo mg)(hfa:mg "law"=some (.ref fa))
  (aCnum:GN K "Number" Cnum) (aCtake:GN K "Take" Ctake) (aCrest:GN K "Rest" Crest) (aCcho:GN K "Chosen" Ccho)
  (aCb0:GN K "Added" Cb0) (aCb1:GN K "Lessened" Cb1) (aCb2:GN K "Multiplied" Cb2) (aCb3:GN K "Least" Cb3)
  (aCb4:GN K "Most" Cb4) (aCG:GN K "Grid" CG) (aCJ:GN K "Job" CJ) (F10:FF K "is_whole" uC f10 g10)
  (F11:FF K "is_within" rK f11 g11) (F12:FF K "is_rim" aA7 f12 g12) (F13:FF K "product" xM f13 g13) (F14:FF K "check_lines" oG f14 g14)
  (F15:FF K "are_steps" nJ f15 g15) (F16:FF K "lines_of" pY f16 g16) (F17:FF K "first_fault" jJ f17 g17) (F18:FF K "check_term" pX f18 g18)
  (F19:FF K "is_row" vN f19 g19) (F20:FF K "are_rows" pW f20 g20) (F21:FF K "_law_cell_at" mK f21 g21) (F22:FF K "_law_well" rJ f22 g22)
  (F23:FF K "_law_draw" rH f23 g23) (F24:FF K "_law_sizes" pR f24 g24) (F25:FF K "_law_rim" uB f25 g25) (F26:FF K "_law_steps" lN f26 g26)
  (F27:FF K "_law_some_takes" fD f27 g27) (F28:FF K "_law_number" oE f28 g28) (F29:FF K "_law_told" nH f29 g29) (F30:FF K "_law_made" nG f30 g30)
  (F31:FF K "_law_takes" lO f31 g31) (F32:FF K "_law_job" gZ f32 g32) (F33:FF K "_law_whole" pU f33 g33) (F34:FF K "_law_first_good" fC f34 g34)
  (F35:FF K "_law_due" pQ f35 g35) (F36:FF K "_law_odd_first" dU f36 g36) (F37:FF K "_law_bad_term" kO f37 g37) (F38:FF K "_law_turned" oF f38 g38)
  (F39:FF K "_law_found" lM f39 g39) (F40:FF K "law" aCu f40 g40) (F41:MF K Cnum "inner" "Term.inner" lK f41 g41) (F42:MF K Cnum "takes" "Term.takes" lL f42 g42)
  (F43:MF K Cnum "depth" "Term.depth" iT f43 g43) (F44:MF K Cnum "parts" "Term.parts" iU f44 g44) (F45:MF K Ccho "own_fault" "Term.own_fault" fZ f45 g45) (F46:MF K Cnum "__init__" "Number.__init__" iM f46 g46)
  (F47:MF K Cnum "own_fault" "Number.own_fault" eE f47 g47) (F48:MF K Ctake "__init__" "Take.__init__" kJ f48 g48) (F49:MF K Ctake "takes" "Take.takes" lJ f49 g49) (F50:MF K Ctake "own_fault" "Take.own_fault" fY f50 g50)
  (F51:MF K Cb0 "__init__" "Paired.__init__" iQ f51 g51) (F52:MF K Cb0 "inner" "Paired.inner" iR f52 g52) (F53:MF K Crest "__init__" "Rest.__init__" kI f53 g53) (F54:MF K Crest "inner" "Rest.inner" lH f54 g54)
  (F55:MF K Crest "own_fault" "Rest.own_fault" fX f55 g55) (F56:MF K Ccho "__init__" "Chosen.__init__" iJ f56 g56) (F57:MF K Ccho "inner" "Chosen.inner" iK f57 g57) (F58:MF K CG "__init__" "Grid.__init__" kE f58 g58)
  (F59:MF K CG "lines" "Grid.lines" pO f59 g59) (F60:MF K CG "places_many" "Grid.places_many" gY f60 g60) (F61:MF K CJ "__init__" "Job.__init__" mJ f61 g61) (F62:MF K CJ "deep" "Job.deep" pP f62 g62)
  (kCnum:CK K Cnum ["value"]) (kCtake:CK K Ctake ["back","steps"]) (kCrest:CK K Crest ["one","by"]) (kCcho:CK K Ccho ["test","one","other"])
  (kCb0:CK K Cb0 ["one","other"]) (kCb1:CK K Cb1 ["one","other"]) (kCb2:CK K Cb2 ["one","other"]) (kCb3:CK K Cb3 ["one","other"])
  (kCb4:CK K Cb4 ["one","other"]) (kCG:CK K CG ["sizes","rims"]) (kCJ:CK K CJ ["taken","grid","term","modulus","rounds","first"]) (e0:FI K Cb1 "__init__" f51)
  (e1:FI K Cb2 "__init__" f51) (e2:FI K Cb3 "__init__" f51) (e3:FI K Cb4 "__init__" f51) (e4:FI K Ctake "inner" f41)
  (e5:FI K Cb1 "inner" f52) (e6:FI K Cb2 "inner" f52) (e7:FI K Cb3 "inner" f52) (e8:FI K Cb4 "inner" f52)
  (e9:FI K Crest "takes" f42) (e10:FI K Ccho "takes" f42) (e11:FI K Cb0 "takes" f42) (e12:FI K Cb1 "takes" f42)
  (e13:FI K Cb2 "takes" f42) (e14:FI K Cb3 "takes" f42) (e15:FI K Cb4 "takes" f42) (e16:FI K Ctake "depth" f43)
  (e17:FI K Crest "depth" f43) (e18:FI K Ccho "depth" f43) (e19:FI K Cb0 "depth" f43) (e20:FI K Cb1 "depth" f43)
  (e21:FI K Cb2 "depth" f43) (e22:FI K Cb3 "depth" f43) (e23:FI K Cb4 "depth" f43) (e24:FI K Ctake "parts" f44)
  (e25:FI K Crest "parts" f44) (e26:FI K Ccho "parts" f44) (e27:FI K Cb0 "parts" f44) (e28:FI K Cb1 "parts" f44)
  (e29:FI K Cb2 "parts" f44) (e30:FI K Cb3 "parts" f44) (e31:FI K Cb4 "parts" f44) (e32:FI K Cb0 "own_fault" f45)
  (e33:FI K Cb1 "own_fault" f45) (e34:FI K Cb2 "own_fault" f45) (e35:FI K Cb3 "own_fault" f45) (e36:FI K Cb4 "own_fault" f45)
  (nd:[Cnum,Ctake,Crest,Ccho,Cb0,Cb1,Cb2,Cb3,Cb4].Nodup) (z0:ZN K "isinstance") (z1:ZN K "int") (z2:ZN K "bool")
  (z3:ZN K "str") (z4:ZN K "tuple") (z5:ZN K "list") (z6:ZN K "len")
  (z7:ZN K "range") (z8:ZN K "enumerate") (z9:ZN K "max") (z10:ZN K "min")
  (z11:ZN K "sorted") (z12:ZN K "sum") (z13:ZN K "set") (z14:ZN K "all")
  (z15:ZN K "any") (z16:ZN K "zip") (z17:ZN K "abs") (z18:ZN K "dict")
  (q0:QN K "GREATEST_NUMBER" 1000000000000 t0) (q1:QN K "GREATEST_DIVISOR" 1000000000 t1) (q2:QN K "GREATEST_BACK" 3 t2) (q3:QN K "GREATEST_STEP" 9 t3)
  (q4:QN K "MOST_STEPS" 3 t4) (q5:QN K "MOST_DEPTH" 12 t5) (q6:QN K "MOST_PARTS" 60 t6) (q7:QN K "MOST_TAKES" 6 t7)
  (q8:QN K "GREATEST_MODULUS" 1000000000 t8) (q9:QN K "MOST_ROUNDS" 12 t9) (q10:QN K "MOST_SPOTS" 120 t10) (q11:QN K "GREATEST_FIXED" 1000000000 t11)
  (q12:QN K "MOST_LINES" 3 t12) (q13:QN K "GREATEST_SIZE" 9 t13) (q14:QN K "MOST_PLACES" 40 t14) (aXN:GN K "NoJob" XN)
  (aXT:GN K "NoTerm" XT) (aXE:GN K "TileError" XE) (aXG:GN K "NoGrid" XG) (aXX:GN K "NoText" XX)
  (zVE:ZN K "ValueError") (zrp:ZN K "repr") (rN:Rs K XN ft) (xcN:wJ K XN)
  (tkN:W.takerIn K XN "at"=some none) (askN:dY K XN) (exN:W.exmOne K (.ref XN) (.ref XE)=some true) (anN:W.kitAny K (.ref XN) [.ref XG,.ref XX]=some false)
  (isN:Vv K (.ref XN) (.ref XN)=some true) (ioN:Vv K (.ref XN) (.ref XT)=some false) (hdN:W.hasDictIn K XN=true) (fdN:W.findIn K (.ref XN) "at"=some none)
  (rT:Rs K XT ft) (xcT:wJ K XT) (tkT:W.takerIn K XT "at"=some none) (askT:dY K XT)
  (exT:W.exmOne K (.ref XT) (.ref XE)=some true) (anT:W.kitAny K (.ref XT) [.ref XG,.ref XX]=some false) (isT:Vv K (.ref XT) (.ref XT)=some true) (ioT:Vv K (.ref XT) (.ref XN)=some false)
  (hdT:W.hasDictIn K XT=true) (fdT:W.findIn K (.ref XT) "at"=some none) (Ft:Fun K "__init__" "TileError.__init__" fL ft gt)
  :∃fd:Bb,(∀(s:Ae)(v:Value),Ub s fd ⟨[v],[]⟩ [("_law_script",v)])/\∀base:Heap,K.In base->base.Ns Eo mg->bG l.prog w K mg base CX0 22 fa fd ["_law_script"] (spZ (aL3 K)):=by
 have m:∀{n:Str}{f:Addr},GN K n f->mg n=some (.ref f):=λh=>Ip X G h;have mn:∀{n:Str},W.nsIn K Eo n=some none->mg n=none:=λh=>W.mg_none_of X G h;have e:=hfa.symm.trans (m F40.a);cases e;have T:Txt mg:=⟨mn z0,mn z1,mn z2,mn z3,mn z4,mn z5,mn z6,mn z7,mn z8,mn z9,mn z10,mn z11,mn z12,mn z13,mn z14,mn z15,mn z16,mn z17,mn z18,⟨_,Ip X G q0⟩,⟨_,Ip X G q1⟩,⟨_,Ip X G q2⟩,⟨_,Ip X G q3⟩,⟨_,Ip X G q4⟩,⟨_,Ip X G q5⟩,⟨_,Ip X G q6⟩,⟨_,Ip X G q7⟩,⟨_,Ip X G q8⟩,⟨_,Ip X G q9⟩,⟨_,Ip X G q10⟩,⟨_,Ip X G q11⟩,⟨_,Ip X G q12⟩,⟨_,Ip X G q13⟩,⟨_,Ip X G q14⟩⟩;let N:Cn:=⟨Cnum,Ctake,Crest,Ccho,λk=>match k with|0=>Cb0|1=>Cb1|2=>Cb2|3=>Cb3|4=>Cb4⟩;have nd:(aAh N).Nodup:=nd;have c5:∀k,CK K (N.bin k) ["one","other"]:=λk=>by
  match k with
  |0=>exact kCb0
  |1=>exact kCb1
  |2=>exact kCb2
  |3=>exact kCb3
  |4=>exact kCb4
 have cl:∀C,IsC N C->Cls K C:=λC hC=>by
  rcases hC with rfl|rfl|rfl|rfl|⟨k,rfl⟩
  ·exact kCnum.c
  ·exact kCtake.c
  ·exact kCrest.c
  ·exact kCcho.c
  ·exact(c5 k).c
 have F0:=F40.F;obtain⟨⟨_,_,y1,y2,y3,y4,y5,y6,_,rfl,_⟩,_⟩:=F0;refine⟨W.fnOf "law" "law" (jH aCu) (dO aCu) (aF aCu) .none y1 y2 y3 y4 y5 y6,λs v=> .of_eq rfl,λbase _ _=>?_⟩;have cal:∀{CX:CXT}{k:Nat}{f:Addr}{fd:Bb}{n:Str}{st:Stmt}{ps:List Str}{sp:Sp},FF K n st f fd->bG l.prog w K mg base CX k f fd ps sp->Binds K fd ps []->Cal l.prog w K mg base CX k n ps sp:=λF h b=>⟨_,_,h,m F.a,F.F.kp,b⟩;have dd:=@aWb l.prog w K mg base;have D_i:jN l.prog w K mg base N 1 "inner" (iH N):=aJn nd F41.F F52.F F54.F F57.F cl kCrest.fl kCcho.fl (λk=>(c5 k).fl) F41.m (mth F41.m e4) F54.m F57.m (λk=>by
  match k with
  |0=>exact F52.m
  |1=>exact(mth F52.m e5)
  |2=>exact(mth F52.m e6)
  |3=>exact(mth F52.m e7)
  |4=>exact(mth F52.m e8))
 have D_t:=aCg (P:=l.prog) (w:=w) (base:=base) nd F42.F F49.F cl kCtake.fl (λC hC ne=>by
  rcases hC with rfl|rfl|rfl|rfl|⟨k,rfl⟩
  ·exact F42.m
  ·exact absurd rfl ne
  ·exact(mth F42.m e9)
  ·exact(mth F42.m e10)
  ·match k with
   |0=>exact(mth F42.m e11)
   |1=>exact(mth F42.m e12)
   |2=>exact(mth F42.m e13)
   |3=>exact(mth F42.m e14)
   |4=>exact(mth F42.m e15)) F49.m D_i T 13
 have D_d:=aCe (P:=l.prog) (w:=w) (base:=base) F43.F cl (λC hC=>by
  rcases hC with rfl|rfl|rfl|rfl|⟨k,rfl⟩
  ·exact F43.m
  ·exact(mth F43.m e16)
  ·exact(mth F43.m e17)
  ·exact(mth F43.m e18)
  ·match k with
   |0=>exact(mth F43.m e19)
   |1=>exact(mth F43.m e20)
   |2=>exact(mth F43.m e21)
   |3=>exact(mth F43.m e22)
   |4=>exact(mth F43.m e23)) D_i T 13
 have D_p:=aCf (P:=l.prog) (w:=w) (base:=base) F44.F cl (λC hC=>by
  rcases hC with rfl|rfl|rfl|rfl|⟨k,rfl⟩
  ·exact F44.m
  ·exact(mth F44.m e24)
  ·exact(mth F44.m e25)
  ·exact(mth F44.m e26)
  ·match k with
   |0=>exact(mth F44.m e27)
   |1=>exact(mth F44.m e28)
   |2=>exact(mth F44.m e29)
   |3=>exact(mth F44.m e30)
   |4=>exact(mth F44.m e31)) D_i T 13
 have c10:=cal F10 (aNf F10.F T) (fb1 _ F10.F);have c11:=cal F11 (aKk F11.F c10) (fb3 _ _ _ F11.F);have c15:=cal F15 (aNe F15.F c11 T) (fb1 _ F15.F);have D_f:jN l.prog w K mg base N 4 "own_fault" (qY N):=aJm nd F45.F F47.F F50.F F55.F cl kCnum.fl kCtake.fl kCrest.fl c11 c15 T F47.m F50.m F55.m F45.m (λk=>by
  match k with
  |0=>exact(mth F45.m e32)
  |1=>exact(mth F45.m e33)
  |2=>exact(mth F45.m e34)
  |3=>exact(mth F45.m e35)
  |4=>exact(mth F45.m e36))
 have c17:=aLn F17.F (m F17.a) D_i D_f 13;have GT:bG l.prog w K mg base CX0 1 ft _ ["self","at"] (rP K):=aP6 Ft (mn zVE);have bT:=fb2 "self" "at" Ft;have NT:Ng K mg "NoTerm" XT ft:=⟨rT,xcT,tkT,m aXT⟩;have NJ:Ng K mg "NoJob" XN ft:=⟨rN,xcN,tkN,m aXN⟩;have c16:=cal F16 (aJ8 F16.F D_t NT GT bT T) (fb1 _ F16.F);have c18:=cal F18 (aJ3 F18.F c17 c16 D_t D_d D_p NT GT bT T) (fb1 _ F18.F);have M_Number:MkB l.prog w K mg base (N.num) "Number" ["value"]:=⟨⟨_,_,aNa F46.F kCnum.fl,mkO kCnum F46.m,m aCnum,(fb2 _ _ F46.F)⟩⟩;have M_Take:MkB l.prog w K mg base (N.take) "Take" ["back","steps"]:=⟨⟨_,_,aM8 F48.F kCtake.fl,mkO kCtake F48.m,m aCtake,(fb3 _ _ _ F48.F)⟩⟩;have M_Rest:MkB l.prog w K mg base (N.rest) "Rest" ["one","by"]:=⟨⟨_,_,aNb F53.F kCrest.fl,mkO kCrest F53.m,m aCrest,(fb3 _ _ _ F53.F)⟩⟩;have M_Chosen:MkB l.prog w K mg base (N.cho) "Chosen" ["test","one","other"]:=⟨⟨_,_,aM3 F56.F kCcho.fl,mkO kCcho F56.m,m aCcho,(fb4 _ _ _ _ F56.F)⟩⟩;have M_Added:MkB l.prog w K mg base (N.bin 0) "Added" ["one","other"]:=⟨⟨_,_,rC F51.F kCb0.fl,mkO kCb0 F51.m,m aCb0,(fb3 _ _ _ F51.F)⟩⟩;have M_Lessened:MkB l.prog w K mg base (N.bin 1) "Lessened" ["one","other"]:=⟨⟨_,_,rC F51.F kCb1.fl,mkO kCb1 (mth F51.m e0),m aCb1,(fb3 _ _ _ F51.F)⟩⟩;have M_Multiplied:MkB l.prog w K mg base (N.bin 2) "Multiplied" ["one","other"]:=⟨⟨_,_,rC F51.F kCb2.fl,mkO kCb2 (mth F51.m e1),m aCb2,(fb3 _ _ _ F51.F)⟩⟩;have M_Least:MkB l.prog w K mg base (N.bin 3) "Least" ["one","other"]:=⟨⟨_,_,rC F51.F kCb3.fl,mkO kCb3 (mth F51.m e2),m aCb3,(fb3 _ _ _ F51.F)⟩⟩;have M_Most:MkB l.prog w K mg base (N.bin 4) "Most" ["one","other"]:=⟨⟨_,_,rC F51.F kCb4.fl,mkO kCb4 (mth F51.m e3),m aCb4,(fb3 _ _ _ F51.F)⟩⟩;have c12:=cal F12 (aM6 F12.F c11 T) (fb1 _ F12.F);have c13:=cal F13 (aP4 F13.F) (fb1 _ F13.F);have c14:=cal F14 (aM2 F14.F c11 c12 T) (fb2 _ _ F14.F);have c19:=cal F19 (aM7 F19.F c11 T) (fb3 _ _ _ F19.F);have c20:=cal F20 (aHc F20.F c19 T) (fb4 _ _ _ _ F20.F);have D_lines:=dd kCG.c F59.m (fb1 _ F59.F) (aM9 F59.F kCG.fl T);have D_many:=dd kCG.c F60.m (fb1 _ F60.F) (aP2 F60.F kCG.fl c13);have D_deep:=dd kCJ.c F62.m (fb1 _ F62.F) (aPy F62.F ⟨kCJ.c,λf hf=>kCJ.na f (by rw[Br.mp hf];exact Ah)⟩ T);have M_Grid:MkU l.prog w K mg base 5 CG "Grid" ["self","sizes","rims"] aGz:=⟨⟨_,_,aM5 F58.F kCG.fl c14 c13 T,mkO kCG F58.m,m aCG,(fb3 _ _ _ F58.F)⟩⟩;have M_Job:MkO l.prog w K mg base 19 CJ "Job" ["self","grid","term","modulus","rounds","first"] (fJX N CG CJ XT XN 13):=⟨⟨_,_,aJ5 (fT:=ft) F61.F kCJ.fl c18 c16 c11 c20 D_t D_lines D_many D_deep NJ GT bT T,mkO kCJ F61.m,m aCJ,(fb6 _ _ _ _ _ _ F61.F)⟩⟩;have c21:=cal F21 (aPx F21.F T) (fb2 _ _ F21.F);have c22:=cal F22 (aP8 F22.F c21 T) (fb2 _ _ F22.F);have c23:=cal F23 (aPz F23.F) (fb2 _ _ F23.F);have c24:=cal F24 (aNc F24.F c23 T) (fb1 _ F24.F);have c25:=cal F25 (aP5 F25.F c23 T) (fb1 _ F25.F);have c26:=cal F26 (aKd F26.F c23 T) (fb2 _ _ F26.F);have c27:=cal F27 (aNd F27.F c23 c26 T) (fb2 _ _ F27.F);have c28:=cal F28 (aP3 F28.F c23 T) (fb1 _ F28.F);have c29:=aEy F29.F (m F29.a) c23 c28 T 4;have c30:=aEx (N:=N) F30.F (m F30.a) M_Number M_Take M_Rest M_Chosen M_Added M_Lessened M_Multiplied M_Least M_Most T 13;have c31:=aCb (P:=l.prog) (w:=w) (base:=base) F31.F (m F31.a) T 4;have c32:=cal F32 (aP0 F32.F c23 c24 c25 c27 c29 c31 T) (fb1 _ F32.F);have c33:=cal F33 (aKj F33.F T) (fb3 _ _ _ F33.F);have c34:=cal F34 (aD0 F34.F c33 T) (fb3 _ _ _ F34.F);have c35:=cal F35 (aT4 F35.F c33 c31 c34 T) (fb1 _ F35.F);have c36:=cal F36 (aT6 F36.F c23 T) (fb2 _ _ F36.F);have c37:=cal F37 (aT3 F37.F c23 T) (fb2 _ _ F37.F);have c38:=cal F38 (aKi F38.F c23 c37 c36 T) (fb2 _ _ F38.F);have Z:XFc K mg XE XG XX XN XT:=⟨m aXE,m aXG,m aXX,m aXN,m aXT,askN,askT,exN,exT,anN,anT,isN,ioN,ioT,isT,hdN,hdT,fdN,fdT⟩;have c39:=cal F39 (aM4 F39.F kCG.fl kCJ.fl M_Grid M_Job c30 c31 D_t Z T) (fb2 _ _ F39.F);exact aT5 F40.F c22 c23 c32 c38 c35 c39 (mn zrp) T
def aVw{l:W.OpenLaw}{q:Ap}{loose:List Str}{XP:(Str->#v[8])->Heap->Prop}{YP:Bh->Heap->Prop}{d:DefRec}{K:Params->W.Frag}(hn:l.most=some 63)(hdf:d.params.defaults=[])
  (hY:∀(w:Bh)(h:Heap),YP w h->(K w.params).In h)
  (F:∀(w:Bh)(mg:Str->#v[8])(fa:Addr)(h:Heap),(K w.params).In h->h.Ns Eo mg->mg d.name=some (.ref fa)->
   ∃fd:Bb,(∀(s:Ae)(u:Value),Ub s fd ⟨[u],[]⟩ [("_law_script",u)])/\∀base:Heap,(K w.params).In base->base.Ns Eo mg->bG l.prog w (K w.params) mg base CX0 22 fa fd ["_law_script"] (spZ (aL3 (K w.params)))):
  W.WalkO q loose XP YP l.row.toRowW d [] (λf vs=>To f vs):=
 L2.aRn (n:=63) (k:=22) (x:="_law_script") (CX:=λ_=>CX0) (sp:=λw=>spZ (aL3 (K w.params))) hn ⋯ hdf ⟨rfl,⋯,⋯,rfl⟩ hY F (λ_ _ _ _ _ _ hS=>aTx hS) λ_ _ _ _ _ z=>z
end Q
structure PySem.W.Fast:Prop where
 (tw9922120849398660818 tw8058428861983212151 tw14965817183430922974 tw11929408057398020660 tw14278071178448147702 tw15519264353627686854 tw15280152796340739087 tw6286934289659504971 tw15894131387817383083 tw5949586960271480013 tw1959007848979768697 tw15586123636960417559 tw14266441536750324308 tw14224171643893640921 tw7991346888155008669 tw5173655232586542896 tw11756934133626906439 tw3522968716558038640 tw4063557321332116728 tw12177361865867048904 tw14478487614488991552 tw17626483246850967999 tw17096957776660301610 tw13788477225077623605 tw5146329443946090311 tw14471320823977216327 tw2511108921749797314 tw4555524309005188683 tw10938689701130279034 tw13454178546057997216 tw11291070961894000877 tw11894991461849045139 tw594741045944680605 tw303751426633624759 tw14767383596178926522 tw9928097849930191548 tw14677250413488020096 tw10576271779943702523 tw17160442962921020949 tw737835024300205672 tw9574506030613386033 tw17111105476487077931 tw11453137169678240273 tw12429777182140466003 tw1046132939054182050 tw17080810018040335 tw7859814983499315498 tw1534203482432236297 tw9814600373634173210 tw8911009660873351001 tw6904843787948626011 tw1378339117544057047 tw6202011602350282199 tw9832581865845214724 tw6501124994350989044 tw4766090656588882808 tw16977769404142754247 tw6995491364942190644 tw13485238453426729626 tw11569489313942166844 tw11338133164107079819 tw14009663879367151664 tw12830555024328640459 tw12143345459649219244 tw8300234649343908495 tw11648726919079226326 tw3118650685773681659 tw13399142579174359148 tw15094042588670974486 tw3140722678228376815 tw8125091032072534975 tw10106507709536558862 tw7705244444298688197 tw17077586689371711747 tw10560189631011305760 tw10538316712151501094 tw17116250143726075935 tw17133404309675576282 tw8068702441088868630 tw2175967783920184238 tw11562057010446363805 tw3757680372558209369 tw1975984659448572472 tw16013664710637237725 tw4093235658550935138 tw1817712989946584228 tw7009725249383693558 tw9889038149713945082 tw10253734017067630396 tw1989202143264651177 tw9179272491426694236 tw2730628857375577769 tw4465321792734459255 tw1916577339417172589 tw12741760377700072972 tw6484595770509915417 tw15121997121174014454 tw3206304298181838783 tw8027694425395805917 tw17887759059444337991 tw718770494130779203 tw10208201159147808071 tw8731332376040103482 tw12149355850086861091 tw15543187527371370170 tw2759392265027966377 tw12090932584954631181 tw8105079866402878647 tw14536801059189452220 tw8625225791226463720 tw14819566880909670407 tw1220514941533736448 tw12244998578133916067 tw14749766295813203961 tw1476215509972184355 tw9018873658155921076 tw2537849210840284437 tw10823973500306261499 tw14844732614135229895 tw11893073837181035498 tw5250160353817499661 tw13694029889142239630 tw13347736058213377295 tw13475968936629748730 tw535871313426370981 tw11458184582875068592 tw16829009664334043690 tw12840142686526942593 tw14308823153729084055 tw7135151204878425889 tw14158676761752845831 tw13834355637066139386 tw10964518619511749805 tw6723219203424163881 tw6050040968406341796 tw7229824935647865801 tw11955575946212927093 tw300358747141765139 tw15664361598878537994 tw5514667405829693790 tw16352862981779872457 tw163168584560871682 tw3613598224311124905 tw11688385452827449296 tw4055552940190952341 tw16991756815668918291 tw14334889504246646564 tw9232121285031447953 tw18052224140528137938 tw12943084850995433363 tw684588731129735545 tw1762353983179843769 tw17257162593528400821 tw15060121448470907310 tw2873740817312980615 tw2317565287205616007 tw13217811323420059001 tw5546743460232464139 tw3076590897022310611 tw9835761641870013980 tw1945974329657059197 tw14257953643760530633 tw5257999753996556701 tw2103397974752635841 tw5695026780780725506 tw9916144912331699486 tw7334836171323168834 tw17120785825155311279 tw11516145198293352211 tw9171452788017627072 tw11342556754314374659 tw791310094031213063 tw11712452885196019504 tw16267458783252804057 tw1156183069730941518 tw3722482300163957855 tw12296937437164149356 tw5698210924461210612 tw7556874132968509197 tw6646529421628394965 tw9985840730458183667 tw15107927633106095814 tw11858235726724841909 tw13150116471849246217 tw12349461025615748697 tw7204703719254104653 tw496387555487151025 tw3131532027200710483 tw2805911374522242524 tw17846153748068292667 tw14804325696325532082 tw1575861122117773737 tw661702333803084955 tw6135313554095297307 tw12172613826850670713 tw11100476072114223986 tw12628552885211468566 tw7266677878848497463 tw597560827306671285 tw1251900619256498455 tw17848518003205478774 tw15643023663457744002 tw17905474930811504834 tw11608821558365050546 tw12630679978996123504 tw12969846332185941853 tw10902308387918526694 tw11250312373343233099 tw8351509612777956068 tw11636868024733373866 tw847585588713083943 tw6561701394977846326 tw3412711605053426777 tw2817379250753786310 tw12973036452259895640 tw4260587488106024004 tw294081485544023647 tw11309558730914711232 tw10541867489406836160 tw17790611780334139476 tw12348226638278689233 tw13066371215008896640 tw1170126304548861794 tw10287892711554231476 tw10120702936205351684 tw7548495134025137800 tw16565256347094721198 tw16317129447907341301 tw7035749830036716194 tw6879312652003283720 tw6456186382460421626 tw6886701894527339496 tw5478715165079480871 tw11336169109033511965 tw8759316854933344450 tw9850096225497740830 tw8190287386538134628 tw2240837517683389222 tw1363768382127556819 tw5649285131313994565 tw5357373995234288394 tw6332132804318684928 tw4742021627326518465 tw3163102872008913402 tw17233745227365077472 tw15689190498059837993 tw8591465152058464377 tw9410789548339124150 tw5954175846712627640 tw12834719778000640440 tw14470439861344187860 tw5882544558130004949 tw14134953290646856569 tw6525436435949871344 tw1382776440910223212 tw9478555939081091170 tw13675010145955442223 tw7839065646068014910 tw1321025434532424341 tw17107498586921242865 tw4938687347971098321 tw17478923896894705649 tw16935317928572418998 tw13100342478303830127 tw6351656748212428419 tw18125708620904799054 tw14513717435853876355 tw11969165088677420300 tw10407456066930820871 tw16000277965643227032 tw16735125752383352905 tw2756980605355321839 tw4807960973757928648 tw11579894632534139065 tw520162447330516169 tw13493710890443558224 tw7609699947780059400 tw14499540610327148399 tw4498543568090795745 tw2499427389710505444 tw6371024615587088033 tw10960307428997054461 tw17868027789729118110 tw6471567105011425736 tw9547307906053017945 tw16396237417002631203 tw4781810984851958656 tw12339724283429663917 tw11187297705944806114 tw3682566859416828218 tw160252452032338358 tw4932277638521324511 tw14999293403149420289 tw515102710130101557 tw1929260772877267427 tw15291287050784531860 tw6602541143699258305 tw5811075818566776165 tw4040818992260008280 tw11192806566891092989 tw7418867419747437007 tw1282933466409406234 tw967398893459598722 tw6784841210295048526 tw5478698912902849555 tw4526235053450460703 tw12701284131844918455 tw10729580838753055054 tw8105319507699242894 tw6311931387040564390 tw3477629949618178711 tw11146916310418653180 tw11772555261326835011 tw5925824878433939542 tw784573390395500891 tw10201423642503354539 tw16486290687409649276 tw9584465750989155883 tw5645920857538135110 tw14734600778062127383 tw14555946929141284661 tw13338216396112740684 tw13210071897327281157 tw5274555044293314086 tw5079824874060641352 tw16679454675319047650 tw9140793340271514614 tw6262399282307904543 tw4946634980922473487 tw17324343712309777142 tw4388528141632662092 tw11442599290478638688 tw554406268812540732 tw13964541516843393981 tw9150123978717441313 tw9296985463038826527 tw12026136292550964864 tw8889809980507955624 tw5119211471978924979 tw16777028438337647551 tw16579232061738247619 tw1348730095496321556 tw11310058380757675668 tw4061228317553712912 tw14314940052177070009 tw1737894358853921190 tw18163951932561465852 tw5902254388357020571 tw11322134616682782737 tw17091599823327673522 tw14453947981308817569 tw2545276591045713616 tw16406203147663712598 tw11772554122118194727 tw17060738928638764756 tw2128549508797887467 tw591792831780446825 tw7861391316275263231 tw6363497454748465513 tw15708134577546868177 tw13229267494579882723 tw6438526076895687296 tw14264197075012645459 tw2604735876312938395 tw4388989857935575017 tw10967205576994054536 tw16664382391735562498 tw1700085827570033595 tw13620327649878417860 tw3856300240294874263 tw14849128657168376334 tw216620940683485693 tw13971149294412546537 tw7962513835713295149 tw7233550423474642155 tw3648584689631821619 tw14597331948862615572 tw5836219293467743404 tw6302405998096970710 tw4402857002615355885 tw15662863314297910832 tw12463970844352577900 tw12350031423929955134 tw9651723613230328152 tw1771499000534323618 tw9166007038964148198 tw16539068536655080265 tw8464524643720840395 tw13984624389447802343 tw17279499310942945681 tw8365025365654233582 tw7302835233193637998 tw5906732415239964875 tw12941953038425844312 tw2497671840232813295 tw17518095731689291071 tw581295861655807727 tw4351016246416688769 tw3685676867666059963 tw10308026320412571762 tw13780586440813410080 tw8218412328266957137 tw904528316075388213 tw222257730696388073 tw14567830934858545550 tw4211839902639110301 tw15744216201882481393 tw9640238597774443147 tw6057569862524852403 tw309810779182596276 tw2980584636906390090 tw6631635221000765707 tw8670164688833099579 tw15617495263315912142 tw6659908635227991472 tw2488114787943372485 tw12082581025436153514 tw17565508161637271406 tw16697796926663246385 tw162823765192623122 tw1398212215137996191 tw13977126936845523766 tw16136659415041406305 tw10864446373754943023 tw5043235148247017100 tw12507789006045890613 tw10153897907273594313 tw5912885738332983482 tw7947931315972089 tw6960584583417439446 tw5740672755926271181 tw6654300770842022864 tw2300096035406765799 tw15552374036038300524 tw1866363280934600280 tw7831457091266199196 tw7517071193144931180 tw9178196226117075468 tw13082034535926508334 tw12446081279769262794 tw10746322585671359972 tw823462816788707846 tw4278317857653642090 tw11214173875813123014 tw873200307922586118 tw14594902758279611795 tw2539917668893709792 tw2376490972643018727 tw17252742146923229252 tw6892068903269677292 tw8324497903985278483 tw17499735435503667953 tw7984175285421768630 tw16267392673428021318 tw8547416850536385802 tw11338279378830985867 tw6921075315689774180 tw7075754631203185072 tw6607833248186427717 tw2241869317098759000 tw8258915672385079400 tw6921574838328208004 tw6206604455728097441 tw5744105349186233170 tw5044022753805652720 tw1464203511502715951 tw14355786746484322931 tw12200246264060038136 tw11961995116814953382 tw9938315275427689437 tw9774087583767532491 tw9428618772554604621 tw890183446714184209 tw8727944375210677346 tw8379199115471509357 tw5989185516494252553 tw15126825005839918887 tw14458416681601733935 tw14403116028158502473 tw17806004010845992124 tw3946143388131912471 tw17564048467774827619 tw7517080757040404527 tw9369424065703144288 tw7076898418501007678 tw3752004348110210479 tw2719759251769609361 tw15628658816716521698 tw10247252142441856261 tw8069063968714595260 tw6199207434434871451:True)
open PySem PySem.W PyProof.Rows
set_option maxRecDepth 100000 in
set_option maxHeartbeats 0 in
theorem PySem.Challenge.cw_slanttiles_k21_what_makes_a_job_holds : PySem.Challenge.rw_slanttiles_k21_what_makes_a_job.Holds := by
  w_on; o_law; k_head; (case hw => w_witness2)
  k_fill
  refine Q.aVw (l := PySem.Challenge.rw_slanttiles_k21_what_makes_a_job) rfl rfl (fun w h Y => PySem.W.kIn_of Y) ?F
  case F =>
    intro w mg fa h KY G hmg
    apply Q.aTc KY G hmg
    case aCnum | aCtake | aCrest | aCcho | aCb0 | aCb1 | aCb2 | aCb3 | aCb4 | aCG | aCJ | e0 | e1 | e2 | e3 | e4 | e5 | e6 | e7 | e8 | e9 | e10 | e11 | e12 | e13 | e14 | e15 | e16 | e17 | e18 | e19 | e20 | e21 | e22 | e23 | e24 | e25 | e26 | e27 | e28 | e29 | e30 | e31 | e32 | e33 | e34 | e35 | e36 | z0 | z1 | z2 | z3 | z4 | z5 | z6 | z7 | z8 | z9 | z10 | z11 | z12 | z13 | z14 | z15 | z16 | z17 | z18 | q0 | q1 | q2 | q3 | q4 | q5 | q6 | q7 | q8 | q9 | q10 | q11 | q12 | q13 | q14 | aXN | aXT | aXE | aXG | aXX | zVE | zrp => change _ = _; k_is
    case F41 | F42 | F43 | F44 | F45 | F46 | F47 | F48 | F49 | F50 | F51 | F52 | F53 | F54 | F55 | F56 | F57 | F58 | F59 | F60 | F61 | F62 => exact ⟨⟨by k_is, by k_is, by k_is⟩, L2.aG2 (by k_is) (by k_is) (by k_is)⟩
    case kCnum => exact ⟨⟨by k_is, by k_is, by k_is, by k_is⟩, Q.naS (by k_is) Q.na0, by k_is, by k_is⟩
    case kCtake | kCrest | kCb0 | kCb1 | kCb2 | kCb3 | kCb4 | kCG => exact ⟨⟨by k_is, by k_is, by k_is, by k_is⟩, Q.naS (by k_is) (Q.naS (by k_is) Q.na0), by k_is, by k_is⟩
    case kCcho => exact ⟨⟨by k_is, by k_is, by k_is, by k_is⟩, Q.naS (by k_is) (Q.naS (by k_is) (Q.naS (by k_is) Q.na0)), by k_is, by k_is⟩
    case kCJ => exact ⟨⟨by k_is, by k_is, by k_is, by k_is⟩, Q.naS (by k_is) (Q.naS (by k_is) (Q.naS (by k_is) (Q.naS (by k_is) (Q.naS (by k_is) (Q.naS (by k_is) Q.na0))))), by k_is, by k_is⟩
    case nd => decide
    case rN | rT => exact ⟨by kernel_rfl, by k_is, by k_is, by k_is⟩
    case xcN | xcT => exact ⟨by k_is, by kernel_rfl, by k_is, by kts_isx⟩
    case tkN | hdN | fdN | tkT | hdT | fdT => k_is
    case askN | askT => exact ⟨by kernel_rfl, by k_is, by k_is, by k_is, by k_is⟩
    case exN | exT => kts_exm
    case anN | isN | ioN | anT | isT | ioT => kit_is
    case Ft => exact L2.aG2 (by k_is) (by k_is) (by k_is)
    case F10 | F11 | F12 | F13 | F14 | F15 | F16 | F17 | F18 | F19 | F20 | F21 | F22 | F23 | F24 | F25 | F26 | F27 | F28 | F29 | F30 | F31 | F32 | F33 | F34 | F35 | F36 | F37 | F38 | F39 | F40 => exact ⟨by change _ = _; k_is, L2.aG2 (by k_is) (by k_is) (by k_is)⟩


