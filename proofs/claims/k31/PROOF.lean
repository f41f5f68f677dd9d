import PyProof.Rows.All
import Wide.All
import OpenK.AllK
import Wide.FinOn
import Lean
import PyProof.EqAt
import PyProof.EqKinds
import PyProof.TupleCall
import PyProof.NeKinds
import PyProof.EnumStmt
import PyProof.EnumMake
import PyProof.EnumFor
import PyProof.ListMulRoad
import PyProof.CompFree
import PyProof.CompMap
import PyProof.Rows.SortWalk
import PyProof.Rows.MinMaxN
import PyProof.Rows.SeqMore2
import PyProof.Rows.SetFrom
import KE.KDictList
import PyProof.SumWalk
import PyProof.WalksMore
import PyProof.TupleIter
import PyProof.ListRange
import KE.KDictSum
import PyProof.AutoListH
import PyProof.FactsAll.list_3
import PyProof.MinMaxWalk
import PyProof.WalkInts
import KE.KMinBuiltin
import PyProof.Rows.CallKwBuiltin
import PyProof.ZipIter
import KE.KItemsList
import PyProof.DictWalks
import PyProof.FactsAll.dict_4
import PyProof.ConsumeWalk
import KE.KRevSl
import KE.KDictOf
import PyProof.Cells
import OpenK.KLine
import KE.KIsAll
import PyProof.AttrMissHeap
import PyProof.DictUpdate
import PyProof.FactsAll.dict_3
import PyProof.SliceStr2
import PyProof.StrLaws
import PyProof.StrLawsIn
import PyProof.StrCalls
import PyProof.StrCalls2
import PyProof.FString
import PyProof.Draws
import PyProof.StrWalks
import PyProof.StrLoop
import KE.KIntText
import KE.IntTextLaws
import PyProof.SetKind
import PyProof.DictFindH
import PyProof.IsRules
import PyProof.TupleKey
import PyProof.CollectIter
import PyProof.FactsAll.set
import PyProof.DictIter
import KE.KSortTup
import PyProof.PureInt
import PyProof.EqAt
import PyProof.FactsAll.list
import PyProof.FactsAll.tuple
import PyProof.Rows.SortShell
import PyProof.Rows.IntRules
import PyProof.Walks
import PyProof.StationsW
import PyProof.InstStoreFacts
import PyProof.StrBlock2
import PyProof.Rows.CountFlat
import PyProof.DictRoadsH
import PySem.Challenge.RW_slanttiles_k31_what_a_spot_leans_on
open PySem renaming wpAny_bind->Aa,wpAny_pure->Ad,wpAny_holding->Ca,wpAny_truthy_bool->Cj,wpAny_mono->Cq,sizeLine_eq->Cr,wpAny_newObj_type->Cv,mem_of_lookup->Cz,codeAny_builtin->Da,wpAny_call_entry->De,wpAny_setState_of->Dv,wpAny_forIn_list->Dz,plainId_quiet->Ed,boot_len->Ee,wpAny_specialOf->Et,wpAny_typeNameOfWhole_keyiter->Ex,wpAny_isInstance->Ey,wpAny_seqItems->Fb,wpAny_passesOwn->Fm,wpAny_typeNameOf_keyiter->Gg,wpAny_tupleItemsOf->Gk,wpAny_Call_Name_kw->Gm,isSubtype_tuple_tuple->Ha,codeAny_mono->Hb,wpAny_askSetting->Hi,wpAny_updateSeq->Hs,wpAny_setField->Ie,wpAny_pyIter_list->Io,wpAny_comprehension_free->Ip,wpAny_standAt->Iy,wpAny_callSpecial?_slot->Iz,wpAny_execs_nil->Jo,putSet_of->Jp,wpAny_rule->Ju,wpAny_newList->Ku,wpAny_storeSet_of->Lh,wpAny_pyIter_slot->Li,wpAny_dictEntries->Lj,intKind_is->Ll,boot_len->Lq,wpAny_typeOf->Ly,wpAny_eqBool_int->Mi,noFill_tuple_add->Mj,wpAny_richCompare_same_room->Na,wpAny_of_eq->Nb,wpAny_letGo->Nd,wpAny_dictEpoch->Nf,Within->Ni,wpAny_tryCatch->Nu,wpAny_runValue->Nv,wpAny_fieldsOf->Nx,isSubtype_type->Oa,wpAny_load->Oq,wpAny_call->Os,wpAny_attempt->Ow,seq_tuple_add->Oy,nums_intItems->Oz,numAt_eq->Pa,call->Pc,wpAny_Assign_Subscript->Pk,codeAny_compStart_list->Pn,wpAny_isTrue_Compare1->Pw,wpAny_isOneOf_keyiter->Px,seqIndex_neg->Py,concat_meets->Qb,builtinLookup_eq_fast->Qc,wpAny_newFunctionEnv->Qn,codeAny_call_builtin->Qo,wpAny_setEntries_of->Qr,seqIndex_of->Qs,intItems_at->Qv,wpAny_setItem_heap->Ri,tupleKind_room_in1->Rj,wpAny_pyIter_enum->Rw,wpAny_assign_Name->Rx,wpAny_Name->Ry,typeIs_str->Rz,eqIsQuiet_byValue->Sa,call_meets->Sb,wpAny_execs_cons->Td,typeLookup_type->Uu,codeAny_of_tree->Uv
open List renaming length_map->Ab,mem_cons_of_mem->Ae,mem_cons_self->Af,length_cons->Ag,length_append->Ah,size_toArray->Ak,getElem?_eq_getElem->Al,map_cons->Aw,getElem?_map->Ay,mem_append_right->Ba,map_append->Bc,length_nil->Bd,not_mem_nil->Be,drop_eq_getElem_cons->Bh,mem_cons->Bi,append_assoc->Bj,map_map->Bl,lookup_cons->Bn,append_nil->Bo,range->Bp,mem_of_getElem? ->Bt,length->Cd,length_take->Ce,length_set->Ck,getElem?_eq_none->Cm,getElem_mem->Cp,getElem?_append_right->Cu,length_range->Dd,getElem?_append_left->Dq,any_cons->Ds,map_nil->Du,getElem?_replicate->Dy,nil_append->Ec,length_replicate->Ej,find?_cons->En,lookup->Fc,length_singleton->Fd,foldl_cons->Fe,sum_cons->Fg,pairwise_map->Fh,mem_append_left->Fl,getElem_of_mem->Fs,filterMap_cons->Ft,zip_cons_cons->Gb,mem_singleton->Gc,mem_append->Gd,eraseIdx_cons_succ->Ge,take_of_length_le->Gh,drop_of_length_le->Gi,drop_zero->Gn,take_append_drop->Gs,length_drop->Gv,drop_append_of_le_length->Gw,range_eq_range'->Gx,getElem?_append->Gy,sum_append->He,of_mem_zip->Hg,getD->Hh,reverse_cons->Hx,getElem?_cons_succ->Ic,take_length->Ig,range'_succ->Ih,nodup_range->Ii,getElem?_toArray->Iv,mem_of_mem_drop->Jg,take_succ->Ji,replicate->Jj,drop_drop->Jk,map_congr_left->Jl,getElem?_range->Jm,all_cons->Jw,getElem?_set->Jz,flatMap_cons->Ka,ext_getElem? ->Kb,getElem_inj->Kq,drop_length->Kr,zip_append->Lb,range'->Lc,length_zip->Ld,forIn_cons->Le,pairwise_iff_getElem->Me,nodup_nil->Mf,length_filterMap_le->Mq,getElem?_take_of_lt->Mr,filterMap_cons_some->Ms,pairwise_singleton->Mw,range_succ_eq_map->Nm,getElem?_set_self->Nn,mem_of_mem_take->Om,getElem?_set_ne->On,map_filterMap->Pf,getElem?_drop->Pg,take_sublist->Pt,perm_middle->Qf,flatMap_nil->Qg,any_eq_true->Qh,take_left->Qz,forIn_nil->Ra,elem_cons->Rc,drop_left->Re,take_nil->Rp,toArray->Sr,sum_nil->Ss,map_id->Uk,Nodup->Uz
open PySem.W renaming Frag->Ac,findIn->Dg,kia_one->Dh,emptyDict->Dm,nsIn->Dp,fnOf->Eg,instObj->Ek,mg_of->Ez,keepIn->Fj,plainGet->Hw,lookIn->Iu,plainGet_of->Ja,callWith_K->Jh,methodObj->Jr,hasDictIn->Js,takerIn->Kc,makesIn->Kd,kitOne->Kv,codeIn->Kw,cellsFrom_some->Mb,methodCall_KW->Mo,isFn->Mp,plainOver->Of,kitx_list->Og,kitx_dict->Oh,handedIn->Ov,KdlSrc->Pq
open PySem.Heap renaming get?_push_of_some->Ai,lt_size->Ao,get?_push_size->Ar,get?_update_self->Bz,SameBut->Cw,get?_update_other->Cy,size_push->Dj,ExtBut->Uo
open Bool renaming false_ne_true->Aj,false_eq_true->An,not_true->Bq,eq_iff_iff->Eo,and_eq_true->Fp,not_false->Gp,and_false->Gq,false_and->Hr,true_and->Mx,and_true->Rt,and_self->Ru
open Nat renaming le_refl->Am,ne_of_lt->Ax,zero_le->Bb,lt_of_lt_of_le->Bg,le_trans->Co,not_lt_zero->Dk,lt_succ_self->Dx,lt_irrefl->Ea,lt_succ_of_lt->Eb,le_of_lt->Es,eq_zero_or_pos->Ew,le_succ->Fu,lt_or_ge->Fy,ne_of_gt->Ho,lt_trichotomy->Ia,le_max_right->Il,le_add_right->Im,zero_add->Jc,le_max_left->Jd,lt_of_le_of_lt->Jx,succ_le_of_lt->Kf,mod_lt->Kg,toDigits->Kl,succ_pos->Km,sub_zero->Kn,lt_trans->Ko,succ_le_succ->Kx,strongRecOn->Ls,toDigits_of_lt_base->Nk,digitChar->Nl,lt_of_succ_lt_succ->Nq,le_of_succ_le_succ->Nr,sub_self->Oj,one_pos->Pe,min_eq_right->Qp,min_eq_left->Qy,succ_mul->Ue,succ_add->Ug,pow_succ->Uh,min_self->Ui,le_of_eq->Uj,log2_lt->Uy
open Array renaming length_toList->Ap,getElem?_eq_getElem->Az,getElem?_toList->Bk,forIn_toList->Ei,getD->Em,getElem?_eq_none->My,replicate->Qm,size_map->Qq,toList->Rv
open PySem.Str renaming ofString->As
open PySem.Value renaming ref->Au,none->Cg,int->Dc,isInt_shape->Do,bool->Fq,type->Ht,isInt->Hy,str->Jq,float->Oc,isStrOf->Qx,bytes->Se
open PySem.PassesOwn renaming never->Bf
open Option.some renaming inj->Bm
open PyProof.Rows.F renaming plain_set_update_loop->Br,entry_set_update_loop->Dt
open List.cons renaming inj->Bs
open PySem.Heap.SameBut renaming update->Bu,trans->Lv,refl->Um
open Or renaming inl->Bw,inr->Cb
open PySem.SetTable renaming below->By,sizeAbove->Df,insertAt->Ga,turns->Ir,tooFull->Od,fits->Po,fill->Pp
open PySem.Around renaming under_plainId->Cc,under->Mz
open PySem.Builtin.Str renaming strSliceIndices->Ci,occurrences->Kj,tooLong->Lx,glued->Ve
open Sum renaming inr->Ct,inl->Lo
open Ne renaming symm->Di
open PySem.Builtin.Tuple renaming tupleHashOf->Dl,tupleItemsOf->Sz
open PySem.NameKind renaming free->Dn,cell->Gr
open PySem.Obj renaming mapSeq->Dw,data_mapFields->Eu,putSet->Fx,isFreed_of_fields->Jb,cls_mapFields->Ke,mapFields->Nj
open PySem.SetTable.layClean renaming free->Ef
open True renaming intro->Eh
open False renaming elim->El
open PySem.F renaming plainAttrs_list->Ep,slot_dict_keyiterator_next->Ff,plain_max_loop->Fz,type_list_append->Hk,slot_list_append->Hl,args_tuple_add_2->Hm,entry_tuple_add->Hv,slot_tuple_add->Hz,args_dict_keyiterator_next_1->Lf,plain_list_iadd->Lr,entry_dict_keyiterator_next->Lw,plainAttrs_str->Mc,slot_tuple_hash->Rg,plain_list_iadd->Rh,slot_dict_iter->Rq,entry_max_loop->Rr,slot_tuple_eq->Sv,slot_set_iter->Sw,plain_set_new->Sx
open PyProof.Rows renaming callWith_type1->Er,boot_list->Iq,lt_int->La,boot_tuple->Lm,boot_str->Mu,sortedHeap_old->Ny,signs_ofString->Nz,args_list_sort->Ob,Subscript_->Ot,sortedHeap_at->Ox,listUpdate_at->Pb,Constant_none->Pi,subscriptTail_builtinR->Pl,plain_sorted->Pz,entry_sorted->Qa,args_sorted1->Qd,seqEpoch_at->Qt,kind_sorted->Qu,boot_sorted->Qw,boot_int->Rk,callWith_kw->Uc,callWith_builtin1->Ud,boot_isinstance->Uw
open List.Perm renaming refl->Gf,swap->Kh
open PySem.Builtin.List renaming listExtendWith->Gj,listTooLong->Gz,listSameRef->Jy,listTouch->Ur,listLengthHint->Us
open Int renaming le_trans->Gu,emod_lt_of_pos->Hq,toNat_natCast->Ib,eq_ofNat_of_zero_le->Ij,natCast_add->Je,emod_nonneg->Jf,mul_nonneg->Jn,emod_eq_of_lt->Ki,mul_le_mul_of_nonneg_right->Ks,mul_le_mul_of_nonneg_left->Ky,le_refl->Lu,fdiv_eq_ediv_of_nonneg->Mg,add_mul_emod_self_left->Mh,add_mul->Ph,ofNat->Rf,zero_add->Ul,negSucc->Vb,mul_one->Vc
open Nat.succ renaming inj->Hc
open Classical renaming byContradiction->Hd
open PySem.SetTable.probe renaming go->Hj
open PySem.Calls renaming call_function_entry->Hn,Name_function_global->Lg
open PySem.SeqAt renaming EqAt->Hu,notIn_tupleAt->Oe,notIn_listAt->Ou,RcNeAt->Rn,RcAt->Th
open PySem.Builtin.Dict_items renaming ownsTuple->Ik
open PySem.Builtin.Builtins renaming bindParams->Iw
open PySem.NumText renaming digitsVal->Jt,AllDigits->Oi
open PySem.SeqAt.EqAt renaming same->Jv,str_int->Ml,of_refs->Mm,int_str->Mn
open PySem.SetTable.below renaming go->Kk
open PySem.Builtin.Dict renaming showsAll->Kt,dictSlotNone->Ut
open PySem.Heap.IsSliceOf renaming new->Kz
open PySem.pickOrder renaming go->Lk
open PySem.Walks renaming list->Lz
open PySem.Shared renaming TypeIs->Ma
open PySem.Paired renaming length->Md,snoc->Ro
open PySem.SeqAt.RcAt renaming tuples->Mv,lists->Nh
open Sum.inr renaming inj->Ng
open Iff renaming rfl->Np
open PySem.Code renaming isFrame->Nt,frames->Uq
open PySem.Moved renaming trans->Ol
open ForInStep renaming yield->Oo
open Prod renaming ext->Pd
open Option renaming map_some->Pr
open Except renaming ok->Pu
open PySem.W.KIN renaming signs_num->Qe
open PySem.Builtin.Frozenset renaming updateFrom->Qi,slot0->Qj,sizeOf->Qk,newClass->Ql
open PySem.Txt renaming startswith->Rm
open PySem.W.WShape renaming has->Sd
open PySem.W.Looks renaming here->Sf
open PySem.StrLaws renaming seqIndex_nonneg->Sg
open PySem.EqMixed renaming ne_str_int->Sh,ne_str_bool->Si,ne_int_str->Sj,ne_bool_str->Sk,eq_str_int->Sm,eq_str_bool->Sn,eq_int_str->So,eq_bool_str->Sq
open List.Pairwise renaming nil->Su
open PySem.CmpOp renaming NotIn->Sy
open PySem.Builtin.Range renaming rangeSize->Tc
open PySem.SeqAt.RcNeAt renaming tuples->Te,lists->Tf
open PySem.Within renaming cons->Ti
open PySem.EqNone renaming ne_str_none->Tj,ne_none_str->Tn,ne_none_none->To,ne_none_int->Tp,ne_none_bool->Tq,ne_int_none->Ts,ne_bool_none->Tt,eq_str_none->Tu,eq_none_str->Tv,eq_none_none->Tw,eq_none_int->Tx,eq_none_bool->Tz,eq_int_none->Ua,eq_bool_none->Ub
open PySem.Data renaming fields->Up
open PySem.W.WData renaming int->Ux
open PyProof.Rows.IsTup renaming new->Va
open PySem.Heap.DictOf renaming new->Vd
set_option Elab.async false
set_option linter.all false
set_option maxRecDepth 100000
namespace L2
open PySem PySem.Spec PyProof.Rows
abbrev Key:=Sum Int Str
def aBd:Key->Value->Bool
 | .inl k,v=>Hy k v
 | .inr x,v=>Qx x v
def aYe (w:World):Key->Int
 | .inl k=>hashInt k
 | .inr x=>hashStr w x
theorem dH:∀{k:Key} {v:Value},aBd k v=true->(∃i t,k=Lo i/\v=Dc i t)∨(∃x t,k=Ct x/\v=Jq x t)
 | .inl i,v,h=>by
  obtain⟨t,e⟩:=Do (k:=i) (v:=v) h;exact .inl ⟨i,t,rfl,e⟩
 | .inr x,v,h=>by
  obtain⟨t,e⟩:=Value.isStrOf_shape (x:=x) (v:=v) h;exact .inr ⟨x,t,rfl,e⟩
theorem aI9 (i:Int) (t:Tok):aBd (.inl i) (.int i t)=true:=by simp [aBd,Hy]
theorem aI8 (x:Str) (t:Tok):aBd (.inr x) (.str x t)=true:=by simp [aBd,Qx]
theorem aU2 (a b:Int):decide ((Lo a:Key)=Lo b)=(a==b):=by
 by_cases e:a=b
 ·subst e;simp
 ·have h:¬(Lo a:Key)=Lo b:=λq=>e (Sum.inl.inj q);rw [decide_eq_false h];exact(beq_eq_false_iff_ne.mpr e).symm
theorem aTo (a b:Str):decide ((Ct a:Key)=Ct b)=decide (a=b):=by
 by_cases e:a=b
 ·subst e;simp
 ·have h:¬(Ct a:Key)=Ct b:=λq=>e (Ng q);rw [decide_eq_false h,decide_eq_false e]
theorem aS6 (a:Int) (b:Str):decide ((Lo a:Key)=Ct b)=false:=decide_eq_false (λq=>nomatch q)
theorem aVb (a:Str) (b:Int):decide ((Ct a:Key)=Lo b)=false:=decide_eq_false (λq=>nomatch q)
def dW (prog:Program) (w:World):PySem.KeyKind prog w Key where
 is:=aBd
 hash:=aYe w
 inj:=λv a b ha hb=>by
  rcases dH ha with ⟨i,t,rfl,rfl⟩|⟨x,t,rfl,rfl⟩
  ·rcases dH hb with ⟨j,u,rfl,e⟩|⟨y,u,rfl,e⟩
   ·injection e with e1 _;rw [e1]
   ·exact nomatch e
  ·rcases dH hb with ⟨j,u,rfl,e⟩|⟨y,u,rfl,e⟩
   ·exact nomatch e
   ·injection e with e1 _;rw [e1]
 byValue:=λk v h=>by
  rcases dH h with ⟨i,t,rfl,rfl⟩|⟨x,t,rfl,rfl⟩<;>rfl
 pyHash:=λhv h=>by
  rcases dH hv with ⟨i,t,rfl,rfl⟩|⟨x,t,rfl,rfl⟩
  ·exact wpAny_pyHash_int h
  ·exact wpAny_pyHash_str h
 eqBool:=λhu hv h=>by
  rcases dH hu with ⟨i,t,rfl,rfl⟩|⟨x,t,rfl,rfl⟩
  ·rcases dH hv with ⟨j,u,rfl,rfl⟩|⟨y,u,rfl,rfl⟩
   ·rw [aU2]at h;exact Mi h
   ·rw [aS6]at h;exact Mn i t y u _ _ _ _ h
  ·rcases dH hv with ⟨j,u,rfl,rfl⟩|⟨y,u,rfl,rfl⟩
   ·rw [aVb]at h;exact Ml x t j u _ _ _ _ h
   ·rw [aTo]at h;exact wpAny_eqBool_str h
 «strs»:=λk x t v h=>by
  rcases dH h with ⟨i,u,rfl,e⟩|⟨y,u,rfl,e⟩
  ·exact nomatch e
  ·injection e with e1 _
   subst e1;cases v<;>rfl
theorem aEf (prog:Program) (w:World) (i:Int) (t:Tok):(dW prog w).is (.inl i) (.int i t)=true:=aI9 i t
theorem aFl (prog:Program) (w:World) (x:Str) (t:Tok):(dW prog w).is (.inr x) (.str x t)=true:=aI8 x t
end L2
namespace L2
open PySem PySem.Spec PyProof.Rows
inductive V where
 |non|bl (b:Bool)|int (i:Int)|str (x:Str)|byt (b:Array UInt8)|flt (b:UInt64)|ref (a:Addr)|ty (n:String)
 deriving DecidableEq
def RelV:V->Value->Prop
 | .non,u=>u=Cg
 | .bl b,u=>u=Fq b
 | .int i,u=>∃t,u=Dc i t
 | .str x,u=>∃t,u=Jq x t
 | .byt b,u=>∃t,u=Se b t
 | .flt b,u=>∃t,u=Oc b t
 | .ref a,u=>u=Au a
 | .ty n,u=>u=Ht n
abbrev Vals:List V->List Value->Prop:=Paired RelV
theorem Vals.length {xs:List V} {us:List Value} (r:Vals xs us):xs.length=us.length:=Md r
theorem Vals.get:∀{xs:List V} {us:List Value} {i:Nat} {x:V},Vals xs us->xs[i]? =some x->∃u,us[i]? =some u/\RelV x u
 |_,_,_,_,.nil,e=>by simp at e
 |_,_,0,_,.cons r _,e=>by simp at e;subst e;exact⟨_,rfl,r⟩
 |_,_,i+1,x,.cons _ t,e=>by
  obtain⟨u,h1,h2⟩:=Vals.get (i:=i) (x:=x) t (by simpa using e);exact⟨u,by simpa using h1,h2⟩
theorem Vals.set {x:V} {u:Value} (r:RelV x u):∀{xs:List V} {us:List Value} (i:Nat),Vals xs us->Vals (xs.set i x) (us.set i u)
 |_,_,_,.nil=> .nil
 |_,_,0,.cons _ t=> .cons r t
 |_,_,i+1,.cons q t=> .cons q (Vals.set r i t)
theorem Vals.append:∀{xs ys:List V} {us ws:List Value},Vals xs us->Vals ys ws->Vals (xs++ys) (us++ws)
 |_,_,_,_,.nil,s=>s
 |_,_,_,_,.cons r t,s=> .cons r (Vals.append t s)
def rW:Option V->Option Value->Prop
 |some v,some u=>RelV v u
 |none,none=>True
 |_,_=>False
def KV {κ:Type}:List (κ×V)->List (κ×Value)->Prop:=Paired λ(p:κ×V) (q:κ×Value)=>p.1=q.1/\RelV p.2 q.2
def kV:Key->V
 | .inl i=> .int i
 | .inr x=> .str x
inductive HO where
 |lst (xs:List V)
 |tup (xs:List V)
 |dK (kvs:List (Key×V))|dT (kvs:List (List Key×V))
 |set (S:Int->Bool) (n:Nat)
 |ins (C dx:Addr) (fs:List (Str×V))
 |own (x:Addr)
 |xd (fs:List (Str×V))
 |met (f x:Addr)
 |rng (lo hi:Int)
 |frz (o:Obj) (u:HO)
 |tbl (ps:Array Value)
 |ext (φ:Heap->Prop)
abbrev Hp:=Addr->Option HO
def upd (H:Hp) (a:Addr) (o:HO):Hp:=λb=>if b=a then some o else H b
theorem aK {H:Hp} {a:Addr} {o:HO}:upd H a o a=some o:=by unfold upd;rw [if_pos rfl]
theorem aP {H:Hp} {a b:Addr} {o:HO} (h:b≠a):upd H a o b=H b:=by unfold upd;rw [if_neg h]
theorem aWt {H:Hp} {a b:Addr} {o u:HO} (h:H a=some o) (h':H b=some u) (d:o≠u):a≠b:=by
 intro e;subst e;rw [h]at h';exact d (Bm h')
theorem aQ {H:Hp} {a b:Addr} {o:HO} (h:H a=some o) (h':H b=none):a≠b:=by
 intro e;subst e;rw [h]at h';cases h'
section
variable (P:Program) (w:World)
def cT (H:Hp) (h:Heap) (a:Addr):HO->Prop
 | .lst xs=>xs.length<=sizeLine/\∃(its:List Value) (n:Nat),Vals xs its/\h.get? a=some {cls:= .type "list",data:= .seq its.toArray n}
 | .tup xs=>xs.length<=sizeLine/\∃its:List Value,Vals xs its/\IsTup h a its.toArray
 | .dK kvs=>kvs.length<=sizeLine/\(a==sysModules)=false/\∃vs,KV kvs vs/\h.DictOf (dW P w) a vs
 | .dT kvs=>kvs.length<=sizeLine/\(a==sysModules)=false/\∃xs:List (List Key×Addr×Value),
   Paired (λ(p:List Key×V) (q:List Key×Addr×Value)=>p.1=q.1/\H q.2.1=some (.tup (p.1.map kV))/\RelV p.2 q.2.2) kvs xs/\
   ∃o es ep,h.get? a=some o/\o.ExactDict/\o.data= .dict es ep/\es.toList=xs.map (entryOfKey (tupleKind (dW P w)))/\(xs.map (·.1)).Nodup
 | .set S n=>h.SetOf (intKind P w) a S n
 | .ins C dx fs=>H dx=some (.own a)/\fs.length<=1000/\dx≠a/\h.get? a=some (Ek C dx)/\
   ∃mA,h.Ns1 dx mA/\(∀f,rW (fs.lookup f) (mA f))/\Ni mA (fs.map (·.1))
 | .own _=>∃o,h.get? a=some o
 | .xd fs=>∃mA,h.Ns1 a mA/\∀f,rW (fs.lookup f) (mA f)
 | .rng lo hi=>∃t u v,h.get? a=some {cls:= .type "range",data:= .fields #[.int lo t,.int hi u,.int 1 v]}
 | .frz o u=>h.get? a=some o/\cT H h a u
 | .tbl ps=>h.get? a=some {cls:= .none,data:= .fields ps}
 | .met f x=>h.get? a=some (Jr (.ref f) (.ref x))
 | .ext φ=>φ h/\(∃o,h.get? a=some o)/\∀h1 h2:Heap,φ h1->(∀o,h1.get? a=some o->h2.get? a=some o)->φ h2
def HOk (H:Hp) (h:Heap):Prop:=∀a o,H a=some o->cT P w H h a o
end
section
variable {P:Program} {w:World} {H H':Hp} {h h':Heap} {a:Addr} {o:HO}
theorem cT.lt (x:cT P w H h a o):a<h.objs.size:=by
 cases o with
 |lst xs=>obtain⟨_,_,_,_,e⟩:=x;exact Ao e
 |tup xs=>obtain⟨_,_,_,p⟩:=x;exact p.lt
 |dK kvs=>obtain⟨_,_,_,_,o,_,_,e,_⟩:=x;exact Ao e
 |dT kvs=>obtain⟨_,_,_,_,o,_,_,e,_⟩:=x;exact Ao e
 |set S n=>obtain⟨o,_,_,_,e,_⟩:=x;exact Ao e
 |ins C dx fs=>obtain⟨_,_,_,e,_⟩:=x;exact Ao e
 |own y=>obtain⟨_,e⟩:=x;exact Ao e
 |xd fs=>obtain⟨_,⟨_,_,_,e,_⟩,_⟩:=x;exact Ao e
 |rng lo hi=>obtain⟨_,_,_,e⟩:=x;exact Ao e
 |frz ob u=>obtain⟨e,_⟩:=x;exact Ao e
 |tbl ps=>exact Ao (show h.get? a=some _ from x)
 |met f y=>exact Ao (show h.get? a=some _ from x)
 |ext φ=>obtain⟨_,⟨_,e⟩,_⟩:=x;exact Ao e
theorem Paired.mapP {α β:Type} {F G:α->β->Prop}:∀{l₁:List α} {l₂:List β},Paired F l₁ l₂->(∀a b,F a b->G a b)->Paired G l₁ l₂
 |_,_,.nil,_=> .nil
 |_,_,.cons r t,f=> .cons (f _ _ r) (Paired.mapP t f)
theorem cT.stay (x:cT P w H h a o) (k:∀b u,(b=a∨H b=some (.own a))->h.get? b=some u->h'.get? b=some u)
  (ho:∀b,H b=some (.own a)->H' b=some (.own a)) (ht:∀b xs,H b=some (.tup xs)->H' b=some (.tup xs)):cT P w H' h' a o:=by
 induction o with
 |lst xs=>obtain⟨z,its,n,r,e⟩:=x;exact⟨z,its,n,r,k _ _ (.inl rfl) e⟩
 |tup xs=>obtain⟨z,its,r,ob,e,c⟩:=x;exact⟨z,its,r,ob,k _ _ (.inl rfl) e,c⟩
 |dK kvs=>obtain⟨z,y,vs,r,ob,es,ep,e,c⟩:=x;exact⟨z,y,vs,r,ob,es,ep,k _ _ (.inl rfl) e,c⟩
 |dT kvs=>
  obtain⟨z,y,xs,r,ob,es,ep,e,c⟩:=x;exact⟨z,y,xs,Paired.mapP r λp q z=>⟨z.1,ht _ _ z.2.1,z.2.2⟩,ob,es,ep,k _ _ (.inl rfl) e,c⟩
 |set S n=>obtain⟨ob,es,ep,t,e,c⟩:=x;exact⟨ob,es,ep,t,k _ _ (.inl rfl) e,c⟩
 |ins C dx fs=>
  obtain⟨d,z,ne,e,mA,⟨od,es,ep,e2,c⟩,r⟩:=x;exact⟨ho _ d,z,ne,k _ _ (.inl rfl) e,mA,⟨od,es,ep,k _ _ (.inr d) e2,c⟩,r⟩
 |own y=>obtain⟨ob,e⟩:=x;exact⟨ob,k _ _ (.inl rfl) e⟩
 |xd fs=>obtain⟨mA,⟨od,es,ep,e,c⟩,r⟩:=x;exact⟨mA,⟨od,es,ep,k _ _ (.inl rfl) e,c⟩,r⟩
 |rng lo hi=>obtain⟨t,u,v,e⟩:=x;exact⟨t,u,v,k _ _ (.inl rfl) e⟩
 |frz ob u ih=>obtain⟨e,q⟩:=x;exact⟨k _ _ (.inl rfl) e,ih q⟩
 |tbl ps=>
  have e:h.get? a=some {cls:= .none,data:= .fields ps}:=x;show h'.get? a=some {cls:= .none,data:= .fields ps};exact k a _ (.inl rfl) e
 |met f y=>
  have e:h.get? a=some (Jr (.ref f) (.ref y)):=x;show h'.get? a=some (Jr (.ref f) (.ref y));exact k a _ (.inl rfl) e
 |ext φ=>obtain⟨p,⟨o,e⟩,st⟩:=x;exact⟨st _ _ p λo q=>k _ _ (.inl rfl) q,⟨o,k _ _ (.inl rfl) e⟩,st⟩
theorem HOk.lt (x:HOk P w H h) (e:H a=some o):a<h.objs.size:=(x a o e).lt
theorem HOk.fresh (x:HOk P w H h) (e:h.objs.size<=a):H a=none:=by
 cases q:H a with
 |none=>rfl
 |some u=>exact absurd (Bg (x.lt q) e) (Ea _)
theorem HOk.kept (x:HOk P w H h) (k:∀b u,h.get? b=some u->h'.get? b=some u):HOk P w H h':=λa o e=>
 (x a o e).stay (λb u _ q=>k b u q) (λ_ q=>q) λ_ _ q=>q
theorem HOk.laid (x:HOk P w H h) (k:∀b u,h.get? b=some u->h'.get? b=some u) (hp:h.objs.size<=a) (new:cT P w (upd H a o) h' a o):HOk P w (upd H a o) h':=λb u e=>by
 have hn:=x.fresh hp;by_cases hb:b=a
 ·subst hb;rw [aK]at e;cases e;exact new
 ·rw [aP hb]at e;exact(x b u e).stay (λc v _ q=>k c v q) (λc q=>by rw [aP (aQ q hn)];exact q) λc xs q=>by rw [aP (aQ q hn)];exact q
end
def Rd (H:Hp) (a:Addr) (u:HO):Prop:=H a=some u∨∃o,H a=some (.frz o u)
theorem Rd.ok {P:Program} {w:World} {H:Hp} {h:Heap} {a:Addr} {u:HO} (r:Rd H a u) (x:HOk P w H h):cT P w H h a u:=by
 rcases r with r|⟨o,r⟩
 ·exact x a u r
 ·obtain⟨_,q⟩:=x a _ r;exact q
def Mut:Option HO->Prop
 |some (.lst _)=>True
 |some (.dK _)=>True
 |some (.dT _)=>True
 |some (.set _ _)=>True
 |some (.ins _ _ _)=>True
 |some (.ext _)=>True
 |_=>False
section
variable {P:Program} {w:World} {H:Hp} {h h':Heap} {x e:Addr} {o':HO}
theorem HOk.write (ok:HOk P w H h) (mu:Mut (H x)) (he:e=x∨H e=some (.own x)) (k:∀b u,b≠e->h.get? b=some u->h'.get? b=some u) (heo:∃u,h'.get? e=some u)
  (new:cT P w (upd H x o') h' x o'):HOk P w (upd H x o') h':=λb u q=>by
 have nown:∀c y,H c=some (.own y)->c≠x:=λc y r z=>by subst z;rw [r]at mu;exact mu
 have ntup:∀c xs,H c=some (.tup xs)->c≠x:=λc xs r z=>by subst z;rw [r]at mu;exact mu
 by_cases hb:b=x
 ·subst hb;rw [aK]at q;cases q;exact new
 ·rw [aP hb]at q;by_cases hbe:b=e
  ·have q':H b=some (.own x):=by
    rcases he with z|z
    ·exact absurd (hbe.trans z) hb
    ·rw [hbe];exact z
   rw [q]at q';cases q';obtain⟨v,hv⟩:=heo;exact⟨v,by rw [hbe];exact hv⟩
  ·refine(ok b u q).stay (λc v hc r=>k c v ?_ r) (λc r=>by rw [aP (nown c b r)];exact r) λc xs r=>by rw [aP (ntup c xs r)];exact r
   rcases hc with rfl|hc
   ·exact hbe
   ·rintro rfl;rcases he with z|z
    ·exact nown c b hc z
    ·rw [hc]at z;cases z;exact hb rfl
end
structure Un (fs ex:List Addr) (H H':Hp) (h h':Heap):Prop where
 keep:∀b o,h.get? b=some o->H b=none->b∉fs->b∉ex->h'.get? b=some o
 slot:∀b o,h.get? b=some o->H b=none->b∈fs->b∉ex->∃sl,h'.get? b=some {o with slots:=sl}
 free:∀b o,h.get? b=some o->H b=none->b∉ex->H' b=none
 there:∀b o,h.get? b=some o->b∉ex->∃o',h'.get? b=some o'
 tups:∀b xs,H b=some (.tup xs)->H' b=some (.tup xs)
 frzs:∀b o u,H b=some (.frz o u)->H' b=some (.frz o u)
 tbls:∀b ps,H b=some (.tbl ps)->∃more,H' b=some (.tbl (ps++more))
section
variable {fs fs' ex ex':List Addr} {H H1 H2:Hp} {h h1 h2 h':Heap} {a x e:Addr} {o:HO}
theorem Un.any (u:Un fs ex H H1 h h1) {b:Addr} {ob:Obj} (q:h.get? b=some ob) (n:H b=none) (hx:b∉ex):∃sl,h1.get? b=some {ob with slots:=sl}:=by
 by_cases hb:b∈fs
 ·exact u.slot b ob q n hb hx
 ·exact⟨ob.slots,u.keep b ob q n hb hx⟩
theorem Un.kept (k:∀b u,h.get? b=some u->h'.get? b=some u):Un fs ex H H h h':=
 ⟨λb ob q _ _ _=>k b ob q,λb ob q _ _ _=>⟨ob.slots,k b ob q⟩,λ_ _ _ n _=>n,λb ob q _=>⟨ob,k b ob q⟩,λ_ _ q=>q,λ_ _ _ q=>q,λ_ ps q=>⟨#[],by rw [q];simp⟩⟩
theorem Un.refl:Un fs ex H H h h:=Un.kept λ_ _ q=>q
theorem Un.laid (k:∀b u,h.get? b=some u->h'.get? b=some u) (hp:h.objs.size<=a) (hn:H a=none):Un fs ex H (upd H a o) h h' where
 keep:=λb u q _ _ _=>k b u q
 slot:=λb u q _ _ _=>⟨u.slots,k b u q⟩
 free:=λb u q n _=>by rw [aP (Ax (Bg (Ao q) hp))];exact n
 there:=λb u q _=>⟨u,k b u q⟩
 tups:=λb xs q=>by rw [aP (aQ q hn)];exact q
 frzs:=λb u xs q=>by rw [aP (aQ q hn)];exact q
 tbls:=λb ps q=>⟨#[],by rw [aP (aQ q hn),q];simp⟩
theorem Un.write (mu:Mut (H x)) (he:e=x∨H e=some (.own x)) (k:∀b u,b≠e->h.get? b=some u->h'.get? b=some u) (heo:∃u,h'.get? e=some u):Un fs ex H (upd H x o) h h':=by
 have hx:∀b,H b=none->b≠x:=λb n z=>by subst z;rw [n]at mu;exact mu
 have hb:∀b,H b=none->b≠e:=λb n z=>by
  subst z;rcases he with r|r
  ·exact hx b n r
  ·rw [n]at r;cases r
 have hm:∀b u,H b=some u->¬Mut (some u)->b≠x:=λb u q nm z=>by subst z;rw [q]at mu;exact nm mu
 refine⟨λb u q n _ _=>k b u (hb b n) q,λb u q n _ _=>⟨u.slots,k b u (hb b n) q⟩,λb u q n _=>by rw [aP (hx b n)];exact n,λb u q _=>?_,
  λb xs q=>by rw [aP (hm b _ q λz=>z)];exact q,λb u xs q=>by rw [aP (hm b _ q λz=>z)];exact q,λb ps q=>⟨#[],by rw [aP (hm b _ q λz=>z),q];simp⟩⟩
 by_cases hbe:b=e
 ·subst hbe;exact heo
 ·exact⟨u,k b u hbe q⟩
end
def trk (h:Heap) (H:Hp):List Addr:=(Bp h.objs.size).filter λa=>(H a).isSome
def aDj (h:Heap) (H:Hp):Heap:=PySem.W.hideAll h (trk h H)
theorem aJ9 (h:Heap) (H:Hp):(aDj h H).objs.size=h.objs.size:=PySem.W.hideAll_size _ _
theorem aOx {h:Heap} {H:Hp} {b:Addr} {o:Obj} (e:h.get? b=some o) (n:H b=none):(aDj h H).get? b=some o:=
 PySem.W.hideAll_get _ e λhm=>by
  have q:(H b).isSome=true:=(List.mem_filter.mp hm).2;rw [n]at q;simp at q
theorem aPe {h:Heap} {H:Hp} {b:Addr} {o:Obj} (e:(aDj h H).get? b=some o):h.get? b=some o/\H b=none:=by
 have e':h.get? b=some o:=PySem.W.of_hideAll (trk h H) e;refine⟨e',?_⟩;cases q:H b with
 |none=>rfl
 |some x=>
  have hm:b∈trk h H:=List.mem_filter.mpr ⟨List.mem_range.mpr (Ao e'),by simp [q]⟩;have z:(aDj h H).get? b=none:=PySem.W.hideAll_none (trk h H) hm;rw [z]at e;cases e
end L2
namespace L2
open PySem PySem.Spec PyProof.Rows
structure Mod (K:Ac) (mg:Str->Option Value) (base:Heap):Prop where
 kin:K.In base
 glob:base.Ns mainGlobals mg
 blt:∃mb,base.Ns builtinsNs mb/\∀x:Str,x≠"__name__"->mb x=bootBuiltins x
 nolimit:base.NoLimit
structure Cx where
 prog:Program
 w:World
 K:Ac
 mg:Str->Option Value
 base:Heap
 A:Around
 N:List Str
 s₀:Shared
 H₀:Hp
 env:Env
 outer:List Env
 stack:List Env
 ex:List Addr
 fn:Str->Bool
 calm:Bool
 pn:List (Addr×Obj)
 xe:Value->Shared->Prop
def frs (l:List Env):List Addr:=l.filterMap (·.frame)
abbrev Cx.fs (X:Cx):List Addr:=frs X.outer
def Vis (sc:Scope) (x:Str):Prop:=sc.names.lookup x=some .local∨sc.names.lookup x=some .cell∨sc.names.lookup x=some .free
def Loc (sc:Scope) (x:Str):Prop:=sc.names.lookup x=some .local∨sc.names.lookup x=some .cell
def Look (env:Env) (h:Heap) (m:Str->Option Value) (x:Str) (u:Value):Prop:=
 (env.kindOf x=some .local/\m x=some u)∨((env.kindOf x=some .cell∨env.kindOf x=some .free)/\∃c,env.cells.lookup x=some c/\h.IsCell c (some u))
structure Cx.Ok (X:Cx):Prop where
 mod:Mod X.K X.mg X.base
 kind:X.env.scope.kind= .function
 glob:X.env.globals=mainGlobals
 blt:X.env.builtins=builtinsNs
 above:X.s₀.heap.objs.size<=X.env.locals
 inj:∀x y c,X.env.cells.lookup x=some c->X.env.cells.lookup y=some c->x=y
 has:∀x,(X.env.kindOf x=some .cell∨X.env.kindOf x=some .free)->∃c,X.env.cells.lookup x=some c
 cab:∀x c,X.fn x=true->X.env.cells.lookup x=some c->X.s₀.heap.objs.size<=c
 hd:X.calm=true->X.A.handled=none
 frames:X.A.frames=some X.stack
 stk:X.stack=X.outer∨(X.stack=X.env::X.outer/\X.env.frame=some X.env.locals)
 exf:∀b∈X.ex,b≠X.env.locals/\∀x c,X.env.cells.lookup x=some c->c≠b
 bs:∀b o,X.base.get? b=some o->X.s₀.heap.get? b=some o/\X.H₀ b=none
 bsz:X.base.objs.size<=X.s₀.heap.objs.size
 noex:∀b o,X.base.get? b=some o->b∉X.ex
 exfs:∀b∈X.ex,b∉X.fs
 funs:X.s₀.heap.FunFrames X.base X.outer
 frf:∀b∈X.fs,X.H₀ b=none
structure Inv (X:Cx) (pins:List (Addr×Obj)) (σ:List (Option V)) (H:Hp) (s:Shared):Prop where
 ok:X.Ok
 os:s.os=X.s₀.os
 bare:AllBare s.gens
 base:Un X.fs X.ex X.H₀ H X.s₀.heap s.heap
 loc:∃m,s.heap.Ns X.env.locals m/\∀(i:Nat) (x:Str) (v:V),X.N[i]? =some x->σ[i]? =some (some v)->Vis X.env.scope x->∃u,RelV v u/\Look X.env s.heap m x u
 cell:∀x c,X.env.cells.lookup x=some c->∃v,s.heap.IsCell c v
 free:H X.env.locals=none
 freeC:∀x c,X.env.cells.lookup x=some c->H c=none
 pin:∀p∈X.pn++pins,s.heap.get? p.1=some p.2/\H p.1=none/\p.1≠X.env.locals/\p.1∉X.fs/\∀v,p.2.data≠ .cell v
 hok:HOk X.prog X.w H s.heap
 len:σ.length=X.N.length
section
variable {X:Cx} {pins:List (Addr×Obj)} {σ:List (Option V)} {H H':Hp} {s:Shared} {h':Heap}
theorem Cx.Ok.nofr (ok:X.Ok) {b:Addr} {o:Obj} (e:X.base.get? b=some o):b∉X.fs:=λhb=>by
 have:=(ok.funs.mem hb).1;rw [e]at this;cases this
theorem Inv.bs (I:Inv X pins σ H s):∀b o,X.base.get? b=some o->s.heap.get? b=some o/\H b=none:=λb o e=>
 ⟨I.base.keep b o (I.ok.bs b o e).1 (I.ok.bs b o e).2 (I.ok.nofr e) (I.ok.noex b o e),I.base.free b o (I.ok.bs b o e).1 (I.ok.bs b o e).2 (I.ok.noex b o e)⟩
theorem Inv.bk (I:Inv X pins σ H s):∀b o,X.base.get? b=some o->s.heap.get? b=some o:=λb o e=>(I.bs b o e).1
theorem Inv.mod (I:Inv X pins σ H s):Mod X.K X.mg X.base:=I.ok.mod
theorem Inv.kIn (I:Inv X pins σ H s):X.K.In s.heap:=I.ok.mod.kin.keeps I.bk
theorem Inv.lt (I:Inv X pins σ H s):X.env.locals<s.heap.objs.size:=let⟨_,hn,_⟩:=I.loc;hn.lt
theorem Inv.sz (I:Inv X pins σ H s):X.s₀.heap.objs.size<=s.heap.objs.size:=Co I.ok.above (Es I.lt)
theorem Inv.nofs (I:Inv X pins σ H s) {a:Addr} (h:s.heap.objs.size<=a):a∉X.fs:=λhb=>by
 obtain⟨_,o,ho,_⟩:=I.ok.funs.mem hb;exact absurd (Bg (Ao ho) (Co I.sz h)) (Ea _)
theorem Inv.cne (I:Inv X pins σ H s):∀x c,X.env.cells.lookup x=some c->c≠X.env.locals:=λx c e z=>by
 obtain⟨v,o,ho,hd⟩:=I.cell x c e;obtain⟨m,⟨o',es,ep,ho',hd',_⟩,_⟩:=I.loc;rw [z,ho']at ho;cases ho;rw [hd']at hd;cases hd
theorem Inv.funs (I:Inv X pins σ H s):s.heap.FunFrames X.base X.outer:=by
 have all:∀(l:List Env),(∀b∈frs l,b∈X.fs)->X.s₀.heap.FunFrames X.base l->s.heap.FunFrames X.base l:=by
  intro l;induction l with
  |nil=>intro _ _;trivial
  |cons env r ih=>
   intro hs hl;obtain⟨hk,⟨L,o,hf,hn,ho,hd⟩,hr⟩:=hl;have hL:L∈X.fs:=hs L (by unfold frs;rw [Ft,hf];exact Af);obtain⟨sl,e⟩:=I.base.slot L o ho (I.ok.frf L hL) hL λz=>I.ok.exfs L z hL;exact⟨hk,⟨L,_,hf,hn,e,hd⟩,ih (λb hb=>hs b (by unfold frs;rw [Ft,hf];exact Ae _ hb)) hr⟩
 exact all X.outer (λ_ hb=>hb) I.ok.funs
theorem Inv.stack (I:Inv X pins σ H s):s.heap.FunFrames X.base X.stack:=by
 rcases I.ok.stk with e|⟨e,hf⟩
 ·rw [e];exact I.funs
 ·rw [e];obtain⟨m,hn,_⟩:=I.loc;refine .cons (by rw [I.ok.kind];decide) hf hn ?_ I.funs;exact Heap.get?_none_of_le (Co I.ok.bsz I.ok.above)
theorem Inv.stkSub (I:Inv X pins σ H s):∀b∈frs X.stack,b∈X.env.locals::X.fs:=λb hb=>by
 rcases I.ok.stk with e|⟨e,hf⟩
 ·rw [e]at hb;exact Ae _ hb
 ·rw [e]at hb;unfold frs at hb;rw [Ft,hf]at hb;exact hb
theorem Inv.stkFree (I:Inv X pins σ H s):∀b∈frs X.stack,H b=none:=λb hb=>by
 rcases List.mem_cons.mp (I.stkSub b hb)with e|hb
 ·rw [e];exact I.free
 ·obtain⟨_,o,ho,_⟩:=I.ok.funs.mem hb;exact I.base.free b o ho (I.ok.frf b hb) λz=>I.ok.exfs b z hb
theorem Inv.step {g':Array GenState} {t':Nat} {d':Drawn} {ch:List Addr} (I:Inv X pins σ H s)
  (hch:∀b∈ch,(b∈X.ex∨X.s₀.heap.objs.size<=b)/\b≠X.env.locals/\(∀x c,X.env.cells.lookup x=some c->c≠b)/\∀p∈X.pn++pins,p.1≠b)
  (keep:∀b o,b≠X.env.locals->b∉X.fs->b∉ch->s.heap.get? b=some o->H b=none->h'.get? b=some o)
  (slot:∀b o,b≠X.env.locals->b∈X.fs->b∉ch->s.heap.get? b=some o->H b=none->∃sl,h'.get? b=some {o with slots:=sl}) (free:∀b o,b∉ch->s.heap.get? b=some o->H b=none->H' b=none)
  (there:∀b o,b∉ch->s.heap.get? b=some o->∃o',h'.get? b=some o')
  (tups:∀b xs,H b=some (.tup xs)->H' b=some (.tup xs)) (frzs:∀b o u,H b=some (.frz o u)->H' b=some (.frz o u)) (tbls:∀b ps,H b=some (.tbl ps)->∃more,H' b=some (.tbl (ps++more)))
  (ns:∀m,s.heap.Ns X.env.locals m->h'.Ns X.env.locals m) (hok:HOk X.prog X.w H' h') (hg:AllBare g'):
  Inv X pins σ H' {s with heap:=h',gens:=g',drawn:=d',toks:=t'}:=by
 have neL:∀b o,X.s₀.heap.get? b=some o->b≠X.env.locals:=λb o e=>Ax (Bg (Ao e) I.ok.above);have neC:∀b o,X.s₀.heap.get? b=some o->b∉X.ex->b∉ch:=λb o e hx hb=>by
  rcases (hch b hb).1 with z|z
  ·exact hx z
  ·exact absurd (Bg (Ao e) z) (Ea _)
 have cellK:∀x c,X.env.cells.lookup x=some c->∀v,s.heap.IsCell c v->h'.IsCell c v:=λx c e v ⟨o,ho,hd⟩=>by
  have nch:c∉ch:=λz=>(hch c z).2.2.1 x c e rfl;by_cases hc:c∈X.fs
  ·obtain⟨sl,q⟩:=slot c o (I.cne x c e) hc nch ho (I.freeC x c e);exact⟨_,q,hd⟩
  ·exact⟨o,keep c o (I.cne x c e) hc nch ho (I.freeC x c e),hd⟩
 refine⟨I.ok,I.os,hg,⟨λb o e n hb hx=>?_,λb o e n hb hx=>?_,λb o e n hx=>?_,λb o e hx=>?_,λb xs e=>tups b xs (I.base.tups b xs e),λb o xs e=>frzs b o xs (I.base.frzs b o xs e),λb ps e=>?_⟩,?_,λx c e=>?_,?_,λx c e=>?_,λp hp=>?_,hok,I.len⟩
 ·exact keep b o (neL b o e) hb (neC b o e hx) (I.base.keep b o e n hb hx) (I.base.free b o e n hx)
 ·obtain⟨sl,e1⟩:=I.base.slot b o e n hb hx;obtain⟨sl',e2⟩:=slot b _ (neL b o e) hb (neC b o e hx) e1 (I.base.free b o e n hx);exact⟨sl',e2⟩
 ·obtain⟨o',e1⟩:=I.base.there b o e hx;exact free b o' (neC b o e hx) e1 (I.base.free b o e n hx)
 ·obtain⟨o',e1⟩:=I.base.there b o e hx;exact there b o' (neC b o e hx) e1
 ·obtain⟨m1,e1⟩:=I.base.tbls b ps e;obtain⟨m2,e2⟩:=tbls b _ e1;exact⟨m1++m2,by rw [e2,Array.append_assoc]⟩
 ·obtain⟨m,hn,hl⟩:=I.loc;refine⟨m,ns m hn,λi x v e1 e2 e3=>?_⟩;obtain⟨u,r,l⟩:=hl i x v e1 e2 e3;refine⟨u,r,?_⟩;rcases l with l|⟨k,c,e,z⟩
  ·exact .inl l
  ·exact .inr ⟨k,c,e,cellK x c e _ z⟩
 ·obtain⟨v,z⟩:=I.cell x c e;exact⟨v,cellK x c e v z⟩
 ·obtain⟨m,⟨o,_,_,ho,_⟩,_⟩:=I.loc;exact free _ o (λz=>(hch _ z).2.1 rfl) ho I.free
 ·obtain⟨v,o,ho,hd⟩:=I.cell x c e;exact free c o (λz=>(hch c z).2.2.1 x c e rfl) ho (I.freeC x c e)
 ·obtain⟨e,n,ne,nf,d⟩:=I.pin p hp;have nch:p.1∉ch:=λz=>(hch p.1 z).2.2.2 p hp rfl;exact⟨keep p.1 p.2 ne nf nch e n,free p.1 p.2 nch e n,ne,nf,d⟩
theorem Inv.un {t':Nat} (I:Inv X pins σ H s) (u:Un X.fs [] H H' s.heap h') (hok:HOk X.prog X.w H' h'):Inv X pins σ H' {s with heap:=h',toks:=t'}:=by
 obtain⟨m,⟨o,es,ep,ho,r⟩,_⟩:=id I.loc;obtain⟨sl,hL⟩:=u.any ho I.free (by simp);exact I.step (g':=s.gens) (d':=s.drawn) (ch:=[]) (λ_ z=>nomatch z) (λb o _ hb _ e n=>u.keep b o e n hb (by simp)) (λb o _ hb _ e n=>u.slot b o e n hb (by simp)) (λb o _ e n=>u.free b o e n (by simp)) (λb o _ e=>u.there b o e (by simp)) u.tups u.frzs u.tbls (λm' hm=>by
  obtain⟨o',es',ep',ho',r'⟩:=hm;rw [ho]at ho';cases ho';exact⟨_,es',ep',hL,r'⟩) hok I.bare
theorem Inv.call {g':Array GenState} {t':Nat} {d':Drawn} {ch:List Addr} (I:Inv X pins σ H s) (u:Un (frs X.stack) ch H H' s.heap h') (hok:HOk X.prog X.w H' h') (hg:AllBare g')
  (hch:∀b∈ch,(b∈X.ex∨X.s₀.heap.objs.size<=b)/\b≠X.env.locals/\(∀x c,X.env.cells.lookup x=some c->c≠b)/\∀p∈X.pn++pins,p.1≠b):
  Inv X pins σ H' {s with heap:=h',gens:=g',drawn:=d',toks:=t'}:=by
 obtain⟨m,⟨o,es,ep,ho,r⟩,_⟩:=id I.loc;obtain⟨sl,hL⟩:=u.any ho I.free λz=>(hch _ z).2.1 rfl;exact I.step (ch:=ch) hch (λb o hL hb hc e n=>u.keep b o e n (λz=>(List.mem_cons.mp (I.stkSub b z)).elim hL hb) hc) (λb o _ _ hc e n=>u.any e n hc) (λb o hc e n=>u.free b o e n hc) (λb o hc e=>u.there b o e hc) u.tups u.frzs u.tbls (λm' hm=>by
  obtain⟨o',es',ep',ho',r'⟩:=hm;rw [ho]at ho';cases ho';exact⟨_,es',ep',hL,r'⟩) hok hg
theorem Inv.turned {t':Nat} {it:Addr} (I:Inv X pins σ H s) (k:∀b o,b≠it->s.heap.get? b=some o->h'.get? b=some o) (hn:H it=none) (hL:it≠X.env.locals)
  (h1:it∈X.ex∨X.s₀.heap.objs.size<=it) (h2:∀x c,X.env.cells.lookup x=some c->c≠it) (h3:∀p∈X.pn++pins,p.1≠it):Inv X pins σ H {s with heap:=h',toks:=t'}:=by
 have nit:∀b u,H b=some u->b≠it:=λb u e z=>by rw [z,hn]at e;cases e
 refine I.step (g':=s.gens) (d':=s.drawn) (ch:=[it]) (λb hb=>?_) (λb o _ _ hc e _=>k b o (λz=>hc (by simp [z])) e) (λb o _ _ hc e _=>⟨o.slots,k b o (λz=>hc (by simp [z])) e⟩) (λ_ _ _ _ n=>n)
  (λb o hc e=>⟨o,k b o (λz=>hc (by simp [z])) e⟩) (λ_ _ e=>e) (λ_ _ _ e=>e) (λb ps e=>⟨#[],by rw [e];simp⟩) (λm hm=>?_) (λb u e=>?_) I.bare
 ·have e:b=it:=by simpa using hb
  subst e;exact⟨h1,hL,h2,h3⟩
 ·obtain⟨o,es,ep,ho,r⟩:=hm;exact⟨o,es,ep,k _ o (Di hL) ho,r⟩
 ·refine(I.hok b u e).stay (λc v hc q=>k c v ?_ q) (λ_ q=>q) λ_ _ q=>q;rcases hc with z|z
  ·rw [z];exact nit b u e
  ·exact nit c _ z
theorem Inv.tok (I:Inv X pins σ H s) (t:Nat):Inv X pins σ H {s with toks:=t}:=I.un (h':=s.heap) (t':=t) Un.refl I.hok
theorem Inv.kept {t':Nat} (I:Inv X pins σ H s) (k:∀b u,s.heap.get? b=some u->h'.get? b=some u):Inv X pins σ H {s with heap:=h',toks:=t'}:=I.un (Un.kept k) (I.hok.kept k)
theorem Inv.laid {a:Addr} {o:HO} {t':Nat} (I:Inv X pins σ H s) (k:∀b u,s.heap.get? b=some u->h'.get? b=some u) (hp:s.heap.objs.size<=a) (new:cT X.prog X.w (upd H a o) h' a o):
  Inv X pins σ (upd H a o) {s with heap:=h',toks:=t'}:=I.un (Un.laid k hp (I.hok.fresh hp)) (I.hok.laid k hp new)
theorem Inv.write {x e:Addr} {o:HO} {t':Nat} (I:Inv X pins σ H s) (mu:Mut (H x)) (he:e=x∨H e=some (.own x)) (k:∀b u,b≠e->s.heap.get? b=some u->h'.get? b=some u) (heo:∃u,h'.get? e=some u)
  (new:cT X.prog X.w (upd H x o) h' x o):Inv X pins σ (upd H x o) {s with heap:=h',toks:=t'}:=I.un (Un.write mu he k heo) (I.hok.write mu he k heo new)
theorem Inv.pins_of {pins':List (Addr×Obj)} (I:Inv X pins σ H s) (h:∀p∈pins',s.heap.get? p.1=some p.2/\H p.1=none/\p.1≠X.env.locals/\p.1∉X.fs/\∀v,p.2.data≠ .cell v):Inv X pins' σ H s:=
 ⟨I.ok,I.os,I.bare,I.base,I.loc,I.cell,I.free,I.freeC,λp hp=>(List.mem_append.mp hp).elim (λz=>I.pin p (Fl _ z)) (h p),I.hok,I.len⟩
theorem aFi {N:List Str} (hN:N.Nodup) {i j:Nat} {x:Str} (a:N[i]? =some x) (b:N[j]? =some x):i=j:=by
 obtain⟨h1,e1⟩:=List.getElem?_eq_some_iff.mp a;obtain⟨h2,e2⟩:=List.getElem?_eq_some_iff.mp b;exact(Kq hN).mp (e1.trans e2.symm)
theorem aBn {M:Model} {A:Around} {E:Value->Shared->Prop} {i:Nat} {x:Str} {v:V} {u:Value} {Q:Unit->Shared->Prop} (I:Inv X pins σ H s) (hN:X.N.Nodup) (hi:X.N[i]? =some x) (hx:Loc X.env.scope x) (r:RelV v u)
  (h:∀s',Inv X pins (σ.set i (some v)) H s'->(∃a,Cw a s.heap s'.heap/\(a=X.env.locals∨X.env.cells.lookup x=some a))->Q () s') (hf:X.fn x=true∨X.env.scope.names.lookup x=some .local:=by first|exact .inl rfl|exact .inr rfl|assumption):wpAny M A (storeName X.env x u) Q E s:=by
 obtain⟨m,hn,hl⟩:=id I.loc;have hcls:(X.env.scope.kind== .class || (X.env.scope.kind== .module && X.env.locals != X.env.globals))=false:=by rw [I.ok.kind];rfl
 have hiσ:i<σ.length:=by rw [I.len];exact(List.getElem?_eq_some_iff.mp hi).1
 have cne:=I.cne;have tracked:∀{a:Addr} {h':Heap},(∃o,s.heap.get? a=some o/\H a=none)->Cw a s.heap h'->HOk X.prog X.w H h':=λ{a h'} ha hs b ob e=>by
  obtain⟨_,_,hfree⟩:=ha;refine(I.hok b ob e).stay (λc w' hc q=>(hs.2 c ?_).trans q) (λ_ q=>q) λ_ _ q=>q;rintro rfl;rcases hc with rfl|hc
  ·rw [hfree]at e;cases e
  ·rw [hfree]at hc;cases hc
 rcases hx with hk|hk
 ·refine wpAny_storeName_local hk hn (λh' hn' hs=>?_) hcls;obtain⟨oL,_,_,hoL,_⟩:=id hn;refine h _ ⟨I.ok,I.os,I.bare,⟨λb o e n hb hx=>?_,λb o e n hb hx=>?_,I.base.free,λb o e hx=>?_,I.base.tups,I.base.frzs,I.base.tbls⟩,⟨_,hn',λj y v' e1 e2 e3=>?_⟩,λy c e=>?_,I.free,I.freeC,λp hp=>?_,tracked ⟨oL,hoL,I.free⟩ hs,by simpa using I.len⟩ ⟨_,hs,.inl rfl⟩
  ·exact(hs.2 b (Ax (Bg (Ao e) I.ok.above))).trans (I.base.keep b o e n hb hx)
  ·obtain⟨sl,e1⟩:=I.base.slot b o e n hb hx;exact⟨sl,(hs.2 b (Ax (Bg (Ao e) I.ok.above))).trans e1⟩
  ·obtain⟨o',e1⟩:=I.base.there b o e hx;exact⟨o',(hs.2 b (Ax (Bg (Ao e) I.ok.above))).trans e1⟩
  ·by_cases hj:j=i
   ·subst hj;rw [hi]at e1;cases e1;rw [Nn hiσ]at e2;cases e2;exact⟨u,r,.inl ⟨hk,by simp⟩⟩
   ·rw [On (Di hj)]at e2;obtain⟨u',r',q⟩:=hl j y v' e1 e2 e3;refine⟨u',r',?_⟩;rcases q with ⟨k,e⟩|⟨k,c,e,z⟩
    ·refine .inl ⟨k,?_⟩;have:y≠x:=λe=>hj (aFi hN e1 (e▸hi));simp [this,e]
    ·exact .inr ⟨k,c,e,z.sameBut hs (cne y c e)⟩
  ·obtain⟨w',z⟩:=I.cell y c e;exact⟨w',z.sameBut hs (cne y c e)⟩
  ·obtain⟨e,n,ne,nf,d⟩:=I.pin p hp;exact⟨(hs.2 p.1 ne).trans e,n,ne,nf,d⟩
 ·have hfn:X.fn x=true:=by
   rcases hf with z|z
   ·exact z
   ·rw [z]at hk;cases hk
  obtain⟨c,hc⟩:=I.ok.has x (.inl hk);obtain⟨w',z⟩:=I.cell x c hc;refine wpAny_storeName_cell I.ok.kind hk hc z (λh' hc' hs=>?_);obtain⟨oc,hoc,hocd⟩:=id z;refine h {s with heap:=h'} ⟨I.ok,I.os,I.bare,⟨λb o e n hb hx=>?_,λb o e n hb hx=>?_,I.base.free,λb o e hx=>?_,I.base.tups,I.base.frzs,I.base.tbls⟩,⟨m,hn.sameBut hs (Di (cne x c hc)),λj y v' e1 e2 e3=>?_⟩,λy c' e=>?_,I.free,I.freeC,λp hp=>?_,tracked ⟨oc,hoc,I.freeC x c hc⟩ hs,by simpa using I.len⟩ ⟨c,hs,.inr hc⟩
  ·exact(hs.2 b (Ax (Bg (Ao e) (I.ok.cab x c hfn hc)))).trans (I.base.keep b o e n hb hx)
  ·obtain⟨sl,e1⟩:=I.base.slot b o e n hb hx;exact⟨sl,(hs.2 b (Ax (Bg (Ao e) (I.ok.cab x c hfn hc)))).trans e1⟩
  ·obtain⟨o',e1⟩:=I.base.there b o e hx;exact⟨o',(hs.2 b (Ax (Bg (Ao e) (I.ok.cab x c hfn hc)))).trans e1⟩
  ·by_cases hj:j=i
   ·subst hj;rw [hi]at e1;cases e1;rw [Nn hiσ]at e2;cases e2;exact⟨u,r,.inr ⟨.inl hk,c,hc,hc'⟩⟩
   ·rw [On (Di hj)]at e2;obtain⟨u',r',q⟩:=hl j y v' e1 e2 e3;refine⟨u',r',?_⟩;rcases q with q|⟨k,c',e,z'⟩
    ·exact .inl q
    ·refine .inr ⟨k,c',e,z'.sameBut hs ?_⟩;rintro rfl;exact hj (aFi hN e1 (I.ok.inj _ _ _ e hc▸hi))
  ·by_cases hcc:c'=c
   ·subst hcc;exact⟨_,hc'⟩
   ·obtain⟨w2,z2⟩:=I.cell y c' e;exact⟨w2,z2.sameBut hs hcc⟩
  ·obtain⟨e,n,ne,nf,d⟩:=I.pin p hp;refine⟨(hs.2 p.1 ?_).trans e,n,ne,nf,d⟩;intro q;rw [q,hoc]at e;have q':oc=p.2:=Bm e;exact d w' (by rw [<-q'];exact hocd)
theorem aE2 {M:Model} {A:Around} {E:Value->Shared->Prop} {i:Nat} {x:Str} {v:V} {u:Value} {Q:Unit->Shared->Prop} (I:Inv X pins σ H s) (hN:X.N.Nodup) (hi:X.N[i]? =some x) (hx:Loc X.env.scope x) (r:RelV v u)
  (h:∀s',Inv X pins (σ.set i (some v)) H s'->Q () s') (hf:X.fn x=true∨X.env.scope.names.lookup x=some .local:=by first|exact .inl rfl|exact .inr rfl|assumption):wpAny M A (storeName X.env x u) Q E s:=
 aBn I hN hi hx r (λs' I' _=>h s' I') hf
theorem Inv.call' {s':Shared} {ch:List Addr} (I:Inv X pins σ H s) (ho:s'.os=s.os) (u:Un (frs X.stack) ch H H' s.heap s'.heap) (hok:HOk X.prog X.w H' s'.heap) (hg:AllBare s'.gens)
  (hch:∀b∈ch,(b∈X.ex∨X.s₀.heap.objs.size<=b)/\b≠X.env.locals/\(∀x c,X.env.cells.lookup x=some c->c≠b)/\∀p∈X.pn++pins,p.1≠b):Inv X pins σ H' s':=by
 obtain⟨h',g',d',t',o'⟩:=s';have e:o'=s.os:=ho;subst e;exact I.call (g':=g') (t':=t') (d':=d') u hok hg hch
end
abbrev XK:=Value->Option Addr->Hp->Prop
abbrev St:=List (Option V)
abbrev VK:=V->Hp->Prop
abbrev TE:=St->Hp->VK->Prop
abbrev TT:=St->Hp->(Bool->Hp->Prop)->Prop
abbrev TA:=St->Hp->(List V->Hp->Prop)->Prop
structure Ends where
 nx:St->Hp->Prop
 rt:VK
 bk:St->Hp->Prop:=λ_ _=>False
 ct:St->Hp->Prop:=λ_ _=>False
abbrev TS:=Ends->St->Hp->Prop
inductive IEP (X:Cx) (pins:List (Addr×Obj)) (σ:St) (Q:VK) (u:Value) (s':Shared):Prop
 |mk (v H':_) (q0_:Inv X pins σ H' s') (q1_:RelV v u) (q2_:Q v H'):IEP X pins σ Q u s'
def EP (X:Cx) (pins:List (Addr×Obj)) (σ:St) (Q:VK) (u:Value) (s':Shared):Prop:=IEP X pins σ Q u s'
def TP (X:Cx) (pins:List (Addr×Obj)) (σ:St) (Q:Bool->Hp->Prop) (b:Bool) (s':Shared):Prop:=∃H',Inv X pins σ H' s'/\Q b H'
inductive IAP (X:Cx) (pins:List (Addr×Obj)) (σ:St) (Q:List V->Hp->Prop) (us:List Value) (s':Shared):Prop
 |mk (vs H':_) (q0_:Inv X pins σ H' s') (q1_:Vals vs us) (q2_:Q vs H'):IAP X pins σ Q us s'
def AP (X:Cx) (pins:List (Addr×Obj)) (σ:St) (Q:List V->Hp->Prop) (us:List Value) (s':Shared):Prop:=IAP X pins σ Q us s'
def SP (X:Cx) (pins:List (Addr×Obj)) (D:Ends) (f:Flow) (s':Shared):Prop:=
 match f with
 | .next=>∃σ' H',Inv X pins σ' H' s'/\D.nx σ' H'
 | .brk=>∃σ' H',Inv X pins σ' H' s'/\D.bk σ' H'
 | .cont=>∃σ' H',Inv X pins σ' H' s'/\D.ct σ' H'
 | .ret u=>∃v σ' H',Inv X pins σ' H' s'/\RelV v u/\D.rt v H'
def PE (X:Cx) (e:Expr) (t:TE):Prop:=
 ∀(pins:List (Addr×Obj)) (s:Shared) (σ:St) (H:Hp) (Q:VK),Inv X pins σ H s->t σ H Q->wpAny (model X.prog X.w) X.A (eval e X.env) (EP X pins σ Q) X.xe s
def PT (X:Cx) (e:Expr) (t:TT):Prop:=
 ∀(pins:List (Addr×Obj)) (s:Shared) (σ:St) (H:Hp) (Q:Bool->Hp->Prop),Inv X pins σ H s->t σ H Q->wpAny (model X.prog X.w) X.A (isTrue e X.env (eval e X.env)) (TP X pins σ Q) X.xe s
def PW (X:Cx) (e:Expr) (t:TT):Prop:=
 ∀(whole:Sem Value) (pins:List (Addr×Obj)) (s:Shared) (σ:St) (H:Hp) (Q:Bool->Hp->Prop),Inv X pins σ H s->t σ H Q->wpAny (model X.prog X.w) X.A (isTrue e X.env whole) (TP X pins σ Q) X.xe s
theorem PW.pt {X:Cx} {e:Expr} {t:TT} (h:PW X e t):PT X e t:=h _
def PA (X:Cx) (es:List Expr) (t:TA):Prop:=
 ∀(pos:Pos) (pins:List (Addr×Obj)) (s:Shared) (σ:St) (H:Hp) (Q:List V->Hp->Prop),Inv X pins σ H s->t σ H Q->wpAny (model X.prog X.w) X.A (spliced (backTo pos (starEach es X.env))) (AP X pins σ Q) X.xe s
def PS (X:Cx) (st:Stmt) (t:TS):Prop:=
 ∀(pins:List (Addr×Obj)) (s:Shared) (σ:St) (H:Hp) (D:Ends),Inv X pins σ H s->t D σ H->wpAny (model X.prog X.w) X.A (exec st X.env) (SP X pins D) X.xe s
def PSs (X:Cx) (st:List Stmt) (t:TS):Prop:=
 ∀(pins:List (Addr×Obj)) (s:Shared) (σ:St) (H:Hp) (D:Ends),Inv X pins σ H s->t D σ H->wpAny (model X.prog X.w) X.A (execs st X.env) (SP X pins D) X.xe s
theorem thn {α:Type} {t:Sem α} {Q Q':α->Shared->Prop} {M:Model} {A:Around} {E:Value->Shared->Prop} {s:Shared} (h:wpAny M A t Q E s) (hQ:∀a s,Q a s->Q' a s):wpAny M A t Q' E s:=Cq h hQ λ_ _ x=>x
end L2
namespace L2
open PySem PySem.Spec PyProof.Rows
section
variable {X:Cx}
inductive aRx (i:Nat) (σ:St) (H:Hp) (Q:VK):Prop
 |mk (v:_) (q0_:σ[i]? =some (some v)) (q1_:Q v H):aRx i σ H Q
def aXu (i:Nat):TE:=λσ H Q=>aRx i σ H Q
def tC (v:V):TE:=λ_ H Q=>Q v H
theorem mZ {i:Nat} {x:Str} {pos:Pos} (hN:X.N[i]? =some x) (hv:Vis X.env.scope x) (hd:(x==("__debug__":Str))=false:=by decide) (hcd:(x==("__classdict__":Str))=false:=by decide):PE X (.Name x pos) (aXu i):=by
 intro pins s σ H Q I h;obtain⟨v,e,h⟩:=h;obtain⟨m,hn,hl⟩:=I.loc;obtain⟨u,r,l⟩:=hl i x v hN e hv;have fin:EP X pins σ Q u s:=⟨v,H,I,r,h⟩;rcases l with ⟨hk,hm⟩|⟨hk,c,hc,hcell⟩
 ·exact Ry (wpAny_loadName_local I.ok.kind hk hn hm fin) hd
 ·rcases hk with hk|hk
  ·exact Ry (wpAny_loadName_cell I.ok.kind hk hc hcell fin) hd
  ·exact Ry (wpAny_loadName_free I.ok.kind hk hc hcell fin hcd) hd
theorem dI {i j pos}:PE X (.Constant (.int i) j pos) (tC (.int i)):=λ_ _ _ H _ I h=>wpAny_Constant_int ⟨.int i,H,I.tok _,⟨_,rfl⟩,h⟩
theorem aXl {b j pos}:PE X (.Constant (.bool b) j pos) (tC (.bl b)):=λ_ _ _ H _ I h=>Constant_bool ⟨.bl b,H,I,rfl,h⟩
theorem aUs {j pos}:PE X (.Constant .none j pos) (tC .non):=λ_ _ _ H _ I h=>Pi ⟨.non,H,I,rfl,h⟩
theorem bU {x j pos}:PE X (.Constant (.str x) j pos) (tC (.str x)):=λ_ _ _ H _ I h=>Calls.Constant_str ⟨.str x,H,I.tok _,⟨_,rfl⟩,h⟩
def Gl (X:Cx) (x:Str):Prop:=X.env.kindOf x=some .globalImplicit
theorem aC5 {E:Value->Shared->Prop} {pins:List (Addr×Obj)} {s:Shared} {σ:St} {H:Hp} {x:Str} {u:Value} {pos:Pos} {Q:Value->Shared->Prop} (I:Inv X pins σ H s) (hg:Gl X x) (hm:X.mg x=some u) (h:Q u s)
  (hd:(x==("__debug__":Str))=false:=by decide):wpAny (model X.prog X.w) X.A (eval (.Name x pos) X.env) Q E s:=
 Lg I.ok.kind hg (Calls.loadGlobal_global (by rw [I.ok.glob];exact I.mod.glob.keeps I.bk) hm h) hd
theorem sZ {E:Value->Shared->Prop} {pins:List (Addr×Obj)} {s:Shared} {σ:St} {H:Hp} {x:Str} {u:Value} {pos:Pos} {Q:Value->Shared->Prop} (I:Inv X pins σ H s) (hg:Gl X x) (hm:X.mg x=none) (hv:bootBuiltins x=some u) (h:Q u s)
  (hn:x≠"__name__":=by decide) (hd:(x==("__debug__":Str))=false:=by decide):wpAny (model X.prog X.w) X.A (eval (.Name x pos) X.env) Q E s:=by
 obtain⟨mb,h1,h2⟩:=I.mod.blt;exact Lg I.ok.kind hg (Calls.loadGlobal_builtin (by rw [I.ok.glob];exact I.mod.glob.keeps I.bk) hm (by rw [I.ok.blt];exact h1.keeps I.bk) ((h2 x hn).trans hv) h) hd
theorem yM {x:Str} {v:V} {u:Value} {pos:Pos} (hg:Gl X x) (hm:X.mg x=some u) (r:RelV v u) (hd:(x==("__debug__":Str))=false:=by decide):PE X (.Name x pos) (tC v):=
 λ_ _ _ H _ I h=>aC5 I hg hm ⟨v,H,I,r,h⟩ hd
theorem aH6 {x:Str} {v:V} {u:Value} {pos:Pos} (hg:Gl X x) (hm:X.mg x=none) (hv:bootBuiltins x=some u) (r:RelV v u) (hn:x≠"__name__":=by decide) (hd:(x==("__debug__":Str))=false:=by decide):PE X (.Name x pos) (tC v):=
 λ_ _ _ H _ I h=>sZ I hg hm hv ⟨v,H,I,r,h⟩ hn hd
variable {a b:Expr} {ta tb:TE} {pos:Pos}
def PC (X:Cx) (op:CmpOp) (a b:Expr) (t:TE):Prop:=
 ∀(pins:List (Addr×Obj)) (s:Shared) (σ:St) (H:Hp) (Q:VK),Inv X pins σ H s->t σ H Q->
  wpAny (model X.prog X.w) X.A (eval a X.env) (λv s₁=>wpAny (model X.prog X.w) X.A (eval b X.env) (λu s₂=>wpAny (model X.prog X.w) X.A (compareOp op v u) (EP X pins σ Q) X.xe s₂) X.xe s₁) X.xe s
theorem aMf (b:Expr) {op:CmpOp} (h:op≠ .In) (h2:op≠ .NotIn):behindInMarks op b=false:=by
 have e1:(op==CmpOp.In)=false:=by cases op<;>first|rfl|exact absurd rfl h
 have e2:(op==Sy)=false:=by cases op<;>first|rfl|exact absurd rfl h2
 cases b<;>simp [behindInMarks,e1,e2]
def aXa (ta:TE):TE:=λσ H Q=>ta σ H λx H1=>Q (.bl (decide (x= .non))) H1
def aSi (ta:TE):TE:=λσ H Q=>ta σ H λx H1=>Q (.bl (!decide (x= .non))) H1
theorem RelV.none_iff {x:V} {v:Value} (r:RelV x v):(v==Cg)=decide (x= .non):=by
 cases x with
 |non=>cases r;rfl
 |bl _=>cases r;rfl
 |int _=>obtain⟨t,rfl⟩:=r;rfl
 |str _=>obtain⟨t,rfl⟩:=r;rfl
 |byt _=>obtain⟨t,rfl⟩:=r;rfl
 |flt _=>obtain⟨t,rfl⟩:=r;rfl
 |ref _=>cases r;rfl
 |ty _=>cases r;rfl
theorem aS2 {j pos'} (ha:PE X a ta):PC X .Is a (.Constant .none j pos') (aXa ta):=by
 intro pins s σ H Q I h;refine thn (ha pins s σ H _ I h) λv s1 ⟨x,H1,I1,r1,q1⟩=>?_;exact Pi (is_none_gen ⟨.bl _,H1,I1,by rw [r1.none_iff];rfl,q1⟩)
theorem aO9 {j pos'} (ha:PE X a ta):PC X .IsNot a (.Constant .none j pos') (aSi ta):=by
 intro pins s σ H Q I h;refine thn (ha pins s σ H _ I h) λv s1 ⟨x,H1,I1,r1,q1⟩=>?_;exact Pi (isnot_none_gen ⟨.bl _,H1,I1,by rw [r1.none_iff];rfl,q1⟩)
inductive aVy (x:V) (H:Hp) (Q:Bool->Hp->Prop):Prop
 |mk (c:_) (q0_:x= .bl c) (q1_:Q c H):aVy x H Q
def rBl (x:V) (H:Hp) (Q:Bool->Hp->Prop):Prop:=aVy x H Q
def tB (t:TE):TT:=λσ H Q=>t σ H λx H1=>rBl x H1 Q
theorem aOm {op:CmpOp} {t:TE} (h:PC X op a b t) (h1:behindInMarks op b=false:=by first|exact aMf _ (by decide) (by decide)|rfl):PT X (.Compare a [op] [b] pos) (tB t):=by
 intro pins s σ H Q I hw;refine Pw (thn (h pins s σ H _ I hw) λv s1 h1=>thn h1 λu s2 h2=>thn h2 λc s3 ⟨x,H1,I1,r1,q1⟩=>?_) h1;obtain⟨d,rfl,q⟩:=q1;cases r1;exact Cj ⟨H1,I1,q⟩
theorem zW {e:Expr} {t:TE} (h:PE X e t) (he:∀whole,isTrue e X.env whole=(do let v<-whole;standAt e.pos;holding [v] (truthy v)):=by intro _;rfl):PT X e (tB t):=by
 intro pins s σ H Q I hw;refine isTrue_plain (thn (h pins s σ H _ I hw) λv s1 ⟨x,H1,I1,r1,q1⟩=>?_) (he _);obtain⟨d,rfl,q⟩:=q1;cases r1;exact Cj ⟨H1,I1,q⟩
variable {tA tB':TT} {rest:List Expr}
def aX4 (t u:TT):TT:=λσ H Q=>t σ H λc H1=>if c=true then u σ H1 Q else Q false H1
def tOr (t u:TT):TT:=λσ H Q=>t σ H λc H1=>if c=true then Q true H1 else u σ H1 Q
def aYj (t:TT):TT:=λσ H Q=>t σ H λc H1=>Q (!c) H1
theorem aC7 (ha:PT X a tA):PW X (.BoolOp .And [a] pos) tA:=by
 intro wh pins s σ H Q I h;refine isTrue_and (thn (ha pins s σ H Q I h) λc s1 e=>?_);cases c with
 |true=>exact isTrue_and_nil e
 |false=>exact e
theorem aNd (ha:PT X a tA):PW X (.BoolOp .Or [a] pos) tA:=by
 intro wh pins s σ H Q I h;refine isTrue_or (thn (ha pins s σ H Q I h) λc s1 e=>?_);cases c with
 |false=>exact isTrue_or_nil e
 |true=>exact e
theorem aFw (ha:PT X a tA) (hb:PW X (.BoolOp .And (b::rest) pos) tB'):PW X (.BoolOp .And (a::b::rest) pos) (aX4 tA tB'):=by
 intro wh pins s σ H Q I h;refine isTrue_and (thn (ha pins s σ H _ I h) λc s1 ⟨H1,I1,q1⟩=>?_);cases c with
 |true=>exact hb wh pins s1 σ H1 Q I1 q1
 |false=>exact⟨H1,I1,q1⟩
theorem aRr (ha:PT X a tA) (hb:PW X (.BoolOp .Or (b::rest) pos) tB'):PW X (.BoolOp .Or (a::b::rest) pos) (tOr tA tB'):=by
 intro wh pins s σ H Q I h;refine isTrue_or (thn (ha pins s σ H _ I h) λc s1 ⟨H1,I1,q1⟩=>?_);cases c with
 |true=>exact⟨H1,I1,q1⟩
 |false=>exact hb wh pins s1 σ H1 Q I1 q1
theorem aCu (ha:PT X a tA):PT X (.UnaryOp .Not a pos) (aYj tA):=by
 intro pins s σ H Q I h;exact isTrue_not (ha pins s σ H (λc H1=>Q (!c) H1) I h)
def aVs (ta tb:TE):TE:=λσ H Q=>ta σ H λx H1=>∃c,x= .bl c/\if c=true then tb σ H1 Q else Q (.bl false) H1
def aW3 (ta:TE):TE:=λσ H Q=>ta σ H λx H1=>∃c,x= .bl c/\Q (.bl (!c)) H1
theorem aLz {op} {t:TE} (h:PE X a t):PE X (.BoolOp op [a] pos) t:=λpins s σ H Q I hw=>BoolOp_one (h pins s σ H Q I hw)
theorem aM9 (ha:PE X a ta) (hb:PE X (.BoolOp .And (b::rest) pos) tb):PE X (.BoolOp .And (a::b::rest) pos) (aVs ta tb):=by
 intro pins s σ H Q I h;refine BoolOp_and (thn (ha pins s σ H _ I h) λv s1 ⟨x,H1,I1,r1,q1⟩=>?_);obtain⟨c,rfl,q1⟩:=q1;cases r1;refine Cj ?_;cases c with
 |true=>exact hb pins s1 σ H1 Q I1 q1
 |false=>exact⟨.bl false,H1,I1,rfl,q1⟩
theorem aUz (ha:PE X a ta):PE X (.UnaryOp .Not a pos) (aW3 ta):=by
 intro pins s σ H Q I h;refine UnaryOp_ (thn (ha pins s σ H _ I h) λv s1 ⟨x,H1,I1,r1,q1⟩=>?_);obtain⟨c,rfl,q1⟩:=q1;cases r1;exact not_of (Cj ⟨.bl (!c),H1,I1,rfl,q1⟩)
end
end L2
namespace L2
open PySem PySem.Spec PyProof.Rows
def SqL (K:Ac) (H:Hp) (a:Addr) (xs:List V):Prop:=
 Rd H a (.lst xs)∨
  ∃(o:Obj) (its:Array Value) (n:Nat),K.lookup a=some o/\o.cls= .type "list"/\o.dict=none/\o.data= .seq its n/\its.size<=sizeLine/\Vals xs its.toList
def SqT (K:Ac) (H:Hp) (a:Addr) (xs:List V):Prop:=
 Rd H a (.tup xs)∨
  ∃(o:Obj) (its:Array Value) (n:Nat),K.lookup a=some o/\o.cls= .type "tuple"/\o.data= .seq its n/\its.size<=sizeLine/\Vals xs its.toList
def aYd:Value->Option V
 | .none=>some .non
 | .bool b=>some (.bl b)
 | .int i _=>some (.int i)
 | .str x _=>some (.str x)
 | .bytes b _=>some (.byt b)
 | .float b _=>some (.flt b)
 | .ref a=>some (.ref a)
 | .type n=>some (.ty n)
 |_=>none
theorem RelV.abs {x:V} {u:Value} (r:RelV x u):aYd u=some x:=by
 cases x with
 |non=>cases r;rfl
 |bl _=>cases r;rfl
 |int _=>obtain⟨t,rfl⟩:=r;rfl
 |str _=>obtain⟨t,rfl⟩:=r;rfl
 |byt _=>obtain⟨t,rfl⟩:=r;rfl
 |flt _=>obtain⟨t,rfl⟩:=r;rfl
 |ref _=>cases r;rfl
 |ty _=>cases r;rfl
theorem RelV.inj {x y:V} {u:Value} (r:RelV x u) (q:RelV y u):x=y:=Bm (r.abs.symm.trans q.abs)
theorem Vals.inj:∀{xs ys:List V} {us:List Value},Vals xs us->Vals ys us->xs=ys
 |_,_,_,.nil,.nil=>rfl
 |_,_,_,.cons r t,.cons r' t'=>by rw [r.inj r',Vals.inj t t']
section
variable {X:Cx} {pins:List (Addr×Obj)} {σ:St} {H:Hp} {s:Shared} {a:Addr} {xs ys:List V}
theorem SqL.of {K:Ac} (h:H a=some (.lst xs)):SqL K H a xs:= .inl (.inl h)
theorem SqT.of {K:Ac} (h:H a=some (.tup xs)):SqT K H a xs:= .inl (.inl h)
theorem Inv.list (I:Inv X pins σ H s) (h:SqL X.K H a xs):∃its:List Value,Vals xs its/\PlainL s.heap a its.toArray/\xs.length<=sizeLine:=by
 rcases h with h|⟨o,its,n,hk,hc,hd,hs,hz,r⟩
 ·obtain⟨z,its,n,r,e⟩:=h.ok I.hok;exact⟨its,r,⟨_,n,e,rfl,rfl,rfl⟩,z⟩
 ·refine⟨its.toList,r,⟨o,n,I.kIn a o hk,hc,hd,by simpa using hs⟩,?_⟩;have e:=r.length;simp only [Ap]at e;omega
theorem Inv.tuple (I:Inv X pins σ H s) (h:SqT X.K H a xs):∃its:List Value,Vals xs its/\IsTup s.heap a its.toArray/\xs.length<=sizeLine:=by
 rcases h with h|⟨o,its,n,hk,hc,hs,hz,r⟩
 ·obtain⟨z,its,r,p⟩:=h.ok I.hok;exact⟨its,r,p,z⟩
 ·refine⟨its.toList,r,⟨o,I.kIn a o hk,hc,n,by simpa using hs⟩,?_⟩;have e:=r.length;simp only [Ap]at e;omega
theorem Inv.list_inj (I:Inv X pins σ H s) (h:SqL X.K H a xs) (h':SqL X.K H a ys):xs=ys:=by
 obtain⟨its,r,⟨o,n,e,_,_,d⟩,_⟩:=I.list h;obtain⟨its',r',⟨o',n',e',_,_,d'⟩,_⟩:=I.list h';rw [e]at e';cases e';rw [d]at d';injection d' with d1 _
 have:its=its':=by simpa using congrArg Rv d1
 subst this;exact r.inj r'
theorem Inv.tuple_inj (I:Inv X pins σ H s) (h:SqT X.K H a xs) (h':SqT X.K H a ys):xs=ys:=by
 obtain⟨its,r,⟨o,e,_,n,d⟩,_⟩:=I.tuple h;obtain⟨its',r',⟨o',e',_,n',d'⟩,_⟩:=I.tuple h';rw [e]at e';cases e';rw [d]at d';injection d' with d1 _
 have:its=its':=by simpa using congrArg Rv d1
 subst this;exact r.inj r'
end
abbrev Cx.wish (X:Cx) (E:Value->Shared->Prop):Cx:={X with xe:=E}
abbrev Cx.nox (X:Cx):Cx:=X.wish λ_ _=>False
theorem Cx.Ok.wish {X:Cx} (ok:X.Ok) (E:Value->Shared->Prop):(X.wish E).Ok:=
 ⟨ok.mod,ok.kind,ok.glob,ok.blt,ok.above,ok.inj,ok.has,ok.cab,ok.hd,ok.frames,ok.stk,ok.exf,ok.bs,ok.bsz,ok.noex,ok.exfs,ok.funs,ok.frf⟩
theorem Cx.Ok.unwish {X:Cx} {E:Value->Shared->Prop} (ok:(X.wish E).Ok):X.Ok:=
 ⟨ok.mod,ok.kind,ok.glob,ok.blt,ok.above,ok.inj,ok.has,ok.cab,ok.hd,ok.frames,ok.stk,ok.exf,ok.bs,ok.bsz,ok.noex,ok.exfs,ok.funs,ok.frf⟩
section
variable {X:Cx} {pins:List (Addr×Obj)} {σ:St} {H:Hp} {s:Shared} {E:Value->Shared->Prop}
theorem Inv.wish (I:Inv X pins σ H s) (E:Value->Shared->Prop):Inv (X.wish E) pins σ H s:=⟨I.ok.wish E,I.os,I.bare,I.base,I.loc,I.cell,I.free,I.freeC,I.pin,I.hok,I.len⟩
theorem Inv.unwish (I:Inv (X.wish E) pins σ H s):Inv X pins σ H s:=⟨I.ok.unwish,I.os,I.bare,I.base,I.loc,I.cell,I.free,I.freeC,I.pin,I.hok,I.len⟩
theorem SP.unwish {D:Ends} {f:Flow} {s':Shared} (h:SP (X.wish E) pins D f s'):SP X pins D f s':=by
 cases f with
 |next=>obtain⟨σ',H',I,q⟩:=h;exact⟨σ',H',I.unwish,q⟩
 |brk=>obtain⟨σ',H',I,q⟩:=h;exact⟨σ',H',I.unwish,q⟩
 |cont=>obtain⟨σ',H',I,q⟩:=h;exact⟨σ',H',I.unwish,q⟩
 |ret u=>obtain⟨v,σ',H',I,r,q⟩:=h;exact⟨v,σ',H',I.unwish,r,q⟩
theorem PSs.nox {st:List Stmt} {t:TS} (h:PSs X.nox st t):PSs X st t:=λpins s σ H D I hw=>
 Cq (h pins s σ H D (I.wish _) hw) (λ_ _ q=>q.unwish) λ_ _ z=>El z
end
section
variable {X:Cx} {st:Stmt} {rest:List Stmt} {t u:TS} {e:Expr} {te:TE} {pos:Pos}
def aVn:TS:=λD σ H=>D.nx σ H
def aY0 (t u:TS):TS:=λD σ H=>t {D with nx:=u D} σ H
theorem bY:PSs X [] aVn:=λ_ _ σ H _ I h=>Jo ⟨σ,H,I,h⟩
theorem aJ (h1:PS X st t) (h2:PSs X rest u):PSs X (st::rest) (aY0 t u):=by
 intro pins s σ H D I h;refine Td (thn (h1 pins s σ H {D with nx:=u D} I h) λf s1 q=>?_);cases f with
 |next=>
  obtain⟨σ',H',I',q⟩:=q;exact h2 pins s1 σ' H' D I' q
 |ret v=>exact q
 |brk=>exact q
 |cont=>exact q
theorem aR (h1:PS X st t):PSs X [st] t:=by
 intro pins s σ H D I h;refine Td (thn (h1 pins s σ H D I h) λf s1 q=>?_);cases f with
 |next=>exact Jo q
 |ret v=>exact q
 |brk=>exact q
 |cont=>exact q
theorem Inv.quiet {pins:List (Addr×Obj)} {σ:St} {H:Hp} {s:Shared} (I:Inv X pins σ H s):interactive X.env=false:=by simp [interactive,I.ok.kind]
def aWk (te:TE):TS:=λD σ H=>te σ H λ_ H1=>D.nx σ H1
theorem cX (he:PE X e te) (hs:swapsWith e none pos.line X.env=pure false:=by rfl):PS X (.Expr e pos) (aWk te):=by
 intro pins s σ H D I h;exact wpAny_Expr_any (thn (he pins s σ H _ I h) λv s1 ⟨x,H1,I1,r1,q1⟩=>⟨σ,H1,I1,q1⟩) I.quiet hs
def aYi (te:TE):TS:=λD σ H=>te σ H D.rt
theorem cQ (he:PE X e te):PS X (.Return (some e) pos) (aYi te):=by
 intro pins s σ H D I h;exact wpAny_Return_some (thn (he pins s σ H _ I h) λv s1 ⟨x,H1,I1,r1,q1⟩=>⟨x,σ,H1,I1,r1,q1⟩)
def aX2 (c:TT) (t u:TS):TS:=λD σ H=>c σ H λb H1=>if b=true then t D σ H1 else u D σ H1
theorem eQ {c:Expr} {a b:List Stmt} {tc:TT} (hc:PT X c tc) (ha:PSs X a t) (hb:PSs X b u):PS X (.If c a b pos) (aX2 tc t u):=by
 intro pins s σ H D I h;refine wpAny_If (thn (hc pins s σ H _ I h) λd s1 ⟨H1,I1,q1⟩=>?_);cases d with
 |true=>exact ha pins s1 σ H1 D I1 q1
 |false=>exact hb pins s1 σ H1 D I1 q1
def aUi:TS:=λ_ _ _=>False
theorem dO:PS X st aUi:=λ_ _ _ _ _ _ h=>h.elim
end
abbrev TG:=V->St->Hp->(St->Hp->Prop)->Prop
abbrev TGs:=List V->St->Hp->(St->Hp->Prop)->Prop
def PG (X:Cx) (target:Expr) (t:TG):Prop:=
 ∀(pins:List (Addr×Obj)) (s:Shared) (σ:St) (H:Hp) (v:V) (u:Value) (Q:St->Hp->Prop),Inv X pins σ H s->RelV v u->t v σ H Q->
  wpAny (model X.prog X.w) X.A (assign target X.env u) (λ_ s'=>∃σ' H',Inv X pins σ' H' s'/\Q σ' H') X.xe s
def PGs (X:Cx) (ts:List Expr) (t:TGs):Prop:=
 ∀(pins:List (Addr×Obj)) (s:Shared) (σ:St) (H:Hp) (vs:List V) (us:List Value) (Q:St->Hp->Prop),Inv X pins σ H s->Vals vs us->t vs σ H Q->
  wpAny (model X.prog X.w) X.A (assignInOrder ((assignEach ts X.env).map (·.2)) us) (λ_ s'=>∃σ' H',Inv X pins σ' H' s'/\Q σ' H') X.xe s
abbrev aUx:=V->V->V->Hp->(Hp->Prop)->Prop
def aWr (X:Cx) (t:aUx):Prop:=
 ∀(pins:List (Addr×Obj)) (s:Shared) (σ:St) (H:Hp) (o i v:V) (ov iv u:Value) (Q:Hp->Prop),Inv X pins σ H s->RelV o ov->RelV i iv->RelV v u->t o i v H Q->
  wpAny (model X.prog X.w) X.A (setItem ov iv u) (λ_ s'=>∃H',Inv X pins σ H' s'/\Q H') X.xe s
section
variable {X:Cx} {pos:Pos}
def uB (i:Nat):TG:=λv σ H Q=>Q (σ.set i (some v)) H
theorem bO {i:Nat} {x:Str} (hN:X.N.Nodup) (hi:X.N[i]? =some x) (hx:Loc X.env.scope x) (hf:X.fn x=true∨X.env.scope.names.lookup x=some .local:=by first|exact .inl rfl|exact .inr rfl|assumption):PG X (.Name x pos) (uB i):=by
 intro pins s σ H v u Q I r h;exact Rx (aE2 I hN hi hx r (λs' I'=>⟨_,H,I',h⟩) hf)
def aWx:TGs:=λvs σ H Q=>vs=[]/\Q σ H
def aR1 (t:TG) (u:TGs):TGs:=λvs σ H Q=>∃v r,vs=v::r/\t v σ H λσ' H'=>u r σ' H' Q
theorem yE:PGs X [] aWx:=by
 intro pins s σ H vs us Q I r h;obtain⟨e,h⟩:=h;subst e;cases r;exact assignInOrder_nil ⟨σ,H,I,h⟩
theorem lN {e:Expr} {es:List Expr} {t:TG} {u:TGs} (h1:PG X e t) (h2:PGs X es u)
  (hs:(assignEach (e::es) X.env).map (·.2)=assign e X.env::(assignEach es X.env).map (·.2):=by rfl):PGs X (e::es) (aR1 t u):=by
 intro pins s σ H vs us Q I r h;obtain⟨v,vr,e1,h⟩:=h;subst e1;cases r with
 |cons r rr=>
  rw [hs];refine assignInOrder_cons (thn (h1 pins s σ H _ _ _ I r h) λ_ s1 ⟨σ1,H1,I1,q1⟩=>?_);exact h2 pins s1 σ1 H1 _ _ Q I1 rr q1
inductive aR9 (K:Ac) (n:Nat) (t:TGs) (v:V) (σ:St) (H:Hp) (Q:(St->Hp->Prop)):Prop
 |mk (a xs:_) (q0_:v= .ref a) (q1_:SqT K H a xs) (q2_:xs.length=n) (q3_:t xs σ H Q):aR9 K n t v σ H Q
def aW9 (K:Ac) (n:Nat) (t:TGs):TG:=λv σ H Q=>aR9 K n t v σ H Q
theorem aCp {es:List Expr} {k:Nat} {t:TGs} {n:Nat} (hc:X.calm=true) (h:PGs X es t)
  (hn:(assignEach es X.env).length=n:=by rfl) (hst:(assignEach es X.env).findIdx? (·.1)=none:=by rfl):PG X (.Tuple es k pos) (aW9 X.K n t):=by
 intro pins s σ H v u Q I r hw;obtain⟨a,xs,e1,hq,hl,hw⟩:=hw;subst e1;cases r;obtain⟨its,rv,ht,hz⟩:=I.tuple hq;refine assign_Tuple_tuple (I.ok.hd hc) ht (by simp [hn, <-hl,rv.length]) hst λh' hx=>?_;have I1:Inv X pins σ H {s with heap:=h'}:=I.kept (t':=s.toks) λb o e=>hx b o (Ax (Ao e)) e;exact h pins _ σ H xs _ Q I1 (by simpa using rv) hw
def aYh (to ti:TE) (t:aUx):TG:=λv σ H Q=>to σ H λo H1=>ti σ H1 λi H2=>t o i v H2 λH3=>Q σ H3
theorem aN8 {o i:Expr} {to ti:TE} {t:aUx} (ho:PE X o to) (hi:PE X i ti) (hs:aWr X t)
  (ha:∀v,assign (.Subscript o i pos) X.env v=(do
   let ov<-holding [v] (eval o X.env)
   let iv<-holding [v,ov] (eval i X.env)
   standAt pos
   holding [v,ov,iv] (setItem ov iv v)
   release [v,ov,iv] []):=by intro _;rfl):PG X (.Subscript o i pos) (aYh to ti t):=by
 intro pins s σ H v u Q I r h
 rw [ha]
 refine Aa (Ca (thn (ho pins s σ H _ I h) λov s1 ⟨x,H1,I1,r1,q1⟩=>?_))
 refine Aa (Ca (thn (hi pins s1 σ H1 _ I1 q1) λiv s2 ⟨y,H2,I2,r2,q2⟩=>?_))
 refine Aa (Iy (Aa (Ca (thn (hs pins s2 σ H2 x y v ov iv u _ I2 r1 r2 r q2) λ_ s3 ⟨H3,I3,q3⟩=>?_))))
 exact wpAny_release ⟨σ,H3,I3,q3⟩
def aPi (te:TE) (g:TG):TS:=λD σ H=>te σ H λx H1=>g x σ H1 D.nx
theorem aGl {tg e:Expr} {te:TE} {g:TG} (he:PE X e te) (hg:PG X tg g) (hs:swapsWithSole [tg] e pos.line X.env=pure false:=by rfl) (hw:swappedStores [tg] e X.env=pure none:=by rfl)
  (h1:(assignEach [tg] X.env).map (·.2)=[assign tg X.env]:=by rfl):PS X (.Assign [tg] e pos) (aPi te g):=by
 intro pins s σ H D I h;refine wpAny_Assign_stores (thn (he pins s σ H _ I h) λv s1 ⟨x,H1,I1,r1,q1⟩=>?_) hs hw;rw [h1];exact thn (hg pins s1 σ H1 x v _ I1 r1 q1) λ_ s2 q=>q
theorem iB {i:Nat} {x:Str} {e:Expr} {te:TE} {pos':Pos} (hN:X.N.Nodup) (hi:X.N[i]? =some x) (hx:Loc X.env.scope x) (he:PE X e te) (hs:swapsWith e (some (.Name x pos')) pos.line X.env=pure false:=by rfl) (hf:X.fn x=true∨X.env.scope.names.lookup x=some .local:=by first|exact .inl rfl|exact .inr rfl|assumption):
  PS X (.Assign [.Name x pos'] e pos) (aPi te (uB i)):=by
 intro pins s σ H D I h;refine wpAny_Assign_Name (thn (he pins s σ H _ I h) λv s1 ⟨y,H1,I1,r1,q1⟩=>?_) hs;exact aE2 I1 hN hi hx r1 (λs2 I2=>⟨_,H1,I2,q1⟩) hf
end
section
variable {X:Cx} {pos:Pos}
inductive aHp (c:TT) (tb:TS) (D:Ends) (σ:St) (H:Hp):Prop
 |mk (W:Nat->St->Hp->Prop) (q0_:(∃m,W m σ H)) (q1_:∀m σ H,W m σ H->c σ H λb H1=>if b=true then∃N:St->Hp->Prop,(∀σ' H',N σ' H'->∃m',m'<m/\W m' σ' H')/\tb {D with nx:=N,ct:=N,bk:=D.nx} σ H1 else D.nx σ H1):aHp c tb D σ H
def aS7 (c:TT) (tb:TS):TS:=λD σ H=>aHp c tb D σ H
theorem uA {c:Expr} {body:List Stmt} {tc:TT} {tb:TS} (hp:PassesOwn (model X.prog X.w) X.A X.env X.xe) (hc:PT X c tc) (hb:PSs X body tb):PS X (.While c body [] pos) (aS7 tc tb):=by
 intro pins s σ H D I h;obtain⟨W,⟨m0,w0⟩,turn⟩:=h;refine wpAny_While (codeAny_whileLoop (λn s'=>∃σ' H',Inv X pins σ' H' s'/\W n σ' H') ?_ m0 ⟨σ,H,I,w0⟩);rintro n s1 ⟨σ1,H1,I1,w1⟩;refine Fm hp (thn (hc pins s1 σ1 H1 _ I1 (turn n σ1 H1 w1)) λb s2 ⟨H2,I2,q2⟩=>?_);cases b with
 |true=>
  obtain⟨N,hN,q2⟩:=q2;rw [if_pos rfl];refine Fm hp (thn (hb pins s2 σ1 H2 _ I2 q2) λf s3 q3=>?_);cases f with
  |next=>
   obtain⟨σ3,H3,I3,n3⟩:=q3;obtain⟨m',hm,w3⟩:=hN σ3 H3 n3;exact⟨m',hm,σ3,H3,I3,w3⟩
  |cont=>
   obtain⟨σ3,H3,I3,n3⟩:=q3;obtain⟨m',hm,w3⟩:=hN σ3 H3 n3;exact⟨m',hm,σ3,H3,I3,w3⟩
  |brk=>exact q3
  |ret v=>exact q3
 |false=>
  rw [if_neg Aj];exact Jo ⟨σ1,H2,I2,q2⟩
end
structure It where
 go:Nat->Hp->Prop
 yld:Nat->Hp->V->Hp->Prop
 stop:Nat->Hp->Prop
def aA5 (X:Cx) (pins:List (Addr×Obj)) (H:Hp) (b:Addr):Prop:=
 H b=none/\b≠X.env.locals/\b∉X.fs/\(b∈X.ex∨X.s₀.heap.objs.size<=b)/\(∀x c,X.env.cells.lookup x=some c->c≠b)/\∀p∈X.pn++pins,p.1≠b
theorem Inv.fpOk {X:Cx} {pins:List (Addr×Obj)} {σ:St} {H H':Hp} {s:Shared} {b:Addr} (I:Inv X pins σ H s) (hb:s.heap.objs.size<=b) (hn:H' b=none):aA5 X pins H' b:=by
 refine⟨hn,Ho (Bg I.lt hb),I.nofs hb,.inr (Co I.sz hb),λx c e z=>?_,λp hp z=>?_⟩
 ·obtain⟨v,q⟩:=I.cell x c e;exact absurd (Bg q.lt (by rw [z];exact hb)) (Ea _)
 ·exact absurd (Bg (Ao (I.pin p hp).1) (by rw [z];exact hb)) (Ea _)
structure Turn (P:Program) (w:World) (K:Ac) (tg:Expr) (J:It) (fp:List Addr) (it:Addr) (tn:Nat->Heap->Prop):Prop where
 mem:it∈fp
 obj:∀i h,tn i h->∀b∈fp,∃o,h.get? b=some o/\∀v,o.data≠ .cell v
 keep:∀i h h',tn i h->(∀b∈fp,∀o,h.get? b=some o->h'.get? b=some o)->tn i h'
 item:∀(X:Cx),X.prog=P->X.w=w->X.K=K->X.calm=true->∀(i:Nat) (pins:List (Addr×Obj)) (s:Shared) (σ:St) (H:Hp) (E:Value->Shared->Prop),Inv X pins σ H s->(∀b∈fp,aA5 X pins H b)->tn i s.heap->J.go i H->
  wpAny (model P w) X.A (pyNext (.ref it)) (λr s1=>∃u,r=some u/\
   wpAny (model P w) X.A (letOwnedTupleGo tg (.ref it) u) (λ_ s2=>∃x H',Inv X pins σ H' s2/\RelV x u/\J.yld i H x H'/\tn (i+1) s2.heap/\∀b∈fp,H' b=none) E s1) E s
 done:∀(X:Cx),X.prog=P->X.w=w->X.K=K->X.calm=true->∀(i:Nat) (pins:List (Addr×Obj)) (s:Shared) (σ:St) (H:Hp) (E:Value->Shared->Prop),Inv X pins σ H s->(∀b∈fp,aA5 X pins H b)->tn i s.heap->J.stop i H->
  wpAny (model P w) X.A (pyNext (.ref it)) (λr s1=>r=none/\Inv X pins σ H s1) E s
 self:∀(A:Around) (i:Nat) (s:Shared) (Q:Value->Shared->Prop) (E:Value->Shared->Prop),tn i s.heap->Q (.ref it) s->wpAny (model P w) A (pyIter (.ref it)) Q E s
abbrev TI:=St->Hp->(It->Hp->Prop)->Prop
def PIE (X:Cx) (pins:List (Addr×Obj)) (σ:St) (tg:Expr) (R:It->Hp->Prop) (itv:Value) (s2:Shared):Prop:=
 ∃(it:Addr) (fp:List Addr) (tn:Nat->Heap->Prop) (J:It) (H':Hp),itv= .ref it/\Inv X pins σ H' s2/\Turn X.prog X.w X.K tg J fp it tn/\tn 0 s2.heap/\(∀b∈fp,aA5 X pins H' b)/\R J H'
def PI (X:Cx) (tg iter:Expr) (wi:TI):Prop:=
 ∀(pins:List (Addr×Obj)) (s:Shared) (σ:St) (H:Hp) (R:It->Hp->Prop),Inv X pins σ H s->wi σ H R->
  wpAny (model X.prog X.w) X.A (eval iter X.env) (λv s1=>wpAny (model X.prog X.w) X.A (pyIter v) (PIE X pins σ tg R) X.xe s1) X.xe s
theorem aIt {M : Model} {A : Around} {E : Value → Shared → Prop} {s : Shared} {tg : Expr} {it : Addr} {u : Value} {o : Obj} {n : String} {vs : Array Value} {Q : Unit → Shared → Prop} (ho : s.heap.get? it = some o) (hc : o.cls = .type n) (hd : o.data = .fields vs)
    (hn : ["enumerate", "zip", "dict_itemiterator", "dict_reverseitemiterator", "odict_iterator", "itertools.zip_longest", "itertools.pairwise"].contains n = false) (hQ : Q () s) : wpAny M A (letOwnedTupleGo tg (.ref it) u) Q E s := by
  unfold letOwnedTupleGo
  cases tg <;> first
    | exact Ad hQ
    | (cases u <;> first
        | exact Ad hQ
        | (refine Aa (Oq ho ?_)
           rw [hc, hd]
           show wpAny M A (if (["enumerate", "zip", "dict_itemiterator", "dict_reverseitemiterator", "odict_iterator", "itertools.zip_longest", "itertools.pairwise"].contains n && vs[0]? == some (rawInt _)) = true then _ else _) Q E s
           rw [if_neg (by intro h; rw [hn, Hr] at h; cases h)]
           exact Ad hQ))
def Itl (K:Ac) (a:Addr):It:=
 ⟨λi H=>∃xs x,SqL K H a xs/\xs[i]? =some x,λi H x H'=>H'=H/\∀xs,SqL K H a xs->xs[i]? =some x,λi H=>∃xs,SqL K H a xs/\xs.length<=i⟩
def Itt (K:Ac) (a:Addr):It:=
 ⟨λi H=>∃xs x,SqT K H a xs/\xs[i]? =some x,λi H x H'=>H'=H/\∀xs,SqT K H a xs->xs[i]? =some x,λi H=>∃xs,SqT K H a xs/\xs.length<=i⟩
def Itr (lo:Int) (n:Nat):It:=⟨λi _=>i<n,λi H x H'=>H'=H/\x= .int (lo+i),λi _=>n<=i⟩
theorem aKn {P:Program} {w:World} {K:Ac} {tg:Expr} (a it:Addr):Turn P w K tg (Itl K a) [it] it (λi h=>h.IsListIter it a i) where
 mem:=by simp
 obj:=λi h st b hb=>by
  have e:b=it:=by simpa using hb
  subst e;obtain⟨o,e,c,d⟩:=st;exact⟨o,e,λv z=>by rw [d]at z;cases z⟩
 keep:=λi h h' st k=>st.at λo e=>k it (by simp) o e
 item:=by
  intro X hP hw hK hc i pins s σ H E I hf st hg;subst hP hw hK;obtain⟨xs,x,hq,hx⟩:=hg;obtain⟨its,rv,p,hz⟩:=I.list hq;obtain⟨u,hu,ru⟩:=rv.get hx;obtain⟨f0,f1,f2,f3,f4,f5⟩:=hf it (by simp);refine wpAny_pyNext_list_item st p.isList (x:=u) (by simpa using hu) λh' st' sb=>?_;have I1:Inv X pins σ H {s with heap:=h'}:=I.turned (t':=s.toks) (λb o hb e=>(sb.2 b hb).trans e) f0 f1 f3 f4 f5;obtain⟨o,e,c,d⟩:=id st';exact⟨u,rfl,aIt (s:={s with heap:=h'}) e c d (by decide) ⟨x,H,I1,ru,⟨rfl,λys hy=>by rw [I.list_inj hy hq];exact hx⟩,st',λb hb=>(hf b hb).1⟩⟩
 done:=by
  intro X hP hw hK hc i pins s σ H E I hf st hg;subst hP hw hK;obtain⟨xs,hq,hx⟩:=hg;obtain⟨its,rv,p,hz⟩:=I.list hq;obtain⟨f0,f1,f2,f3,f4,f5⟩:=hf it (by simp);have hl:=rv.length;exact wpAny_pyNext_list_end (I.ok.hd hc) st p.isList (by simp;omega) λh' eb=>⟨rfl,I.turned (t':=s.toks) (λb o hb e=>eb b o hb e) f0 f1 f3 f4 f5⟩
 self:=λ_ _ _ _ _ st h=>wpAny_pyIter_listiter st h
theorem aG0 {P:Program} {w:World} {K:Ac} {tg:Expr} (a it:Addr):Turn P w K tg (Itt K a) [it] it (λi h=>h.IsTupleIter it a i) where
 mem:=by simp
 obj:=λi h st b hb=>by
  have e:b=it:=by simpa using hb
  subst e;obtain⟨o,e,c,d⟩:=st;exact⟨o,e,λv z=>by rw [d]at z;cases z⟩
 keep:=λi h h' st k=>st.at λo e=>k it (by simp) o e
 item:=by
  intro X hP hw hK hc i pins s σ H E I hf st hg;subst hP hw hK;obtain⟨xs,x,hq,hx⟩:=hg;obtain⟨its,rv,p,hz⟩:=I.tuple hq;obtain⟨u,hu,ru⟩:=rv.get hx;obtain⟨f0,f1,f2,f3,f4,f5⟩:=hf it (by simp);refine wpAny_pyNext_tuple_item st (show s.heap.IsTuple a its.toArray from p) (x:=u) (by simpa using hu) λh' st' sb=>?_;have I1:Inv X pins σ H {s with heap:=h'}:=I.turned (t':=s.toks) (λb o hb e=>(sb.2 b hb).trans e) f0 f1 f3 f4 f5;obtain⟨o,e,c,d⟩:=id st';exact⟨u,rfl,aIt (s:={s with heap:=h'}) e c d (by decide) ⟨x,H,I1,ru,⟨rfl,λys hy=>by rw [I.tuple_inj hy hq];exact hx⟩,st',λb hb=>(hf b hb).1⟩⟩
 done:=by
  intro X hP hw hK hc i pins s σ H E I hf st hg;subst hP hw hK;obtain⟨xs,hq,hx⟩:=hg;obtain⟨its,rv,p,hz⟩:=I.tuple hq;obtain⟨f0,f1,f2,f3,f4,f5⟩:=hf it (by simp);have hl:=rv.length;exact wpAny_pyNext_tuple_end (I.ok.hd hc) st (show s.heap.IsTuple a its.toArray from p) (by simp;omega) λh' eb=>⟨rfl,I.turned (t':=s.toks) (λb o hb e=>eb b o hb e) f0 f1 f3 f4 f5⟩
 self:=λ_ _ _ _ _ st h=>wpAny_pyIter_tupleiter st h
theorem aF4 {P:Program} {w:World} {K:Ac} {tg:Expr} (it:Addr) (lo:Int) (n:Nat):Turn P w K tg (Itr lo n) [it] it (λi h=>IsRangeIter h it (lo+(i:Nat)*1) ((n:Int)-(i:Nat)) 1) where
 mem:=by simp
 obj:=λi h st b hb=>by
  have e:b=it:=by simpa using hb
  subst e;exact⟨_,st,λv z=>by
   have z':Up _=Data.cell v:=z;cases z'⟩
 keep:=λi h h' st k=>k it (by simp) _ st
 item:=by
  intro X hP hw hK hc i pins s σ H E I hf st hg;subst hP hw hK;obtain⟨f0,f1,f2,f3,f4,f5⟩:=hf it (by simp);have W:=Walks.range (prog:=X.prog) (w:=X.w) (I.ok.hd hc) it lo 1 n;refine W.item i s _ _ hg st λv h' tk hv st' kk=>?_;obtain⟨t,rfl⟩:=hv;have I1:Inv X pins σ H {s with heap:=h',toks:=tk}:=I.turned (λb o hb e=>kk b o (by simpa using hb) e) f0 f1 f3 f4 f5;refine⟨_,rfl,aIt (s:={s with heap:=h',toks:=tk}) (n:="range_iterator") st' rfl rfl (by decide) ⟨.int (lo+i),H,I1,⟨t,?_⟩,⟨rfl,rfl⟩,st',λb hb=>(hf b hb).1⟩⟩;rw [Vc]
 done:=by
  intro X hP hw hK hc i pins s σ H E I hf st hg;subst hP hw hK;obtain⟨f0,f1,f2,f3,f4,f5⟩:=hf it (by simp);exact wpAny_pyNext_range_end (I.ok.hd hc) st (by have:n<=i:=hg;omega) λh' eb=>⟨rfl,I.turned (t':=s.toks) (λb o hb e=>eb b o hb e) f0 f1 f3 f4 f5⟩
 self:=λ_ _ _ _ _ st h=>wpAny_pyIter_rangeiter st h
end L2
namespace L2
open PySem PySem.Spec PyProof.Rows
section
variable {X:Cx} {tg:Expr}
inductive aRe (K:Ac) (x:V) (H1:Hp) (R:It->Hp->Prop):Prop
 |mk (a:_) (q0_:x= .ref a) (q1_:(∃xs,SqL K H1 a xs)) (q2_:R (Itl K a) H1):aRe K x H1 R
def aYw (K:Ac) (x:V) (H1:Hp) (R:It->Hp->Prop):Prop:=aRe K x H1 R
def aWy (K:Ac) (tl:TE):TI:=λσ H R=>tl σ H λx H1=>aYw K x H1 R
def aY3 (K:Ac) (tl:TE):TI:=λσ H R=>tl σ H λx H1=>∃a,x= .ref a/\(∃xs,SqT K H1 a xs)/\R (Itt K a) H1
theorem aP0 {l:Expr} {tl:TE} (hl:PE X l tl):PI X tg l (aWy X.K tl):=by
 intro pins s σ H R I h;refine thn (hl pins s σ H _ I h) λv s1 ⟨x,H1,I1,r1,q1⟩=>?_;obtain⟨a,e,⟨xs,hq⟩,q⟩:=q1;subst e;cases r1;obtain⟨its,rv,p,hz⟩:=I1.list hq;refine Io p.isList ?_;refine⟨s1.heap.objs.size,[s1.heap.objs.size],_,_,H1,rfl,I1.kept (t':=s1.toks) λb o e=>Ai _ e,aKn a _,⟨_,Ar _ rfl,rfl,rfl⟩,λb hb=>?_,q⟩;have e:b=s1.heap.objs.size:=by simpa using hb
 subst e;exact I1.fpOk (Am _) (I1.hok.fresh (Am _))
theorem aN2 {l:Expr} {tl:TE} (hl:PE X l tl):PI X tg l (aY3 X.K tl):=by
 intro pins s σ H R I h;refine thn (hl pins s σ H _ I h) λv s1 ⟨x,H1,I1,r1,q1⟩=>?_;obtain⟨a,e,⟨xs,hq⟩,q⟩:=q1;subst e;cases r1;obtain⟨its,rv,p,hz⟩:=I1.tuple hq;refine wpAny_pyIter_tuple (show s1.heap.IsTuple a its.toArray from p) ?_;refine⟨s1.heap.objs.size,[s1.heap.objs.size],_,_,H1,rfl,I1.kept (t':=s1.toks) λb o e=>Ai _ e,aG0 a _,⟨_,Ar _ rfl,rfl,rfl⟩,λb hb=>?_,q⟩;have e:b=s1.heap.objs.size:=by simpa using hb
 subst e;exact I1.fpOk (Am _) (I1.hok.fresh (Am _))
theorem aEo {pins:List (Addr×Obj)} {σ:St} {H:Hp} {s:Shared} {R:It->Hp->Prop} {E:Value->Shared->Prop} {lo hi:Int} {t u v:Tok} {tk:Nat} (I:Inv X pins σ H s) (h1: -(2 ^ 62)<=lo) (h2:lo<2 ^ 62) (h3: -(2 ^ 62)<=hi) (h4:hi<2 ^ 62)
  (q:R (Itr lo (hi-lo).toNat) H):wpAny (model X.prog X.w) X.A (pyIter (.ref s.heap.objs.size)) (PIE X pins σ tg R) E {s with heap:=s.heap.push {cls:= .type "range",data:= .fields #[.int lo t,.int hi u,.int 1 v]},toks:=tk}:=by
 refine wpAny_pyIter_range (IsRange.new ..) (small_one h1 h2 h3 h4) ?_;have I1:Inv X pins σ H {s with heap:=s.heap.push {cls:= .type "range",data:= .fields #[.int lo t,.int hi u,.int 1 v]},toks:=tk}:=I.kept λb o e=>Ai _ e;refine⟨(s.heap.push {cls:= .type "range",data:= .fields #[.int lo t,.int hi u,.int 1 v]}).objs.size,[(s.heap.push {cls:= .type "range",data:= .fields #[.int lo t,.int hi u,.int 1 v]}).objs.size],_,_,H,rfl,
  I1.kept (t':=tk) λb o e=>Ai _ e,aF4 _ lo (hi-lo).toNat,?_,λb hb=>?_,q⟩
 ·have e1:lo+((0:Nat):Int)*1=lo:=by simp
  have e2:(((hi-lo).toNat:Nat):Int)-((0:Nat):Int)=Tc lo hi 1:=by rw [rangeSize_one];split<;>omega
  show IsRangeIter _ _ (lo+((0:Nat):Int)*1) ((((hi-lo).toNat:Nat):Int)-((0:Nat):Int)) 1;rw [e1,e2];exact Ar _ rfl
 ·have e:b=(s.heap.push {cls:= .type "range",data:= .fields #[.int lo t,.int hi u,.int 1 v]}).objs.size:=by simpa using hb
  subst e;exact I1.fpOk (Am _) (I1.hok.fresh (Am _))
inductive aRq (vs:List V) (H1:Hp) (R:It->Hp->Prop):Prop
 |mk (j:Int) (q0_:vs=[.int j]) (q1_: -(2 ^ 62)<=j) (q2_:j<2 ^ 62) (q3_:R (Itr 0 j.toNat) H1):aRq vs H1 R
def aY5 (vs:List V) (H1:Hp) (R:It->Hp->Prop):Prop:=aRq vs H1 R
def aWn (ta:TA):TI:=λσ H R=>ta σ H λvs H1=>aY5 vs H1 R
def aXp (ta:TA):TI:=λσ H R=>ta σ H λvs H1=>∃i j:Int,vs=[.int i,.int j]/\(-(2 ^ 62)<=i/\i<2 ^ 62/\ -(2 ^ 62)<=j/\j<2 ^ 62)/\R (Itr i (j-i).toNat) H1
theorem aI4 {a:Expr} {ta:TA} {p pos:Pos} (hg:Gl X "range") (hm:X.mg "range"=none) (ha:PA X [a] ta) (hs:starEach [a] X.env=[(false,eval a X.env)]:=by rfl):PI X tg (.Call (.Name "range" p) [a] [] pos) (aWn ta):=by
 intro pins s σ H R I h;refine Call_ (sZ I hg hm boot_range (Er (thn (ha pos pins s σ H _ I h) λus s1 ⟨vs,H1,I1,r1,q1⟩=>?_) hs rfl));obtain⟨j,e,q1,q2,q⟩:=q1;subst e;cases r1 with
 |cons r rr=>
  cases rr;obtain⟨t,rfl⟩:=r;exact call_range_1 (aEo I1 (by omega) (by omega) q1 q2 (by simpa using q))
theorem aJi {a b:Expr} {ta:TA} {p pos:Pos} (hg:Gl X "range") (hm:X.mg "range"=none) (ha:PA X [a,b] ta) (hs:starEach [a,b] X.env=[(false,eval a X.env),(false,eval b X.env)]:=by rfl) (hs2:starEach [b] X.env=[(false,eval b X.env)]:=by rfl):
  PI X tg (.Call (.Name "range" p) [a,b] [] pos) (aXp ta):=by
 intro pins s σ H R I h;refine Call_ (sZ I hg hm boot_range (Er (thn (ha pos pins s σ H _ I h) λus s1 ⟨vs,H1,I1,r1,q1⟩=>?_) (by rw [hs,hs2]) (by rw [hs2];rfl)));obtain⟨i,j,e,⟨q1,q2,q3,q4⟩,q⟩:=q1;subst e;cases r1 with
 |cons r rr=>
  cases rr with
  |cons r' rr=>
   cases rr;obtain⟨t,rfl⟩:=r;obtain⟨t',rfl⟩:=r';exact call_range_2 (aEo I1 q1 q2 q3 q4 q)
def aX6 (wi:TI) (g:TG) (tb:TS):TS:=λD σ H=>wi σ H λJ H1=>∃W:Nat->Nat->St->Hp->Prop,(∃m,W 0 m σ H1)/\∀i m σ H,W i m σ H->
 (J.stop i H/\D.nx σ H)∨(J.go i H/\∃N:St->Hp->Prop,(∀σ' H',N σ' H'->∃m',m'<m/\W (i+1) m' σ' H')/\∀x H',J.yld i H x H'->g x σ H' λσ2 H2=>tb {D with nx:=N,ct:=N,bk:=D.nx} σ2 H2)
def aCk (fp:List Addr) (h:Heap):List (Addr×Obj):=fp.filterMap λb=>(h.get? b).map λo=>(b,o)
theorem fD {fp:List Addr} {h:Heap} {b:Addr} {o:Obj} (hb:b∈fp) (e:h.get? b=some o):(b,o)∈aCk fp h:=List.mem_filterMap.mpr ⟨b,hb,by rw [e];rfl⟩
theorem aJx {fp:List Addr} {h:Heap} {p:Addr×Obj} (hp:p∈aCk fp h):p.1∈fp/\h.get? p.1=some p.2:=by
 obtain⟨b,hb,e⟩:=List.mem_filterMap.mp hp;cases q:h.get? b with
 |none=>rw [q]at e;cases e
 |some o=>
  rw [q]at e;have e':(b,o)=p:=Bm e;subst e';exact⟨hb,q⟩
theorem Inv.pinned {pins:List (Addr×Obj)} {σ:St} {H:Hp} {s:Shared} {fp:List Addr} (I:Inv X pins σ H s) (hf:∀b∈fp,aA5 X pins H b) (ho:∀b∈fp,∃o,s.heap.get? b=some o/\∀v,o.data≠ .cell v):Inv X (pins++aCk fp s.heap) σ H s:=
 I.pins_of λp hp=>(List.mem_append.mp hp).elim (λz=>I.pin p (Ba _ z)) λz=>by
  obtain⟨hb,e⟩:=aJx z;obtain⟨f0,f1,f2,_⟩:=hf p.1 hb;obtain⟨o,e',d⟩:=ho p.1 hb;rw [e]at e';cases e';exact⟨e,f0,f1,f2,d⟩
theorem Inv.unpinned {pins pl:List (Addr×Obj)} {σ:St} {H:Hp} {s:Shared} (I:Inv X (pins++pl) σ H s):Inv X pins σ H s:=I.pins_of λp hp=>I.pin p (Ba _ (Fl _ hp))
theorem aMp {iter:Expr} {body:List Stmt} {wi:TI} {g:TG} {tb:TS} {pos:Pos} (hp:PassesOwn (model X.prog X.w) X.A X.env X.xe) (hc:X.calm=true) (hi:PI X tg iter wi) (hg:PG X tg g) (hb:PSs X body tb)
  (hs:∀x,foldedSetIterable iter X.env x=pure x:=by intro _;rfl):PS X (.For tg iter body [] pos) (aX6 wi g tb):=by
 intro pins s σ H D I h;refine wpAny_For (thn (hi pins s σ H _ I h) λv s1 h1=>thn h1 λitv s2 h2=>?_) hs;obtain⟨it,fp,tn,J,H2,e,I2,T,st2,f2,W,⟨m0,w0⟩,turn⟩:=h2;subst e;have stat:∀{H':Hp},(∀b∈fp,H' b=none)->∀b∈fp,aA5 X pins H' b:=λhn b hb=>⟨hn b hb,(f2 b hb).2⟩;refine codeAny_forLoop_any (λn s'=>∃i σ' H',Inv X pins σ' H' s'/\tn i s'.heap/\(∀b∈fp,H' b=none)/\W i n σ' H') ?_ m0 ⟨0,σ,H2,I2,st2,λb hb=>(f2 b hb).1,w0⟩;rintro n s3 ⟨i,σ3,H3,I3,st3,fr3,w3⟩;rcases turn i n σ3 H3 w3 with ⟨stop,qn⟩|⟨go,N,hN,step⟩
 ·refine Fm hp (thn (T.done X rfl rfl rfl hc i pins s3 σ3 H3 X.xe I3 (stat fr3) st3 stop) λr s4 ⟨hr,I4⟩=>?_);subst hr;exact Jo ⟨σ3,H3,I4,qn⟩
 ·refine Fm hp (thn (T.item X rfl rfl rfl hc i pins s3 σ3 H3 X.xe I3 (stat fr3) st3 go) λr s4 ⟨u,hr,h4⟩=>?_);subst hr;refine Fm hp (thn h4 λ_ s5 ⟨x,H5,I5,r5,y5,st5,fr5⟩=>?_);have I5':=I5.pinned (stat fr5) (T.obj _ _ st5);refine Fm hp (thn (hg _ s5 σ3 H5 x u _ I5' r5 (step x H5 y5)) λ_ s6 ⟨σ6,H6,I6,q6⟩=>?_);refine Fm hp (thn (hb _ s6 σ6 H6 _ I6 q6) λf s7 q7=>?_);have again:∀{σ7:St} {H7:Hp},Inv X (pins++aCk fp s5.heap) σ7 H7 s7->N σ7 H7->∃m,m<n/\∃i σ' H',Inv X pins σ' H' s7/\tn i s7.heap/\(∀b∈fp,H' b=none)/\W i m σ' H':=λ{σ7 H7} I7 n7=>by
   obtain⟨m',hm,w7⟩:=hN σ7 H7 n7;refine⟨m',hm,i+1,σ7,H7,I7.unpinned,T.keep _ _ _ st5 λb hb o e=>(I7.pin (b,o) (Ba _ (Ba _ (fD hb e)))).1,λb hb=>?_,w7⟩;obtain⟨o,e,d⟩:=T.obj _ _ st5 b hb;exact(I7.pin (b,o) (Ba _ (Ba _ (fD hb e)))).2.1
  cases f with
  |next=>obtain⟨σ7,H7,I7,n7⟩:=q7;exact again I7 n7
  |cont=>obtain⟨σ7,H7,I7,n7⟩:=q7;exact again I7 n7
  |brk=>obtain⟨σ7,H7,I7,q7⟩:=q7;exact⟨σ7,H7,I7.unpinned,q7⟩
  |ret v=>obtain⟨x7,σ7,H7,I7,r7,q7⟩:=q7;exact⟨x7,σ7,H7,I7.unpinned,r7,q7⟩
end
end L2
namespace L2
open PySem PySem.Spec PyProof.Rows
abbrev R2:=V->V->Hp->VK->Prop
def OpR (X:Cx) (f:Value->Value->Sem Value) (r:R2):Prop:=
 ∀(pins:List (Addr×Obj)) (s:Shared) (σ:St) (H:Hp) (x y:V) (v u:Value) (Q:VK),Inv X pins σ H s->RelV x v->RelV y u->r x y H Q->
  wpAny (model X.prog X.w) X.A (f v u) (EP X pins σ Q) X.xe s
def UnR (X:Cx) (f:Value->Sem Value) (r:V->Hp->VK->Prop):Prop:=
 ∀(pins:List (Addr×Obj)) (s:Shared) (σ:St) (H:Hp) (x:V) (v:Value) (Q:VK),Inv X pins σ H s->RelV x v->r x H Q->
  wpAny (model X.prog X.w) X.A (f v) (EP X pins σ Q) X.xe s
def eV (X:Cx) (f:Value) (r:List V->Hp->VK->Prop):Prop:=
 ∀(pins:List (Addr×Obj)) (s:Shared) (σ:St) (H:Hp) (xs:List V) (us:List Value) (Q:VK),Inv X pins σ H s->Vals xs us->r xs H Q->
  wpAny (model X.prog X.w) X.A (call f us) (EP X pins σ Q) X.xe s
def tOp (r:R2) (ta tb:TE):TE:=λσ H Q=>ta σ H λx H1=>tb σ H1 λy H2=>r x y H2 Q
def tUn (r:V->Hp->VK->Prop) (ta:TE):TE:=λσ H Q=>ta σ H λx H1=>r x H1 Q
inductive IrI (C:Int->Int->Prop) (g:Int->Int->V) (x:V) (y:V) (H:Hp) (Q:VK):Prop
 |mk (i j:_) (q0_:x= .int i) (q1_:y= .int j) (q2_:C i j) (q3_:Q (g i j) H):IrI C g x y H Q
def rI (C:Int->Int->Prop) (g:Int->Int->V):R2:=λx y H Q=>IrI C g x y H Q
def rI0 (g:Int->Int->V):R2:=λx y H Q=>∃i j,x= .int i/\y= .int j/\Q (g i j) H
inductive IrU (g:Int->V) (x:V) (H:Hp) (Q:VK):Prop
 |mk (i:_) (q0_:x= .int i) (q1_:Q (g i) H):IrU g x H Q
def rU (g:Int->V):V->Hp->VK->Prop:=λx H Q=>IrU g x H Q
section
variable {X:Cx} {a b c:Expr} {ta tb tc:TE} {pos:Pos}
theorem aUd (ha:PE X a ta) (hb:PE X b tb) {pins:List (Addr×Obj)} {s:Shared} {σ:St} {H:Hp} {R:V->V->Hp->Prop} (I:Inv X pins σ H s)
  (h:ta σ H λx H1=>tb σ H1 λy H2=>R x y H2) {Q:Value->Shared->Prop} {f:Value->Value->Sem Value}
  (hf:∀v u s2 x y H2,Inv X pins σ H2 s2->RelV x v->RelV y u->R x y H2->wpAny (model X.prog X.w) X.A (f v u) Q X.xe s2):
  wpAny (model X.prog X.w) X.A (eval a X.env) (λv s₁=>wpAny (model X.prog X.w) X.A (eval b X.env) (λu s₂=>wpAny (model X.prog X.w) X.A (f v u) Q X.xe s₂) X.xe s₁) X.xe s:=by
 refine thn (ha pins s σ H _ I h) λv s1 ⟨x,H1,I1,r1,q1⟩=>?_;refine thn (hb pins s1 σ H1 _ I1 q1) λu s2 ⟨y,H2,I2,r2,q2⟩=>?_;exact hf v u s2 x y H2 I2 r1 r2 q2
theorem pQ {op:Operator} {r:R2} (ho:OpR X (binaryOp op) r) (ha:PE X a ta) (hb:PE X b tb):PE X (.BinOp a op b pos) (tOp r ta tb):=by
 intro pins s σ H Q I h;exact wpAny_BinOp (aUd ha hb I h λv u s2 x y H2 I2 rx ry q=>ho pins s2 σ H2 x y v u Q I2 rx ry q)
theorem aK7 {op:UnaryOp} {r:V->Hp->VK->Prop} (ho:UnR X (unaryOp op) r) (ha:PE X a ta):PE X (.UnaryOp op a pos) (tUn r ta):=by
 intro pins s σ H Q I h;exact UnaryOp_ (thn (ha pins s σ H _ I h) λv s1 ⟨x,H1,I1,r1,q1⟩=>ho pins s1 σ H1 x v Q I1 r1 q1)
theorem opI {f:Value->Value->Sem Value} {C:Int->Int->Prop} {g:Int->Int->Int}
  (rule:∀(i j:Int) (t u:Tok) (s:Shared) (Q:Value->Shared->Prop) (E:Value->Shared->Prop),C i j->Q (.int (g i j) s.toks) {s with toks:=s.toks+1}->wpAny (model X.prog X.w) X.A (f (.int i t) (.int j u)) Q E s):
  OpR X f (rI C λi j=> .int (g i j)):=by
 intro pins s σ H x y v u Q I rx ry h;obtain⟨i,j,rfl,rfl,hc,q⟩:=h;obtain⟨t,rfl⟩:=rx;obtain⟨t',rfl⟩:=ry;exact rule i j t t' s _ _ hc ⟨.int (g i j),H,I.tok _,⟨_,rfl⟩,q⟩
theorem aW1 {f:Value->Value->Sem Value} {g:Int->Int->Int}
  (rule:∀(i j:Int) (t u:Tok) (s:Shared) (Q:Value->Shared->Prop) (E:Value->Shared->Prop),Q (.int (g i j) s.toks) {s with toks:=s.toks+1}->wpAny (model X.prog X.w) X.A (f (.int i t) (.int j u)) Q E s):
  OpR X f (rI0 λi j=> .int (g i j)):=by
 intro pins s σ H x y v u Q I rx ry h;obtain⟨i,j,rfl,rfl,q⟩:=h;obtain⟨t,rfl⟩:=rx;obtain⟨t',rfl⟩:=ry;exact rule i j t t' s _ _ ⟨.int (g i j),H,I.tok _,⟨_,rfl⟩,q⟩
theorem aQ4 {f:Value->Value->Sem Value} {g:Int->Int->Bool}
  (rule:∀(i j:Int) (t u:Tok) (s:Shared) (Q:Value->Shared->Prop) (E:Value->Shared->Prop),Q (.bool (g i j)) s->wpAny (model X.prog X.w) X.A (f (.int i t) (.int j u)) Q E s):
  OpR X f (rI0 λi j=> .bl (g i j)):=by
 intro pins s σ H x y v u Q I rx ry h;obtain⟨i,j,rfl,rfl,q⟩:=h;obtain⟨t,rfl⟩:=rx;obtain⟨t',rfl⟩:=ry;exact rule i j t t' s _ _ ⟨.bl (g i j),H,I,rfl,q⟩
def aYa (i j:Int):Prop:=0<j/\j<1073741824
def aYy (i j:Int):Prop:=0<=j/\j<=1000000/\i.natAbs<2 ^ 64
def aTy (i j:Int):Prop:=(-(2 ^ 64)<i/\i<2 ^ 64)∨(-(2 ^ 64)<j/\j<2 ^ 64)
theorem aTy.ok {i j:Int} (h:aTy i j):IntMulOk i j:=by
 rcases h with ⟨h1,h2⟩|⟨h1,h2⟩
 ·exact .of_left (intBits_le_64 h1 h2)
 ·exact .of_right (intBits_le_64 h1 h2)
theorem tE:OpR X (binaryOp .Add) (rI0 λi j=> .int (i+j)):=aW1 λ_ _ _ _ _ _ _ q=>add_int q
theorem iD:OpR X (binaryOp .Sub) (rI0 λi j=> .int (i-j)):=aW1 λ_ _ _ _ _ _ _ q=>sub_int q
theorem kJ:OpR X (binaryOp .Mult) (rI aTy λi j=> .int (i*j)):=opI λ_ _ _ _ _ _ _ hc q=>mul_int q hc.ok
theorem uH:OpR X (binaryOp .FloorDiv) (rI aYa λi j=> .int (i / j)):=opI λi j _ _ _ _ _ hc q=>by
 have h1:(0:Int)<j:=hc.1;have h2:j<1073741824:=hc.2;exact floordiv_int (by omega) (by rw [Mg i (by omega)];exact q) (.inl (PyProof.noPylong_small (by omega)))
theorem mW:OpR X (binaryOp .Mod) (rI (λ_ j=>0<j) λi j=> .int (i % j)):=opI λi j _ _ _ _ _ hc q=>by
 have h1:(0:Int)<j:=hc;exact mod_int' (by omega) (by rw [Int.fmod_eq_emod_of_nonneg i (by omega)];exact q)
theorem aNq:OpR X (binaryOp .Pow) (rI aYy λi j=> .int (i ^ j.toNat)):=opI λ_ _ _ _ _ _ _ hc q=>pow_int_small hc.1 hc.2.1 hc.2.2 q
theorem unI {f:Value->Sem Value} {g:Int->Int}
  (rule:∀(i:Int) (t:Tok) (s:Shared) (Q:Value->Shared->Prop) (E:Value->Shared->Prop),Q (.int (g i) s.toks) {s with toks:=s.toks+1}->wpAny (model X.prog X.w) X.A (f (.int i t)) Q E s):
  UnR X f (rU λi=> .int (g i)):=by
 intro pins s σ H x v Q I rx h;obtain⟨i,rfl,q⟩:=h;obtain⟨t,rfl⟩:=rx;exact rule i t s _ _ ⟨.int (g i),H,I.tok _,⟨_,rfl⟩,q⟩
theorem aHb:UnR X (unaryOp .USub) (rU λi=> .int (-i)):=unI λ_ _ _ _ _ q=>neg_int q
end
def aVw:V->V->Bool
 | .non,.non=>true| .non,.int _=>true| .int _,.non=>true| .non,.bl _=>true| .bl _,.non=>true| .non,.str _=>true| .str _,.non=>true
 | .int _,.int _=>true| .bl _,.bl _=>true| .str _,.str _=>true| .byt _,.byt _=>true
 | .int _,.str _=>true| .str _,.int _=>true| .bl _,.str _=>true| .str _,.bl _=>true
 |_,_=>false
def rEq:R2:=λx y H Q=>aVw x y=true/\Q (.bl (decide (x=y))) H
def rNe:R2:=λx y H Q=>aVw x y=true/\Q (.bl (!decide (x=y))) H
theorem aIo {i j:Int}:decide (V.int i=V.int j)=(i==j):=by
 rw [Eo];simp
theorem aM0 {i j:Bool}:decide (V.bl i=V.bl j)=(i==j):=by
 rw [Eo];simp
theorem aH9 {i j:Str}:decide (V.str i=V.str j)=(i==j):=by
 rw [Eo];simp
theorem aIe {i j:Array UInt8}:decide (V.byt i=V.byt j)=(i.toList==j.toList):=by
 rw [Eo];cases i;cases j;simp
section
variable {X:Cx} {a b c:Expr} {ta tb tc:TE} {pos:Pos}
theorem bZ {pins:List (Addr×Obj)} {σ:St} {H:Hp} {s:Shared} {Q:VK} {k k':Bool} (I:Inv X pins σ H s) (q:Q (.bl k) H) (e:k=k'):EP X pins σ Q (.bool k') s:=by
 subst e;exact⟨.bl k,H,I,rfl,q⟩
theorem oA:OpR X (compareOp .Eq) rEq:=by
 intro pins s σ H x y v u Q I rx ry h;obtain⟨hs,q⟩:=h;cases x with
 |non=>
  cases rx;cases y with
  |non=>cases ry;exact Tw (bZ I q (by simp))
  |bl j=>cases ry;exact Tz (bZ I q (by simp))
  |int j=>obtain⟨t',rfl⟩:=ry;exact Tx (bZ I q (by simp))
  |str j=>obtain⟨t',rfl⟩:=ry;exact Tv (bZ I q (by simp))
  |_=>exact absurd (show false=true from hs) Aj
 |bl i=>
  cases rx;cases y with
  |non=>cases ry;exact Ub (bZ I q (by simp))
  |bl j=>cases ry;exact eq_bool (bZ I q aM0)
  |str j=>obtain⟨t',rfl⟩:=ry;exact Sq (bZ I q (by simp))
  |_=>exact absurd (show false=true from hs) Aj
 |int i=>
  obtain⟨t,rfl⟩:=rx;cases y with
  |non=>cases ry;exact Ua (bZ I q (by simp))
  |int j=>obtain⟨t',rfl⟩:=ry;exact eq_int (bZ I q aIo)
  |str j=>obtain⟨t',rfl⟩:=ry;exact So (bZ I q (by simp))
  |_=>exact absurd (show false=true from hs) Aj
 |str i=>
  obtain⟨t,rfl⟩:=rx;cases y with
  |non=>cases ry;exact Tu (bZ I q (by simp))
  |bl j=>cases ry;exact Sn (bZ I q (by simp))
  |int j=>obtain⟨t',rfl⟩:=ry;exact Sm (bZ I q (by simp))
  |str j=>obtain⟨t',rfl⟩:=ry;exact eq_str (bZ I q aH9)
  |_=>exact absurd (show false=true from hs) Aj
 |byt i=>
  obtain⟨t,rfl⟩:=rx;cases y with
  |byt j=>obtain⟨t',rfl⟩:=ry;exact PySem.W.eq_bytes (bZ I q aIe)
  |_=>exact absurd (show false=true from hs) Aj
 |_=>cases y<;>exact absurd (show false=true from hs) Aj
theorem aHr:OpR X (compareOp .NotEq) rNe:=by
 intro pins s σ H x y v u Q I rx ry h;obtain⟨hs,q⟩:=h;cases x with
 |non=>
  cases rx;cases y with
  |non=>cases ry;exact To (bZ I q (by simp))
  |bl j=>cases ry;exact Tq (bZ I q (by simp))
  |int j=>obtain⟨t',rfl⟩:=ry;exact Tp (bZ I q (by simp))
  |str j=>obtain⟨t',rfl⟩:=ry;exact Tn (bZ I q (by simp))
  |_=>exact absurd (show false=true from hs) Aj
 |bl i=>
  cases rx;cases y with
  |non=>cases ry;exact Tt (bZ I q (by simp))
  |bl j=>cases ry;exact ne_bool (bZ I q (congrArg not aM0))
  |str j=>obtain⟨t',rfl⟩:=ry;exact Sk (bZ I q (by simp))
  |_=>exact absurd (show false=true from hs) Aj
 |int i=>
  obtain⟨t,rfl⟩:=rx;cases y with
  |non=>cases ry;exact Ts (bZ I q (by simp))
  |int j=>obtain⟨t',rfl⟩:=ry;exact ne_int (bZ I q (congrArg not aIo))
  |str j=>obtain⟨t',rfl⟩:=ry;exact Sj (bZ I q (by simp))
  |_=>exact absurd (show false=true from hs) Aj
 |str i=>
  obtain⟨t,rfl⟩:=rx;cases y with
  |non=>cases ry;exact Tj (bZ I q (by simp))
  |bl j=>cases ry;exact Si (bZ I q (by simp))
  |int j=>obtain⟨t',rfl⟩:=ry;exact Sh (bZ I q (by simp))
  |str j=>obtain⟨t',rfl⟩:=ry;exact ne_str (bZ I q (congrArg not aH9))
  |_=>exact absurd (show false=true from hs) Aj
 |byt i=>
  obtain⟨t,rfl⟩:=rx;cases y with
  |byt j=>obtain⟨t',rfl⟩:=ry;exact PySem.W.ne_bytes (bZ I q (congrArg not aIe))
  |_=>exact absurd (show false=true from hs) Aj
 |_=>cases y<;>exact absurd (show false=true from hs) Aj
theorem uK:OpR X (compareOp .Lt) (rI0 λi j=> .bl (decide (i<j))):=aQ4 λ_ _ _ _ _ _ _ q=>lt_int q
theorem uV:OpR X (compareOp .LtE) (rI0 λi j=> .bl (decide (i<=j))):=aQ4 λ_ _ _ _ _ _ _ q=>le_int q
theorem sJ:OpR X (compareOp .Gt) (rI0 λi j=> .bl (decide (j<i))):=aQ4 λ_ _ _ _ _ _ _ q=>gt_int q
theorem aVt:OpR X (compareOp .GtE) (rI0 λi j=> .bl (decide (j<=i))):=aQ4 λ_ _ _ _ _ _ _ q=>ge_int q
theorem aJl:OpR X (compareOp .In) (λx y H Q=>∃i j,x= .str i/\y= .str j/\Q (.bl (!(Kj j i 0 j.length 1).isEmpty)) H):=by
 intro pins s σ H x y v u Q I rx ry h;obtain⟨i,j,rfl,rfl,q⟩:=h;obtain⟨t,rfl⟩:=rx;obtain⟨t',rfl⟩:=ry;exact in_str (bZ I q rfl)
theorem OpR.or {f:Value->Value->Sem Value} {r r':R2} (h:OpR X f r) (h':OpR X f r'):OpR X f (λx y H Q=>r x y H Q∨r' x y H Q):=by
 intro pins s σ H x y v u Q I rx ry q;rcases q with q|q
 ·exact h pins s σ H x y v u Q I rx ry q
 ·exact h' pins s σ H x y v u Q I rx ry q
theorem cZ (b:Expr) {op:CmpOp} (h:op≠ .In:=by decide) (h2:op≠ .NotIn:=by decide):behindInMarks op b=false:=by
 have e1:(op==CmpOp.In)=false:=by cases op<;>first|rfl|exact absurd rfl h
 have e2:(op==Sy)=false:=by cases op<;>first|rfl|exact absurd rfl h2
 cases b<;>simp [behindInMarks,e1,e2]
theorem aDp {op:CmpOp} {r:R2} (ho:OpR X (compareOp op) r) (ha:PE X a ta) (hb:PE X b tb) (hm:behindInMarks op b=false):PE X (.Compare a [op] [b] pos) (tOp r ta tb):=by
 intro pins s σ H Q I h;exact wpAny_Compare1 (aUd ha hb I h λv u s2 x y H2 I2 rx ry q=>ho pins s2 σ H2 x y v u Q I2 rx ry q) hm
def aN7 (t:TE):TT:=λσ H Q=>t σ H λx H1=>rBl x H1 Q
theorem cL {op:CmpOp} {r:R2} (ho:OpR X (compareOp op) r) (ha:PE X a ta) (hb:PE X b tb) (hm:behindInMarks op b=false):PT X (.Compare a [op] [b] pos) (aN7 (tOp r ta tb)):=by
 intro pins s σ H Q I h;refine Pw (thn (ha pins s σ H _ I h) λv s1 ⟨x,H1,I1,r1,q1⟩=>thn (hb pins s1 σ H1 _ I1 q1) λu s2 ⟨y,H2,I2,r2,q2⟩=>
  thn (ho pins s2 σ H2 x y v u _ I2 r1 r2 q2) λc s3 ⟨z,H3,I3,r3,k,e,q3⟩=>?_) hm
 subst e;cases r3;exact Cj ⟨H3,I3,q3⟩
def aG9 (r r':R2) (ta tb tc:TE):TE:=λσ H Q=>ta σ H λx H1=>tb σ H1 λy H2=>r x y H2 λz H3=>∃k,z= .bl k/\
 (if k=true then tc σ H3 λw' H4=>r' y w' H4 Q else Q (.bl false) H3)
theorem aLx {op op':CmpOp} {r r':R2} (ho:OpR X (compareOp op) r) (ho':OpR X (compareOp op') r') (ha:PE X a ta) (hb:PE X b tb) (hc:PE X c tc)
  (hm:lastMarks [op,op'] [b,c]=false:=by with_unfolding_all rfl):PE X (.Compare a [op,op'] [b,c] pos) (aG9 r r' ta tb tc):=by
 intro pins s σ H Q I h;refine Compare_chain (thn (ha pins s σ H _ I h) λv s1 ⟨x,H1,I1,r1,q1⟩=>chain_link (thn (hb pins s1 σ H1 _ I1 q1) λu s2 ⟨y,H2,I2,r2,q2⟩=>
  thn (ho pins s2 σ H2 x y v u _ I2 r1 r2 q2) λd s3 ⟨z,H3,I3,r3,k,e,q3⟩=>?_)) hm
 subst e;cases r3;refine Cj ?_;cases k with
 |false=>exact ite_ff ⟨.bl false,H3,I3,rfl,q3⟩
 |true=>exact ite_tt (chain_last (thn (hc pins s3 σ H3 _ I3 q3) λw' s4 ⟨z',H4,I4,r4,q4⟩=>ho' pins s4 σ H4 y z' u w' Q I4 r2 r4 q4))
theorem aMc {op op':CmpOp} {r r':R2} (ho:OpR X (compareOp op) r) (ho':OpR X (compareOp op') r') (ha:PE X a ta) (hb:PE X b tb) (hc:PE X c tc)
  (hm:lastMarks [op,op'] [b,c]=false:=by with_unfolding_all rfl):PT X (.Compare a [op,op'] [b,c] pos) (aN7 (aG9 r r' ta tb tc)):=by
 intro pins s σ H Q I h;refine isTrue_chain (thn (ha pins s σ H _ I h) λv s1 ⟨x,H1,I1,r1,q1⟩=>test_link (thn (hb pins s1 σ H1 _ I1 q1) λu s2 ⟨y,H2,I2,r2,q2⟩=>
  thn (ho pins s2 σ H2 x y v u _ I2 r1 r2 q2) λd s3 ⟨z,H3,I3,r3,k,e,q3⟩=>?_)) hm
 subst e;cases r3;refine Cj ?_;cases k with
 |false=>
  obtain⟨k',e',q'⟩:=q3;cases e';exact ite_ff ⟨H3,I3,q'⟩
 |true=>
  refine ite_tt (test_last (thn (hc pins s3 σ H3 _ I3 q3) λw' s4 ⟨z',H4,I4,r4,q4⟩=>thn (ho' pins s4 σ H4 y z' u w' _ I4 r2 r4 q4) λd' s5 ⟨z2,H5,I5,r5,k2,e2,q5⟩=>?_));subst e2;cases r5;exact Cj ⟨H5,I5,q5⟩
theorem wC:(sizeLine:Nat)<2 ^ 63:=by rw [Cr];decide
theorem zQ:OpR X (binaryOp .Add) (λx y H Q=>∃i j,x= .str i/\y= .str j/\i.length+j.length<=sizeLine/\Q (.str (i++j)) H):=by
 intro pins s σ H x y v u Q I rx ry h;obtain⟨i,j,rfl,rfl,hz,q⟩:=h;obtain⟨t,rfl⟩:=rx;obtain⟨t',rfl⟩:=ry;exact add_str (λt' tk=>⟨.str (i++j),H,I.tok _,⟨_,rfl⟩,q⟩) hz
theorem vals1 {x:V} {us:List Value} (r:Vals [x] us):∃u,us=[u]/\RelV x u:=by
 cases r with
 |cons r1 r2=>cases r2;exact⟨_,rfl,r1⟩
theorem vals2 {x y:V} {us:List Value} (r:Vals [x,y] us):∃u w',us=[u,w']/\RelV x u/\RelV y w':=by
 cases r with
 |cons r1 r2=>
  cases r2 with
  |cons r3 r4=>cases r4;exact⟨_,_,rfl,r1,r3⟩
theorem aJd (hc:X.calm=true):eV X (.builtin "min") (λxs H Q=>∃i j,xs=[.int i,.int j]/\Q (.int (if j<i then j else i)) H):=by
 intro pins s σ H xs us Q I r h;obtain⟨i,j,rfl,q⟩:=h;obtain⟨u,w',rfl,⟨t,rfl⟩,⟨t',rfl⟩⟩:=vals2 r;refine min_two_ints (I.ok.hd hc) λh' tk k=>⟨_,H,I.kept k,?_,q⟩;by_cases hj:j<i
 ·rw [if_pos hj,if_pos hj];exact⟨_,rfl⟩
 ·rw [if_neg hj,if_neg hj];exact⟨_,rfl⟩
theorem aBs:eV X (.type "int") (λxs H Q=>(∃i,xs=[.int i]/\Q (.int i) H)∨∃k,xs=[.bl k]/\Q (.int (if k then 1 else 0)) H):=by
 intro pins s σ H xs us Q I r h;rcases h with ⟨i,rfl,q⟩|⟨k,rfl,q⟩
 ·obtain⟨u,rfl,t,rfl⟩:=vals1 r;exact call_int_int ⟨.int i,H,I,⟨_,rfl⟩,q⟩
 ·obtain⟨u,rfl,r1⟩:=vals1 r;cases r1;exact call_int_bool ⟨.int (if k then 1 else 0),H,I.tok _,⟨_,rfl⟩,q⟩
theorem aDl:eV X (.type "str") (λxs H Q=>∃i,xs=[.int i]/\i.natAbs.log2<1920/\Q (.str (toString i)) H):=by
 intro pins s σ H xs us Q I r h;obtain⟨i,rfl,hz,q⟩:=h;obtain⟨u,rfl,t,rfl⟩:=vals1 r;exact PySem.P.str_of_int hz ⟨.str _,H,I.tok _,⟨_,rfl⟩,q⟩
end
end L2
namespace L2
open PySem PySem.Spec PyProof.Rows
structure aGh (h:Heap) (x dx C:Addr) (mA:Str->Option Value):Prop where
 obj:h.get? x=some (Ek C dx)
 ns:h.Ns1 dx mA
 ne:dx≠x
theorem aKc {h:Heap} {dx:Addr} {mA:Str->Option Value} (n:h.Ns1 dx mA):∃od,h.get? dx=some od/\∀name,Iu name od=some (mA name):=by
 obtain⟨o,es,ep,ho,hd,hk,_,hm⟩:=n;refine⟨o,ho,λname=>?_⟩;have e:=hm name;unfold nsFind findBy at e;rw [<-Array.find?_toList]at e;unfold Iu;rw [hd];dsimp only;split
 ·rename_i y q;rw [q]at e;exact congrArg some e
 ·rename_i q;rw [q]at e;have a:es.toList.any (·.refKey)=false:=by
   rw [List.any_eq_false];intro y hy;obtain⟨z,t,hkey⟩:=hk y (Array.mem_toList_iff.mp hy);simp [DictEntry.refKey,hkey]
  have a':¬es.toList.any (·.refKey)=true:=by rw [a];exact Aj
  rw [if_neg a'];exact congrArg some e
theorem aGh.look {h:Heap} {x dx C:Addr} {mA:Str->Option Value} (I:aGh h x dx C mA):∃od,PySem.W.InstAt h x (Ek C dx) C (some od)/\∀name,Iu name od=some (mA name):=
 let⟨od,ho,hl⟩:=aKc I.ns
 ⟨od,⟨I.obj,rfl,rfl,ho⟩,hl⟩
section
variable {prog:Program} {w:World} {A:Around} {E:Value->Shared->Prop} {s:Shared} {K:Ac} {x dx C f:Addr} {mA:Str->Option Value} {name:Str} {v:Value}
theorem aDm {expr:Bool} {Q:Value->Shared->Prop} (X:K.In s.heap) (I:aGh s.heap x dx C mA) (hg:Hw K C name=true) (hh:Js K C=true)
  (ha:Dg K (.ref C) name=some none) (hv:mA name=some v) (hv':Ov v=true) (h:Q v {s with toks:=s.toks+1}):
  wpAny (model prog w) A (getAttr (.ref x) name expr) Q E s:=by
 obtain⟨od,J,hl⟩:=I.look;exact PySem.W.get_value X J (Ja hg).1 (PySem.W.findObj_own hh ha rfl (by rw [hl,hv])) hv' h
theorem aMu {pl:Sem Bool} {Q:Value×List Value->Shared->Prop} (X:K.In s.heap) (I:aGh s.heap x dx C mA) (hg:Hw K C name=true)
  (hf:Dg K (.ref C) name=some (some (.ref f))) (ht:Mp K (.ref f)=true) (hv:mA name=none) (h:Q (.ref f,[.ref x]) s):
  wpAny (model prog w) A (getMethod (.ref x) name pl) Q E s:=by
 obtain⟨od,J,hl⟩:=I.look;exact PySem.W.method_fn X J (Ja hg).1 (Ja hg).2 hf (beq_iff_eq.mp ht) (by show(Iu name od).map (·.isSome)=some false;rw [hl,hv];rfl) h
theorem aQ7 {ns:List Str} {Q:Unit->Shared->Prop} (X:K.In s.heap) (I:aGh s.heap x dx C mA)
  (hs:Dg K (.ref C) "__setattr__"=some (some (.builtin "object.__setattr__"))) (hp:Of K C=true) (ht:Kc K C name=some none) (hh:Js K C=true)
  (hw:Ni mA ns) (hsz:ns.length<=sizeLine)
  (h:∀h',aGh h' x dx C (λy=>if y=name then some v else mA y)->Cw dx s.heap h'->Q () {s with heap:=h',toks:=s.toks+2}):
  wpAny (model prog w) A (setAttr (.ref x) name v) Q E s:=by
 obtain⟨od,J,hl⟩:=I.look;refine PySem.W.set_plain X J hs (PySem.W.osa_open (s:={s with toks:=s.toks+1}) (r:=none) X J hp ht λb=>?_);obtain⟨cd,hc,hd'⟩:=PySem.W.any_some hh;have hx:s.heap.get? x=some ⟨.ref C,some dx,.plain, #[]⟩:=I.obj;refine Aa (Ad (Aa (Aa (wpAny_loadPart hx (Aa (Sf (s:={s with toks:=s.toks+1}) (PySem.W.looks_clsIn X hc) ?_))))));rw [hd'];refine Ad (a:=some dx) (Aa (Ad (Aa ?_)));refine wpAny_nsSet1 (s:={s with toks:=s.toks+1}) I.ns λh' hn2 hs2=>?_;obtain⟨oD,esD,epD,hoD,hdD,hcD⟩:=hn2.count (Ti name v hw);refine Aa (wpAny_lookBehind hoD (by rw [hdD];exact pastItsLine_dict (Co hcD (by rw [Ag];omega))) ?_);exact Ad (h _ ⟨(hs2.2 _ (Di I.ne)).trans I.obj,hn2,I.ne⟩ hs2)
theorem aOk {R:Result->Shared->Prop} {vs:List Value} {kw:List (Str×Value)} (X:K.In s.heap) (hm:Kd K C=true)
  (hi:Dg K (.ref C) "__init__"=some (some (.ref f))) (hf:PySem.W.typeIn K (.ref f)=some (.type "function"))
  (h:codeAny (model prog w) (A.under (.builtin "type.__call__" ⟨.ref C::vs,kw⟩)) (.call (.ref f) ⟨.ref (s.heap.objs.size+1)::vs,kw⟩) (PySem.W.InitBack (s.heap.objs.size+1) R)
   {s with heap:=(s.heap.push Dm).push (Ek C s.heap.objs.size)}):
  codeAny (model prog w) A (.call (.ref C) ⟨vs,kw⟩) R s:=by
 obtain⟨hh,g,d,t,os⟩:=s;exact PySem.W.make_core (PySem.W.makes_of X hm) (PySem.W.looks_findIn X hi) (λself=>PySem.W.bind_fn X self hf) (.inl rfl) h
end
def jT (f:Str) (v:V):List (Str×V)->List (Str×V)
 | []=>[(f,v)]
 |(g,x)::r=>if g=f then(g,v)::r else(g,x)::jT f v r
theorem wX (f g:Str) (v:V):∀fs:List (Str×V),(jT f v fs).lookup g=if g=f then some v else fs.lookup g
 | []=>by
  show Fc g [(f,v)]=_;by_cases h:g=f
  ·have hb:(g==f)=true:=beq_iff_eq.mpr h;simp only [Fc,hb,if_pos h]
  ·have hb:(g==f)=false:=beq_eq_false_iff_ne.mpr h;simp only [Fc,hb,if_neg h]
 |(k,x)::r=>by
  have ih:=wX f g v r;rw [show jT f v ((k,x)::r)=(if k=f then(k,v)::r else(k,x)::jT f v r)from rfl];by_cases hk:k=f
  ·rw [if_pos hk];by_cases h:g=k
   ·have hb:(g==k)=true:=beq_iff_eq.mpr h;simp only [Fc,hb,if_pos (h.trans hk)]
   ·have hb:(g==k)=false:=beq_eq_false_iff_ne.mpr h;simp only [Fc,hb,if_neg (λe:g=f=>h (e.trans hk.symm))]
  ·rw [if_neg hk];by_cases h:g=k
   ·have hb:(g==k)=true:=beq_iff_eq.mpr h;simp only [Fc,hb,if_neg (λe:g=f=>hk (h.symm.trans e))]
   ·have hb:(g==k)=false:=beq_eq_false_iff_ne.mpr h;simp only [Fc,hb];exact ih
theorem vX (f:Str) (v:V):∀fs:List (Str×V),f∈(jT f v fs).map (·.1)/\∀g,g∈fs.map (·.1)->g∈(jT f v fs).map (·.1)
 | []=>⟨by simp [jT],λg h=>by simp at h⟩
 |(k,x)::r=>by
  obtain⟨i1,i2⟩:=vX f v r;rw [show jT f v ((k,x)::r)=(if k=f then(k,v)::r else(k,x)::jT f v r)from rfl];by_cases hk:k=f
  ·rw [if_pos hk];subst hk;exact⟨by simp,λg h=>by simpa using h⟩
  ·rw [if_neg hk];refine⟨?_,λg h=>?_⟩
   ·rw [Aw];exact Ae _ i1
   ·rw [Aw]at h⊢;rcases List.mem_cons.mp h with e|e
    ·exact List.mem_cons.mpr (.inl e)
    ·exact Ae _ (i2 g e)
theorem wZ (f:Str) (v:V):∀fs:List (Str×V),(jT f v fs).length<=fs.length+1
 | []=>by simp [jT]
 |(k,x)::r=>by
  have ih:=wZ f v r;rw [show jT f v ((k,x)::r)=(if k=f then(k,v)::r else(k,x)::jT f v r)from rfl];by_cases hk:k=f
  ·rw [if_pos hk,Ag,Ag];omega
  ·rw [if_neg hk,Ag,Ag];omega
theorem rW.some_of {v:V} {o:Option Value} (r:rW (some v) o):∃u,o=some u/\RelV v u:=by
 cases o with
 |none=>exact(show False from r).elim
 |some u=>exact⟨u,rfl,r⟩
theorem rW.none_of {o:Option Value} (r:rW none o):o=none:=by
 cases o with
 |none=>rfl
 |some u=>exact(show False from r).elim
theorem aJ0 {v:V} {u:Value} (r:RelV v u):Ov u=true:=by
 cases v with
 |non=>cases (show u=Cg from r);rfl
 |bl b=>cases (show u=Fq b from r);rfl
 |int i=>obtain⟨t,e⟩:=(show∃t,u=Dc i t from r);cases e;rfl
 |str x=>obtain⟨t,e⟩:=(show∃t,u=Jq x t from r);cases e;rfl
 |byt b=>obtain⟨t,e⟩:=(show∃t,u=Se b t from r);cases e;rfl
 |flt b=>obtain⟨t,e⟩:=(show∃t,u=Oc b t from r);cases e;rfl
 |ref a=>cases (show u=Au a from r);rfl
 |ty n=>cases (show u=Ht n from r);rfl
section
variable {P:Program} {w:World} {H H':Hp} {h h':Heap} {a C dx:Addr} {fs fs':List (Str×V)}
theorem yG (hok:HOk P w H h) (e:H a=some (.ins C dx fs)):∃mA,aGh h a dx C mA/\(∀f,rW (fs.lookup f) (mA f))/\Ni mA (fs.map (·.1))/\fs.length<=1000/\H dx=some (.own a):=by
 obtain⟨d,z,ne,ob,mA,n,r,q⟩:=(show cT P w H h a (.ins C dx fs)from hok a _ e);exact⟨mA,⟨ob,n,ne⟩,r,q,z,d⟩
end
structure Cls (K:Ac) (C:Addr):Prop where
 pg:Hw K C Str.empty=true
 hd:Js K C=true
 po:Of K C=true
 sa:Dg K (.ref C) "__setattr__"=some (some (.builtin "object.__setattr__"))
theorem Cls.get {K:Ac} {C:Addr} (c:Cls K C) (f:Str):Hw K C f=true:=c.pg
def jY (K:Ac) (C:Addr) (f:Str):Prop:=Dg K (.ref C) f=some none
theorem jY.taker {K:Ac} {C:Addr} {f:Str} (n:jY K C f):Kc K C f=some none:=by
 unfold Kc;rw [show Dg K (.ref C) f=some none from n];rfl
structure Meth (K:Ac) (C:Addr) (m:Str) (f:Addr):Prop where
 at_:Dg K (.ref C) m=some (some (.ref f))
 fn:Mp K (.ref f)=true
 kp:Fj K (.ref f)=true
section
variable {X:Cx} {pins:List (Addr×Obj)} {σ:St} {H:Hp} {s:Shared} {a C dx:Addr} {fs:List (Str×V)} {f:Str} {v:V} {A:Around} {E:Value->Shared->Prop}
theorem aGp {b:Bool} {Q:Value->Shared->Prop} (I:Inv X pins σ H s) (e:H a=some (.ins C dx fs)) (c:Cls X.K C) (n:jY X.K C f) (l:fs.lookup f=some v)
  (h:∀u s',Inv X pins σ H s'->RelV v u->Q u s'):wpAny (model X.prog X.w) A (getAttr (.ref a) f b) Q E s:=by
 obtain⟨mA,O,r,_,_,_⟩:=yG I.hok e;obtain⟨u,hu,ru⟩:=rW.some_of (v:=v) (o:=mA f) (by rw [<-l];exact r f);exact aDm I.kIn O (c.get f) c.hd n hu (aJ0 ru) (h u _ (I.tok _) ru)
theorem aAa {m:Str} {g:Addr} {pl:Sem Bool} {Q:Value×List Value->Shared->Prop} (I:Inv X pins σ H s) (e:H a=some (.ins C dx fs)) (c:Cls X.K C) (k:Meth X.K C m g) (l:fs.lookup m=none)
  (h:Q (.ref g,[.ref a]) s):wpAny (model X.prog X.w) A (getMethod (.ref a) m pl) Q E s:=by
 obtain⟨mA,O,r,_,_,_⟩:=yG I.hok e;have hn:mA m=none:=rW.none_of (by rw [<-l];exact r m);exact aMu I.kIn O (c.get m) k.at_ k.fn hn h
theorem aF8 {y:V} {u:Value} {Q:Unit->Shared->Prop} (I:Inv X pins σ H s) (e:H a=some (.ins C dx fs)) (c:Cls X.K C) (n:jY X.K C f) (hl:fs.length<1000) (ry:RelV y u)
  (h:∀s',Inv X pins σ (upd H a (.ins C dx (jT f y fs))) s'->Q () s'):wpAny (model X.prog X.w) A (setAttr (.ref a) f u) Q E s:=by
 obtain⟨mA,O,r,wi,_,ho⟩:=yG I.hok e;have hz:(fs.map (·.1)).length<=sizeLine:=by rw [Ab,Cr];omega
 refine aQ7 I.kIn O c.sa c.po n.taker c.hd wi hz λh' O' sb=>h _ ?_;have hd:∃o,h'.get? dx=some o:=let⟨o,_,_,e',_⟩:=O'.ns;⟨o,e'⟩;refine I.write (x:=a) (e:=dx) (by rw [e];exact Eh) (.inr ho) (λb q hb z=>(sb.2 b hb).trans z) hd ?_;refine⟨by rw [aP O.ne];exact ho,?_,O.ne,O'.obj,_,O'.ns,λg=>?_,λg hg=>?_⟩
 ·have:=wZ f y fs;omega
 ·show rW ((jT f y fs).lookup g) (if g=f then some u else mA g);rw [wX];by_cases q:g=f
  ·rw [if_pos q,if_pos q];exact ry
  ·rw [if_neg q,if_neg q];exact r g
 ·by_cases q:g=f
  ·rw [q];exact(vX f y fs).1
  ·refine(vX f y fs).2 g (wi g λz=>hg ?_);show(if g=f then some u else mA g)=none;rw [if_neg q];exact z
theorem Inv.made (I:Inv X pins σ H s):Inv X pins σ (upd (upd H s.heap.objs.size (.own (s.heap.objs.size+1))) (s.heap.objs.size+1) (.ins C s.heap.objs.size []))
  {s with heap:=(s.heap.push Dm).push (Ek C s.heap.objs.size)}:=by
 have e1:(s.heap.push Dm).get? s.heap.objs.size=some Dm:=Ar s.heap rfl;have e2:((s.heap.push Dm).push (Ek C s.heap.objs.size)).get? (s.heap.objs.size+1)=some (Ek C s.heap.objs.size):=by
  have:=Ar (s.heap.push Dm) (o:=Ek C s.heap.objs.size) rfl
  rwa [Dj]at this
 have e3:(s.heap.push Dm).Ns s.heap.objs.size (λ_=>none):=⟨Dm, #[],_,e1,rfl,(λe he=>absurd he (by simp)),λ_=>rfl⟩;have I1:=I.laid (a:=s.heap.objs.size) (o:= .own (s.heap.objs.size+1)) (h':=s.heap.push Dm) (t':=s.toks) (λb u q=>Ai _ q) (Am _) ⟨_,e1⟩;refine I1.laid (a:=s.heap.objs.size+1) (o:= .ins C s.heap.objs.size []) (t':=s.toks) (λb u q=>Ai _ q) (Uj (Dj _ _)) ?_;have ne:s.heap.objs.size≠s.heap.objs.size+1:=Ax (Dx _);refine⟨by rw [aP ne,aK],Bb _,ne,e2,λ_=>none,(Heap.Ns1.of_empty e3).at λo q=>Ai _ q,λ_=>Eh,λy hy=>absurd rfl hy⟩
theorem aPx {prog:Program} {w:World} {env:Env} {e:Expr} {f:Str} {pos:Pos} {s:Shared} {Q:Value->Shared->Prop} (hb:attributeBase e f env (eval e env)=eval e env)
  (h:wpAny (model prog w) A (eval e env) (λo s₁=>wpAny (model prog w) A (getAttr o f true) Q E s₁) E s):wpAny (model prog w) A (eval (.Attribute e f pos) env) Q E s:=
 Attribute_any_ h (by rw [arm_eval_Attribute,hb])
end
def aYn (K:Ac) (ta:TE) (f:Str):TE:=λσ H Q=>ta σ H λx H1=>∃a C dx fs v,x= .ref a/\H1 a=some (.ins C dx fs)/\Cls K C/\jY K C f/\fs.lookup f=some v/\Q v H1
def aX9 (K:Ac) (ta tv:TE) (f:Str):TS:=λD σ H=>tv σ H λy H1=>ta σ H1 λx H2=>∃a C dx fs,x= .ref a/\H2 a=some (.ins C dx fs)/\Cls K C/\jY K C f/\fs.length<1000/\
 D.nx σ (upd H2 a (.ins C dx (jT f y fs)))
section
variable {X:Cx} {o e value:Expr} {f:Str} {pos pos' tpos:Pos} {ta tv:TE}
theorem lM (he:PE X e ta) (hb:attributeBase e f X.env (eval e X.env)=eval e X.env):PE X (.Attribute e f pos) (aYn X.K ta f):=by
 intro pins s σ H Q I h;refine aPx hb (thn (he pins s σ H _ I h) λu s1 ⟨x,H1,I1,rx,a,C,dx,fs,v,ex,ea,c,n,l,q⟩=>?_);subst ex;obtain rfl:u=Au a:=rx;exact aGp I1 ea c n l λu' s2 I2 ru=>⟨v,H1,I2,ru,q⟩
theorem dF (ha:PE X o ta) (hv:PE X value tv) (hs:swapsWith value (some (.Attribute o f pos')) pos.line X.env=pure false):PS X (.Assign [.Attribute o f pos'] value pos) (aX9 X.K ta tv f):=by
 intro pins s σ H D I h;refine plainObj_wpAny_Assign_Attribute (thn (hv pins s σ H _ I h) λu s1 ⟨y,H1,I1,ry,q⟩=>thn (ha pins s1 σ H1 _ I1 q) λov s2 ⟨x,H2,I2,rx,a,C,dx,fs,ex,ea,c,n,l,q2⟩=>?_) hs;subst ex;obtain rfl:ov=Au a:=rx;exact aF8 I2 ea c n l ry λs3 I3=>⟨σ,_,I3,q2⟩
end
section
variable {X:Cx} {pins:List (Addr×Obj)} {σ:St} {H:Hp} {s:Shared} {A:Around} {E:Value->Shared->Prop} {Q:Value->Shared->Prop} {c:Value} {b:Bool}
inductive uQ (K:Ac) (H:Hp):V->Value->Prop where
 |non:uQ K H .non (.type "NoneType")
 |bl (x:Bool):uQ K H (.bl x) (.type "bool")
 |int (i:Int):uQ K H (.int i) (.type "int")
 |str (x:Str):uQ K H (.str x) (.type "str")
 |flt (x:UInt64):uQ K H (.flt x) (.type "float")
 |lst {a:Addr} {xs:List V} (e:H a=some (.lst xs)):uQ K H (.ref a) (.type "list")
 |frz {a:Addr} {o:Obj} {xs:List V} (e:H a=some (.frz o (.lst xs))):uQ K H (.ref a) (.type "list")
 |tup {a:Addr} {xs:List V} (e:H a=some (.tup xs)):uQ K H (.ref a) (.type "tuple")
 |dK {a:Addr} {kvs:List (Key×V)} (e:H a=some (.dK kvs)):uQ K H (.ref a) (.type "dict")
 |dT {a:Addr} {kvs:List (List Key×V)} (e:H a=some (.dT kvs)):uQ K H (.ref a) (.type "dict")
 |ins {a C dx:Addr} {fs:List (Str×V)} (e:H a=some (.ins C dx fs)) (cl:Cls K C) (ha:Dg K (.ref C) "__class__"=some (some (.builtin "object.__class__")))
   (hn:PySem.W.specialIn K (.builtin "object.__class__") "__get__"=some (some (.builtin "getset_descriptor.__get__"))) (htk:PySem.W.takesIn K (.builtin "object.__class__")=some true)
   (hm:PySem.W.mroIn K C (.type "object")=some true):uQ K H (.ref a) (.ref C)
theorem aJg {x:V} {u t:Value} (I:Inv X pins σ H s) (rx:RelV x u) (ty:uQ X.K H x t) (e:Kv X.K t c=some b) (h:∀tk,Q (.bool b) {s with toks:=tk}):
  wpAny (model X.prog X.w) A (call (.builtin "isinstance") [u,c]) Q E s:=by
 cases ty with
 |non=>cases (show u=Cg from rx);exact Dh PySem.W.kitx_none I.kIn Eh e (λz=>nomatch z) h
 |bl y=>cases (show u=Fq y from rx);exact Dh PySem.W.kitx_bool I.kIn Eh e (λz=>nomatch z) h
 |int i=>obtain⟨t,q⟩:=(show∃t,u=Dc i t from rx);cases q;exact Dh PySem.W.kitx_int I.kIn Eh e (λz=>nomatch z) h
 |str y=>obtain⟨t,q⟩:=(show∃t,u=Jq y t from rx);cases q;exact Dh PySem.W.kitx_str I.kIn Eh e (λz=>nomatch z) h
 |flt y=>obtain⟨t,q⟩:=(show∃t,u=Oc y t from rx);cases q;exact Dh PySem.W.kitx_float I.kIn Eh e (λz=>nomatch z) h
 |@lst a xs ea=>
  cases (show u=Au a from rx);obtain⟨_,_,n,_,h1⟩:=(show cT X.prog X.w H s.heap a (.lst xs)from I.hok a _ ea);exact Dh Og I.kIn ⟨_,h1,rfl⟩ e (λz=>nomatch z) h
 |@frz a ob xs ea=>
  cases (show u=Au a from rx);obtain⟨_,_,_,n,_,h1⟩:=(show cT X.prog X.w H s.heap a (.frz ob (.lst xs))from I.hok a _ ea);exact Dh Og I.kIn ⟨_,h1,rfl⟩ e (λz=>nomatch z) h
 |@tup a xs ea=>
  cases (show u=Au a from rx);obtain⟨_,_,_,p⟩:=(show cT X.prog X.w H s.heap a (.tup xs)from I.hok a _ ea);obtain⟨o,h1,h2,_⟩:=p;exact Dh PySem.W.kitx_tuple I.kIn ⟨o,h1,h2⟩ e (λz=>nomatch z) h
 |@dK a kvs ea=>
  cases (show u=Au a from rx);obtain⟨_,_,vs,_,p⟩:=(show cT X.prog X.w H s.heap a (.dK kvs)from I.hok a _ ea);obtain⟨o,es,ep,h1,h2,_⟩:=p;exact Dh Oh I.kIn ⟨o,h1,h2.1⟩ e (λz=>nomatch z) h
 |@dT a kvs ea=>
  cases (show u=Au a from rx);obtain⟨_,_,xs,_,o,es,ep,h1,h2,_⟩:=(show cT X.prog X.w H s.heap a (.dT kvs)from I.hok a _ ea);exact Dh Oh I.kIn ⟨o,h1,h2.1⟩ e (λz=>nomatch z) h
 |@ins a C dx fs ea cl ha hn htk hm=>
  cases (show u=Au a from rx);obtain⟨mA,O,_⟩:=yG I.hok ea;obtain⟨od,J,_⟩:=O.look;exact Dh (PySem.W.kitx_own (cl.get _) cl.hd ha hn htk hm) I.kIn J e (λz=>nomatch z) h
end
end L2
namespace L2
open PySem PySem.Spec PyProof.Rows
structure dN (k:Nat) (A:Around):Prop where
 hd:A.handled=none
 dp:A.depth+3*k+5<recursionLimit
 un:A.units+16*k+200<cLine
theorem dN.mono {j k:Nat} {A:Around} (r:dN k A) (h:j<=k):dN j A:=⟨r.hd,by have:=r.dp;omega,by have:=r.un;omega⟩
theorem dN.deeper {k:Nat} {A:Around} (r:dN (k+1) A) (env:Env):dN k (A.deeper env):=
 ⟨r.hd,by have:=r.dp;show A.depth+1+3*k+5<_;omega,by have:=r.un;show A.units+3+16*k+200<_;omega⟩
theorem aG1 {A:Around} {C:Addr} {us:List Value} {kw:List (Str×Value)}:(A.under (.builtin "type.__call__" ⟨.ref C::us,kw⟩)).depth=A.depth+1:=by
 first|rfl|simp [Mz,Code.weight,Code.isCreation,Code.isGuard,Code.isCaller,Uq,Nt,guardIds]
theorem aF1 {A:Around} {C:Addr} {us:List Value} {kw:List (Str×Value)}:(A.under (.builtin "type.__call__" ⟨.ref C::us,kw⟩)).units=A.units+1:=by
 first|rfl|simp [Mz,Code.cUnits,Uq,Nt]
theorem dN.make {k:Nat} {A:Around} (r:dN (k+1) A) (C:Addr) (us:List Value) (kw:List (Str×Value)):dN k (A.under (.builtin "type.__call__" ⟨.ref C::us,kw⟩)):=
 ⟨r.hd,by have:=r.dp;rw [aG1];omega,by have:=r.un;rw [aF1];omega⟩
theorem dN.depth {k:Nat} {A:Around} (r:dN k A):A.depth<recursionLimit:=by have:=r.dp;omega
theorem dN.units {k:Nat} {A:Around} (r:dN k A):A.units+64<cLine:=by have:=r.un;omega
def aQh:TA:=λ_ H Q=>Q [] H
def aNi (ta:TE) (tr:TA):TA:=λσ H Q=>ta σ H λx H1=>tr σ H1 λxs H2=>Q (x::xs) H2
section
variable {X:Cx} {e:Expr} {es:List Expr} {te:TE} {t:TA} {pos:Pos}
theorem aZ:PA X [] aQh:=λ_ _ _ _ H Q I h=>Calls.spliced_nil ⟨[],H,I,.nil,h⟩
theorem aM (ha:PE X e te) (hr:PA X es t) (hs:starEach (e::es) X.env=(false,eval e X.env)::starEach es X.env:=by rfl):PA X (e::es) (aNi te t):=by
 intro pos pins s σ H Q I h;rw [hs];show wpAny _ _ (spliced ((false,eval e X.env)::backTo pos (starEach es X.env))) _ _ s;refine Calls.spliced_cons (thn (ha pins s σ H _ I h) λu s1 ⟨x,H1,I1,r1,q1⟩=>?_);exact thn (hr pos pins s1 σ H1 _ I1 q1) λus s2 ⟨xs,H2,I2,r2,q2⟩=>⟨x::xs,H2,I2,.cons r1 r2,q2⟩
def aY6 (t:TA):TE:=λσ H Q=>t σ H λxs H1=>xs.length<=sizeLine/\∀p,H1 p=none->Q (.ref p) (upd H1 p (.tup xs))
def aYk (t:TA):TE:=λσ H Q=>t σ H λxs H1=>xs.length<=sizeLine/\∀p,H1 p=none->Q (.ref p) (upd H1 p (.lst xs))
theorem aTg {x1} (h:PA X es t):PE X (.Tuple es x1 pos) (aY6 t):=by
 intro pins s σ H Q I hq;refine wpAny_Tuple_spliced (thn (h pos pins s σ H _ I hq) λus s1 ⟨xs,H1,I1,r,z,q⟩=>⟨by rw [<-r.length];exact z,?_⟩);have hf:H1 s1.heap.objs.size=none:=I1.hok.fresh (Am _);refine⟨.ref s1.heap.objs.size,upd H1 s1.heap.objs.size (.tup xs),I1.laid (t':=s1.toks) (λb u e=>Ai _ e) (Am _) ?_,rfl,q _ hf⟩;exact⟨z,us,r,⟨_,Ar _ rfl,rfl,_,rfl⟩⟩
theorem aMz (h:PA X es t):PE X (.List es pos) (aYk t):=by
 intro pins s σ H Q I hq;refine wpAny_List_spliced (thn (h pos pins s σ H _ I hq) λus s1 ⟨xs,H1,I1,r,z,q⟩=>⟨by rw [<-r.length];exact z,?_⟩);have hf:H1 s1.heap.objs.size=none:=I1.hok.fresh (Am _);refine⟨.ref s1.heap.objs.size,upd H1 s1.heap.objs.size (.lst xs),I1.laid (t':=s1.toks) (λb u e=>Ai _ e) (Am _) ?_,rfl,q _ hf⟩;exact⟨z,us,0,r,Ar _ rfl⟩
end
abbrev Sp:=List V->Hp->VK->XK->Prop
abbrev CXT:=List Env->Hp->Shared->XK->Value->Shared->Prop
structure aFz (P:Program) (w:World) (K:Ac) (mg:Str->Option Value) (base:Heap) (A:Around) (outer:List Env) (s:Shared) (H:Hp):Prop where
 frames:A.frames=some outer
 mod:Mod K mg base
 bs:∀b o,base.get? b=some o->s.heap.get? b=some o/\H b=none
 bsz:base.objs.size<=s.heap.objs.size
 funs:s.heap.FunFrames base outer
 frf:∀b∈frs outer,H b=none
 hok:HOk P w H s.heap
 bare:AllBare s.gens
def CE (outer:List Env) (P:Program) (w:World) (H:Hp) (s:Shared) (Q:VK) (u:Value) (s':Shared):Prop:=
 ∃v H',s'.os=s.os/\AllBare s'.gens/\Un (frs outer) [] H H' s.heap s'.heap/\HOk P w H' s'.heap/\RelV v u/\Q v H'
def CR (CX:CXT) (outer:List Env) (P:Program) (w:World) (H:Hp) (s:Shared) (Q:VK) (E:XK) (r:Result) (s':Shared):Prop:=
 match r with
 | .ok (.ret u)=>CE outer P w H s Q u s'
 | .ok _=>False
 | .error e=>CX outer H s E e s'
structure bB (P:Program) (w:World) (K:Ac) (mg:Str->Option Value) (base:Heap) (CX:CXT) (k:Nat) (f:Addr) (fd:FuncData) (ps:List Str) (sp:Sp):Prop where
 len:∀vs H Q E,sp vs H Q E->vs.length=ps.length
 run:∀(A:Around) (outer:List Env) (s:Shared) (H:Hp) (args:Args) (us:List Value) (vs:List V) (Q:VK) (E:XK),dN k A->aFz P w K mg base A outer s H->BindsTo s fd args (ps.zip us)->Vals vs us->sp vs H Q E->
  codeAny (model P w) A (.call (.ref f) args) (CR CX outer P w H s Q E) s
theorem bB.mono {P:Program} {w:World} {K:Ac} {mg:Str->Option Value} {base:Heap} {CX:CXT} {j k:Nat} {f:Addr} {fd:FuncData} {ps:List Str} {sp:Sp} (F:bB P w K mg base CX j f fd ps sp) (h:j<=k):
  bB P w K mg base CX k f fd ps sp:=⟨F.len,λA outer s H args us vs Q E hr=>F.run A outer s H args us vs Q E (hr.mono h)⟩
theorem bB.imp {P:Program} {w:World} {K:Ac} {mg:Str->Option Value} {base:Heap} {CX:CXT} {k:Nat} {f:Addr} {fd:FuncData} {ps:List Str} {sp sp':Sp} (F:bB P w K mg base CX k f fd ps sp)
  (h:∀vs H Q E,sp' vs H Q E->sp vs H Q E):bB P w K mg base CX k f fd ps sp':=
 ⟨λvs H Q E q=>F.len vs H Q E (h _ _ _ _ q),λA outer s H args us vs Q E hr he hb hv hs=>F.run A outer s H args us vs Q E hr he hb hv (h _ _ _ _ hs)⟩
theorem aFz.make {P:Program} {w:World} {K:Ac} {mg:Str->Option Value} {base:Heap} {A:Around} {outer:List Env} {s:Shared} {H:Hp} (e:aFz P w K mg base A outer s H) (C:Addr) (us:List Value) (kw:List (Str×Value)):
  aFz P w K mg base (A.under (.builtin "type.__call__" ⟨.ref C::us,kw⟩)) outer s H:=⟨by first|exact e.frames|(simpa [Mz,Code.envs,Nt,pushEnvs]using e.frames),e.mod,e.bs,e.bsz,e.funs,e.frf,e.hok,e.bare⟩
section
variable {X:Cx} {pins:List (Addr×Obj)} {σ:St} {H:Hp} {s s':Shared}
theorem Inv.env0 (I:Inv X pins σ H s):aFz X.prog X.w X.K X.mg X.base X.A X.stack s H:=
 ⟨I.ok.frames,I.ok.mod,I.bs,Co I.ok.bsz I.sz,I.stack,I.stkFree,I.hok,I.bare⟩
theorem Inv.after {Q:VK} {u:Value} (I:Inv X pins σ H s) (h:CE X.stack X.prog X.w H s Q u s'):EP X pins σ Q u s':=by
 obtain⟨v,H',os,bare,un,hok,r,q⟩:=h;obtain⟨hh,g,d,t,os'⟩:=s';obtain rfl:os'=s.os:=os;exact⟨v,H',I.call (h':=hh) (g':=g) (d':=d) (t':=t) (ch:=[]) un hok bare (λb z=>absurd z (by simp)),r,q⟩
end
def aSd (sp:Sp) (dvs:List V) (E:XK) (t:TA):TE:=λσ H Q=>t σ H λvs H1=>sp (vs++dvs) H1 Q E
def aRf (C:Addr) (sp:Sp) (dvs:List V) (E:XK) (t:TA):TE:=λσ H Q=>t σ H λvs H1=>∀x dx,H1 x=none->H1 dx=none->dx≠x->
 sp (.ref x::(vs++dvs)) (upd (upd H1 dx (.own x)) x (.ins C dx [])) (λv H2=>v= .non/\Q (.ref x) H2) E
def Binds (K:Ac) (fd:FuncData) (ps:List Str) (ds:List Value):Prop:=
 ∀(s:Shared) (us:List Value),K.In s.heap->(us++ds).length=ps.length->BindsTo s fd ⟨us,[]⟩ (ps.zip (us++ds))
theorem Binds.all {K:Ac} {fd:FuncData} {ps:List Str} (h:∀us:List Value,us.length=ps.length->bindArgs fd ⟨us,[]⟩=pure (ps.zip us)):Binds K fd ps []:=λs us _ hl=>by
 rw [Bo]at hl⊢;exact .of_eq (h us hl)
def pN (CX:CXT) (X:Cx) (E:XK):Prop:=∀(pins:List (Addr×Obj)) (σ:St) (H:Hp) (s:Shared) (e:Value) (s':Shared),Inv X pins σ H s->CX X.stack H s E e s'->X.xe e s'
section
variable {X:Cx} {CX:CXT} {k:Nat} {f C:Addr} {fd:FuncData} {ps:List Str} {sp:Sp} {dvs:List V} {ds:List Value} {E:XK} {x m:Str} {p pos apos:Pos} {e o:Expr} {es:List Expr} {ta:TE} {t:TA}
theorem aGf {pins:List (Addr×Obj)} {σ:St} {H:Hp} {s:Shared} {Q:VK} {us:List Value} {vs:List V} (F:bB X.prog X.w X.K X.mg X.base CX k f fd ps sp) (hr:dN k X.A) (hb:Binds X.K fd ps ds) (hd:Vals dvs ds) (hx:pN CX X E)
  (I:Inv X pins σ H s) (r:Vals vs us) (h:sp (vs++dvs) H Q E):wpAny (model X.prog X.w) X.A (call (.ref f) us) (EP X pins σ Q) X.xe s:=by
 have r2:Vals (vs++dvs) (us++ds):=r.append hd;have hl:(us++ds).length=ps.length:=by rw [<-r2.length];exact F.len _ _ _ _ h
 refine Os (Hb (F.run X.A X.stack s H ⟨us,[]⟩ (us++ds) (vs++dvs) Q E hr I.env0 (hb s us I.kIn hl) r2 h) λr s' hq=>?_);cases r with
 |error e=>exact hx pins σ H s e s' I hq
 |ok fl=>
  cases fl with
  |ret u=>exact I.after hq
  |next=>exact El hq
  |brk=>exact El hq
  |cont=>exact El hq
theorem aQb (F:bB X.prog X.w X.K X.mg X.base CX k f fd ps sp) (hr:dN k X.A) (hg:Gl X x) (hm:X.mg x=some (.ref f)) (hk:Fj X.K (.ref f)=true) (hb:Binds X.K fd ps ds) (hd:Vals dvs ds) (hx:pN CX X E)
  (ha:PA X (e::es) t) (hdb:(x==("__debug__":Str))=false:=by decide) (he:starEach (e::es) X.env=(false,eval e X.env)::starEach es X.env:=by rfl) (hpl:(backTo pos (starEach es X.env)).any (·.1)=false:=by rfl):
  PE X (.Call (.Name x p) (e::es) [] pos) (aSd sp dvs E t):=by
 intro pins s σ H Q I h;refine Gm (aC5 I hg hm ?_ hdb);refine Jh (h₀:=X.base) I.ok.mod.kin hk (thn (ha pos pins s σ H _ I h) λus s1 ⟨vs,H1,I1,r,q⟩=>⟨I1.kIn,?_⟩) he hpl;exact aGf F hr hb hd hx I1 r q
structure Mk (K:Ac) (C f:Addr):Prop where
 makes:Kd K C=true
 init:Dg K (.ref C) "__init__"=some (some (.ref f))
 fn:Mp K (.ref f)=true
 kp:Fj K (.ref C)=true
theorem aO8 {pins:List (Addr×Obj)} {σ:St} {H:Hp} {s:Shared} {Q:VK} {us:List Value} {vs:List V} (M:Mk X.K C f) (F:bB X.prog X.w X.K X.mg X.base CX k f fd ps sp) (hr:dN (k+1) X.A) (hb:Binds X.K fd ps ds) (hd:Vals dvs ds)
  (hx:pN CX X E) (I:Inv X pins σ H s) (r:Vals vs us)
  (h:∀x dx,H x=none->H dx=none->dx≠x->sp (.ref x::(vs++dvs)) (upd (upd H dx (.own x)) x (.ins C dx [])) (λv H2=>v= .non/\Q (.ref x) H2) E):
  wpAny (model X.prog X.w) X.A (call (.ref C) us) (EP X pins σ Q) X.xe s:=by
 have hq:=h (s.heap.objs.size+1) s.heap.objs.size (I.hok.fresh (Fu _)) (I.hok.fresh (Am _)) (Ax (Dx _));have I2:=Inv.made (C:=C) I;have r2:Vals (V.ref (s.heap.objs.size+1)::(vs++dvs)) (Au (s.heap.objs.size+1)::(us++ds)):= .cons rfl (r.append hd);have hl:(Au (s.heap.objs.size+1)::us++ds).length=ps.length:=by
  have e:=r2.length;rw [F.len _ _ _ _ hq]at e;exact e.symm
 refine Os (aOk (f:=f) I.kIn M.makes M.init (beq_iff_eq.mp M.fn) (Hb (F.run _ X.stack _ _ ⟨Au (s.heap.objs.size+1)::us,[]⟩ (Au (s.heap.objs.size+1)::(us++ds)) _ _ E (hr.make C us [])
  (I2.env0.make C us []) (hb _ (Au (s.heap.objs.size+1)::us) I2.kIn hl) r2 hq) λr s' hq'=>?_))
 cases r with
 |error e=>exact hx pins σ _ _ e s' I2 hq'
 |ok fl=>
  cases fl with
  |ret u=>
   obtain⟨v,H',I3,rv,ev,q3⟩:=I2.after hq';subst ev;exact⟨rv,⟨V.ref (s.heap.objs.size+1),H',I3,rfl,q3⟩⟩
  |next=>exact El hq'
  |brk=>exact El hq'
  |cont=>exact El hq'
theorem aHx (M:Mk X.K C f) (F:bB X.prog X.w X.K X.mg X.base CX k f fd ps sp) (hr:dN (k+1) X.A) (hg:Gl X x) (hm:X.mg x=some (.ref C)) (hb:Binds X.K fd ps ds) (hd:Vals dvs ds) (hx:pN CX X E)
  (ha:PA X (e::es) t) (hdb:(x==("__debug__":Str))=false:=by decide) (he:starEach (e::es) X.env=(false,eval e X.env)::starEach es X.env:=by rfl) (hpl:(backTo pos (starEach es X.env)).any (·.1)=false:=by rfl):
  PE X (.Call (.Name x p) (e::es) [] pos) (aRf C sp dvs E t):=by
 intro pins s σ H Q I h;refine Gm (aC5 I hg hm ?_ hdb);refine Jh (h₀:=X.base) I.ok.mod.kin M.kp (thn (ha pos pins s σ H _ I h) λus s1 ⟨vs,H1,I1,r,q⟩=>⟨I1.kIn,?_⟩) he hpl;exact aO8 M F hr hb hd hx I1 r q
end
def PK (X:Cx) (kws:List Keyword) (t:TA):Prop:=
 ∀(pos:Pos) (pins:List (Addr×Obj)) (s:Shared) (σ:St) (H:Hp) (Q:List V->Hp->Prop),Inv X pins σ H s->t σ H Q->wpAny (model X.prog X.w) X.A (evalAll ((backToKw pos (keywordEach kws X.env)).map (·.2))) (AP X pins σ Q) X.xe s
section
variable {X:Cx} {CX:CXT} {k:Nat} {f C:Addr} {fd:FuncData} {ps ks:List Str} {sp:Sp} {E:XK} {x m:Str} {p pos apos kpos:Pos} {e o:Expr} {es:List Expr} {kws:List Keyword} {te ta:TE} {t tk:TA} {nm:Option Str}
theorem aUj:PK X [] aQh:=λ_ _ _ _ H Q I h=>wpAny_evalAll_nil ⟨[],H,I,.nil,h⟩
theorem aPo (ha:PE X e te) (hr:PK X kws t):PK X (⟨nm,e,kpos⟩::kws) (aNi te t):=by
 intro pos pins s σ H Q I h;show wpAny _ _ (evalAll ((do let v<-eval e X.env;standAt pos;pure v)::(backToKw pos (keywordEach kws X.env)).map (·.2))) _ _ s;refine wpAny_evalAll_cons (Aa (thn (ha pins s σ H _ I h) λu s1 ⟨x,H1,I1,r1,q1⟩=>Aa (Iy (Ad ?_))));exact thn (hr pos pins s1 σ H1 _ I1 q1) λus s2 ⟨xs,H2,I2,r2,q2⟩=>⟨x::xs,H2,I2,.cons r1 r2,q2⟩
variable {g:List Value->List Value->List Value} {gV:List V->List V->List V}
end
structure aL (N P:List Str) (sc:Scope):Prop where
 kind:sc.kind= .function
 co:sc.isCoroutine=false
 gen:sc.isGenerator=false
 nd:N.Nodup
 pre:N.take P.length=P
 par:∀x∈P,sc.names.lookup x=some .local∨sc.names.lookup x=some .cell
 nofree:∀y∈sc.names,y.2≠ .free
theorem aBb {kindOf:Str->Option NameKind} {x:Str}:∀{binds:List (Str×Value)} {m:Str->Option Value},(∀v,(x,v)∉binds)->bindL kindOf binds m x=m x
 | [],_,_=>rfl
 |(n,v)::r,m,h=>by
  unfold bindL;rw [aBb λw hw=>h w (Ae _ hw)];split
  ·have:x≠n:=by rintro rfl;exact h v Af
   simp [this]
  ·rfl
theorem aA8 {kindOf:Str->Option NameKind} {x:Str}:∀{binds:List (Str×Value)} {m:Str->Option Value},(∀v,(x,v)∉binds)->bindC kindOf binds m x=m x
 | [],_,_=>rfl
 |(n,v)::r,m,h=>by
  unfold bindC;rw [aA8 λw hw=>h w (Ae _ hw)];split
  ·rfl
  ·have:x≠n:=by rintro rfl;exact h v Af
   simp [this]
theorem aB5 {kindOf:Str->Option NameKind} {x:Str} {v:Value}:∀{P:List Str} {vs:List Value} {i:Nat} {m:Str->Option Value},P.Nodup->P[i]? =some x->vs[i]? =some v->kindOf x=some .local->
  bindL kindOf (P.zip vs) m x=some v
 | [],_,_,_,_,h,_,_=>by simp at h
 |_::_,[],_,_,_,_,h,_=>by simp at h
 |p::P,w::vs,0,m,nd,h1,h2,hk=>by
  simp at h1 h2;subst h1;subst h2;show bindL kindOf ((p,w)::P.zip vs) m p=_;unfold bindL;rw [aBb λv hv=>(List.nodup_cons.mp nd).1 (Hg hv).1,if_pos hk];simp
 |p::P,w::vs,i+1,m,nd,h1,h2,hk=>by
  show bindL kindOf ((p,w)::P.zip vs) m x=_;unfold bindL;exact aB5 (i:=i) (List.nodup_cons.mp nd).2 (by simpa using h1) (by simpa using h2) hk
theorem aBu {kindOf:Str->Option NameKind} {x:Str} {v:Value}:∀{P:List Str} {vs:List Value} {i:Nat} {m:Str->Option Value},P.Nodup->P[i]? =some x->vs[i]? =some v->kindOf x≠some .local->
  bindC kindOf (P.zip vs) m x=some v
 | [],_,_,_,_,h,_,_=>by simp at h
 |_::_,[],_,_,_,_,h,_=>by simp at h
 |p::P,w::vs,0,m,nd,h1,h2,hk=>by
  simp at h1 h2;subst h1;subst h2;show bindC kindOf ((p,w)::P.zip vs) m p=_;unfold bindC;rw [aA8 λv hv=>(List.nodup_cons.mp nd).1 (Hg hv).1,if_neg hk];simp
 |p::P,w::vs,i+1,m,nd,h1,h2,hk=>by
  show bindC kindOf ((p,w)::P.zip vs) m x=_;unfold bindC;exact aBu (i:=i) (List.nodup_cons.mp nd).2 (by simpa using h1) (by simpa using h2) hk
def start (N:List Str) (vs:List V):St:=vs.map some++Jj (N.length-vs.length) none
def aEp (CX:CXT) (P:Program) (w:World) (K:Ac) (mg:Str->Option Value) (base:Heap) (N:List Str) (qual:Str) (scope:Scope) (f:Addr) (cd:Value) (A:Around) (outer:List Env) (s:Shared) (H:Hp) (E:XK):Cx where
 prog:=P
 w:=w
 K:=K
 mg:=mg
 base:=base
 A:=A.deeper (envOfC qual scope s.heap.objs.size f cd)
 N:=N
 s₀:=s
 H₀:=H
 env:=envOfC qual scope s.heap.objs.size f cd
 outer:=outer
 stack:=envOfC qual scope s.heap.objs.size f cd::outer
 ex:=[]
 calm:=true
 fn:=λ_=>true
 pn:=[]
 xe:=λe s'=>wpAny (model P w) (A.deeper (envOfC qual scope s.heap.objs.size f cd)) (leaving (envOfC qual scope s.heap.objs.size f cd) e) (λ_ s''=>CX outer H s E e s'') (λe' s''=>CX outer H s E e' s'') s'
theorem bQ {sc:Scope} {n:Nat} {x:Str} (h:sc.names.lookup x=some .cell):∃c,(cellsFrom n sc.names []).lookup x=some c:=by
 have q:=Mb sc.names n [] (.inl h);exact Option.isSome_iff_exists.mp q
theorem aJ1 {CX:CXT} {P:Program} {w:World} {K:Ac} {mg:Str->Option Value} {base:Heap} {N ps:List Str} {qual:Str} {scope:Scope} {f:Addr} {cd:Value} {A:Around} {outer:List Env} {s s1:Shared} {H:Hp} {E:XK} {us:List Value} {vs:List V}
  (S:aL N ps scope) (hd:A.handled=none) (e0:aFz P w K mg base A outer s H) (hl:vs.length=ps.length) (r:Vals vs us)
  (x:InCallC s s.heap.objs.size (bindL (envOfC qual scope s.heap.objs.size f cd).kindOf (ps.zip us) λ_=>none) (cellsFrom (s.heap.objs.size+1) scope.names []) (bindC (envOfC qual scope s.heap.objs.size f cd).kindOf (ps.zip us) λ_=>none) s1):
  Inv (aEp CX P w K mg base N qual scope f cd A outer s H E) [] (start N vs) H s1:=by
 have hpl:ps.length<=N.length:=by have:=congrArg Cd S.pre;rw [Ce]at this;omega
 obtain⟨h1,tk,rfl,hk⟩:=x.done;have noA:∀b:Addr,b∉(aEp CX P w K mg base N qual scope f cd A outer s H E).ex:=λb z=>absurd (show b∈([]:List Addr)from z) (by simp);refine⟨⟨e0.mod,S.kind,rfl,rfl,Am _,λy z c h1 h2=>?_,λy hy=>?_,λy c _ h=>?_,λ_=>hd,Around.frames_deeper e0.frames,.inr ⟨rfl,rfl⟩,λb z=>absurd z (noA b),e0.bs,e0.bsz,λb _ _=>noA b,λb z=>absurd z (noA b),e0.funs,e0.frf⟩,
  rfl,e0.bare,Un.kept hk,⟨_,x.toInCall.ns,λi y v h1 h2 h3=>?_⟩,λy c h=>⟨_,x.cell y c h⟩,e0.hok.fresh (Am _),λy c h=>?_,λp hp=>absurd (show p∈([]:List (Addr×Obj))from hp) (by simp),e0.hok.kept hk,?_⟩
 ·exact name_of_addr x.apart (Cz h1) (Cz h2)
 ·have hy:scope.names.lookup y=some .cell∨scope.names.lookup y=some .free:=hy;rcases hy with hy|hy
  ·exact bQ hy
  ·exact absurd rfl (S.nofree _ (Cz hy))
 ·exact Es (x.above y c (Cz h))
 ·have hi:i<vs.length:=by
   unfold start at h2;by_cases hi:i<vs.length
   ·exact hi
   ·rw [Cu (by simpa using hi)]at h2;rw [Dy]at h2;split at h2<;>cases h2
  have ha:vs[i]? =some v:=by
   unfold start at h2;rw [Dq (by simpa using hi),Ay]at h2;cases e:vs[i]? with
   |none=>rw [e]at h2;cases h2
   |some a=>rw [e]at h2;cases h2;rfl
  obtain⟨u,hu,rv⟩:=r.get ha;have hp:ps[i]? =some y:=by
   rw [<-S.pre,Mr (by omega)];exact h1
  have ndP:ps.Nodup:=by rw [<-S.pre];exact S.nd.sublist (Pt _ _)
  refine⟨u,rv,?_⟩;rcases S.par y (Bt hp)with k|k
  ·exact .inl ⟨k,aB5 ndP hp hu k⟩
  ·obtain⟨c,e⟩:=bQ (n:=s.heap.objs.size+1) k;refine .inr ⟨.inl k,c,e,?_⟩;have q:=x.cell y c e;rw [aBu ndP hp hu (by show scope.names.lookup y≠_;rw [k];decide)]at q;exact q
 ·exact e0.hok.fresh (Es (x.above y c (Cz h)))
 ·unfold start;show _=N.length;rw [Ah,Ab,Ej];omega
theorem aVg {CX:CXT} {P:Program} {w:World} {K:Ac} {mg:Str->Option Value} {base:Heap} {k:Nat} {f:Addr} {name qual:Str} {params:Arguments} {body:List Stmt} {scope:Scope} {dV kV doc pm cdv ct oc:Value} {an od:Option Addr}
  {osl:Array (Option Value)} {N ps:List Str} {sp:Sp} (lk:K.lookup f=some ⟨oc,od,.func (Eg name qual params body scope dV kV doc pm an cdv ct),osl⟩) (hcd:Kw K cdv qual=true) (S:aL N ps scope)
  (len:∀vs H Q E,sp vs H Q E->vs.length=ps.length)
  (hbody:∀(A:Around) (outer:List Env) (s:Shared) (H:Hp) (vs:List V) (Q:VK) (E:XK),dN k (A.deeper (envOfC qual scope s.heap.objs.size f cdv))->sp vs H Q E->
   ∃t,PSs (aEp CX P w K mg base N qual scope f cdv A outer s H E) body t/\t {nx:=λ_ H'=>Q .non H',rt:=Q} (start N vs) H):
  bB P w K mg base CX (k+1) f (Eg name qual params body scope dV kV doc pm an cdv ct) ps sp:=by
 refine⟨len,λA outer s H args us vs Q E hr e0 hb r hsp=>?_⟩;have hl:=len _ _ _ _ hsp;have KX:K.In s.heap:=e0.mod.kin.keeps λb o e=>(e0.bs b o e).1;have lim:s.heap.NoLimit:=e0.mod.nolimit.keeps λb o e=>(e0.bs b o e).1;have hkind:∀y∈ps.zip us,scope.names.lookup y.1=some .local∨(scope.names.lookup y.1=some .cell/\((cellsFrom (s.heap.objs.size+1) scope.names []).lookup y.1).isSome=true):=λ⟨n,v⟩ hy=>by
  rcases S.par n (Hg hy).1 with q|q
  ·exact .inl q
  ·exact .inr ⟨q,Mb _ _ _ (.inl q)⟩
 refine codeAny_call_function hr.depth (KX _ _ lk) rfl S.co S.gen rfl (PySem.W.codeRec_of KX hcd) (hb _ _ _ _ ?_);refine wpAny_newFunctionEnv_cells S.kind hkind λenv he s1 x=>?_;subst he;refine⟨lim.keeps x.toInCall.keep,codeAny_func ?_⟩;obtain⟨t,ht,hq⟩:=hbody A outer s H vs Q E (hr.deeper _) hsp;have I:Inv (aEp CX P w K mg base N qual scope f cdv A outer s H E) [] (start N vs) H s1:=aJ1 S hr.hd e0 hl r x;refine Cq (ht [] s1 (start N vs) H _ I hq) (λfl s' hs=>?_) λe s' hs=>hs;have fin:∀{σ':St} {H':Hp} {v:V} {u:Value},Inv (aEp CX P w K mg base N qual scope f cdv A outer s H E) [] σ' H' s'->RelV v u->Q v H'->CE outer P w H s Q u s':=
  λ{σ' H' v u} J rv q=>⟨v,H',J.os,J.bare,J.base,J.hok,rv,q⟩
 cases fl with
 |ret u=>
  obtain⟨v,σ',H',J,rv,q⟩:=hs;exact fin J rv q
 |next=>
  obtain⟨σ',H',J,q⟩:=hs;exact fin (v:=V.non) (u:=Cg) J rfl q
 |brk=>
  obtain⟨_,_,_,q⟩:=hs;exact El q
 |cont=>
  obtain⟨_,_,_,q⟩:=hs;exact El q
end L2
namespace L2
open PySem PySem.Spec PyProof.Rows
section
variable {X:Cx} {x:Str} {p pos:Pos} {e:Expr} {es:List Expr} {t:TA} {id T:String} {r:List V->Hp->VK->Prop}
def tCB (r:List V->Hp->VK->Prop) (t:TA):TE:=λσ H Q=>t σ H λvs H1=>r vs H1 Q
theorem gM (hc:eV X (.builtin id) r) (hg:Gl X x) (hm:X.mg x=none) (hv:bootBuiltins x=some (.builtin id)) (ha:PA X (e::es) t) (hn:x≠"__name__":=by decide) (hdb:(x==("__debug__":Str))=false:=by decide)
  (he:starEach (e::es) X.env=(false,eval e X.env)::starEach es X.env:=by rfl) (hpl:(backTo pos (starEach es X.env)).any (·.1)=false:=by rfl):PE X (.Call (.Name x p) (e::es) [] pos) (tCB r t):=by
 intro pins s σ H Q I h;refine Gm (sZ I hg hm hv ?_ hn hdb);exact Ud (thn (ha pos pins s σ H _ I h) λus s1 ⟨vs,H1,I1,r1,q1⟩=>hc pins s1 σ H1 vs us Q I1 r1 q1) he hpl
theorem nZ (hc:eV X (.type T) r) (hg:Gl X x) (hm:X.mg x=none) (hv:bootBuiltins x=some (.type T)) (ha:PA X (e::es) t) (hn:x≠"__name__":=by decide) (hdb:(x==("__debug__":Str))=false:=by decide)
  (he:starEach (e::es) X.env=(false,eval e X.env)::starEach es X.env:=by rfl) (hpl:(backTo pos (starEach es X.env)).any (·.1)=false:=by rfl):PE X (.Call (.Name x p) (e::es) [] pos) (tCB r t):=by
 intro pins s σ H Q I h;refine Gm (sZ I hg hm hv ?_ hn hdb);exact Er (thn (ha pos pins s σ H _ I h) λus s1 ⟨vs,H1,I1,r1,q1⟩=>hc pins s1 σ H1 vs us Q I1 r1 q1) he hpl
end
end L2
namespace HT
open PySem PyProof.Rows
section
open PySem.SeqAt
open PySem.AutoSeq1 (wpAny_loadPart')
open PySem.MeetsSeq PySem.MeetsSeq2 PySem.MeetsSeq3
end
section
variable {prog:Program} {w:World} {A:Around} {E:Value->Shared->Prop} {s:Shared}
theorem aRa {t b:Addr} {vs ws:List Value} {Q:Value->Shared->Prop} (ht:IsTup s.heap t vs.toArray) (hb:IsTup s.heap b ws.toArray) (hv:vs≠[])
  (h1:ws=[]->Q (.ref t) s) (h2:ws≠[]->Q (.ref s.heap.objs.size) {s with heap:=s.heap.push {cls:= .type "tuple",data:= .seq (vs++ws).toArray}})
  (hsz:vs.length+ws.length<=sizeLine):wpAny (model prog w) A (binaryOp .Add (.ref t) (.ref b)) Q E s:=by
 obtain⟨⟨cls,dd,data,sl⟩,ho,hc,n,hd⟩:=id ht;obtain⟨⟨cls2,dd2,data2,sl2⟩,ho2,hc2,n2,hd2⟩:=id hb;simp only at hc hd hc2 hd2;subst hc hd hc2 hd2;have e:vs.toArray++ws.toArray=(vs++ws).toArray:=by simp
 by_cases hw:ws=[]
 ·exact Qb ⟨_,ho,rfl⟩ ⟨_,ho2,rfl⟩ Mj Oy Hz Hv (Hm _ _)
   (tuple_addW1 t b vs.toArray ws.toArray n n2 dd dd2 sl sl2 (by simpa using hv) (by simp [hw])) ⟨ho,ho2,h1 hw⟩
 ·refine Qb ⟨_,ho,rfl⟩ ⟨_,ho2,rfl⟩ Mj Oy Hz Hv (Hm _ _)
   (tuple_addW2 t b vs.toArray ws.toArray n n2 dd dd2 sl sl2 (by simpa using hv) (by simpa using hw) (by rw [Ak,Ak];exact hsz)) ⟨ho,ho2,?_⟩
  rw [e];exact h2 hw
end
end HT
namespace L2
open PySem PySem.Spec PyProof.Rows
abbrev TO:=St->Hp->(Option Int->Hp->Prop)->Prop
def PO (X:Cx) (e:Option Expr) (t:TO):Prop:=
 ∀(pins:List (Addr×Obj)) (s:Shared) (σ:St) (H:Hp) (Q:Option Int->Hp->Prop),Inv X pins σ H s->t σ H Q->
  wpAny (model X.prog X.w) X.A (evalPart e X.env) (λu s'=>∃o H',Inv X pins σ H' s'/\IsPart u o/\Q o H') X.xe s
def aXq (t:TE):TO:=λσ H Q=>t σ H λx H1=>∃i,x= .int i/\Q (some i) H1
theorem intsAre_of {ns:List Int}:∀{us:List Value},Vals (ns.map V.int) us->IntsAre us ns:=by
 induction ns with
 |nil=>intro us r;rw [Du]at r;cases r;exact .nil
 |cons n ns ih=>
  intro us r;rw [Aw]at r;cases r with
  |cons r1 r2=>
   obtain⟨t,e⟩:=r1;subst e;exact .cons n t (ih r2)
section
variable {X:Cx} {e:Expr} {te:TE} {lo hi:Option Expr} {tl th:TO} {pos p2:Pos}
theorem yL (h:PE X e te):PO X (some e) (aXq te):=by
 intro pins s σ H Q I hw;rw [evalPart_some];refine thn (h pins s σ H _ I hw) λu s1 ⟨x,H1,I1,r1,q1⟩=>?_;obtain⟨i,rfl,q⟩:=q1;obtain⟨t,rfl⟩:=r1;exact⟨some i,H1,I1,.int i t,q⟩
def SlR (X:Cx) (r:V->Option Int->Option Int->Hp->VK->Prop):Prop:=
 ∀(pins:List (Addr×Obj)) (s:Shared) (σ:St) (H:Hp) (x:V) (v vl vu:Value) (lo hi:Option Int) (sl:Addr) (Q:VK),Inv X pins σ H s->RelV x v->s.heap.IsSliceOf sl vl vu .none->IsPart vl lo->IsPart vu hi->r x lo hi H Q->
  ∃T id,typeLookup (.type T) "__getitem__"=pure (some (.builtin id))/\s.TypeIs v T/\wpAny (model X.prog X.w) X.A (getItem v (.ref sl)) (EP X pins σ Q) X.xe s
def tSl (r:V->Option Int->Option Int->Hp->VK->Prop) (te:TE) (tl th:TO):TE:=λσ H Q=>te σ H λx H1=>tl σ H1 λl H2=>th σ H2 λu H3=>r x l u H3 Q
theorem aFv {r:V->Option Int->Option Int->Hp->VK->Prop} (hr:SlR X r) (he:PE X e te) (hl:PO X lo tl) (hu:PO X hi th):PE X (.Subscript e (.Slice lo hi none p2) pos) (tSl r te tl th):=by
 intro pins s σ H Q I h;refine Ot (thn (he pins s σ H _ I h) λv s1 ⟨x,H1,I1,r1,q1⟩=>?_);refine wpAny_Slice (thn (hl pins s1 σ H1 _ I1 q1) λvl s2 ⟨l,H2,I2,pl,q2⟩=>thn (hu pins s2 σ H2 _ I2 q2) λvu s3 ⟨u,H3,I3,pu,q3⟩=>?_);rw [evalPart_none];refine Ad ?_;have I4:Inv X pins σ H3 {s3 with heap:=s3.heap.push {cls:= .type "slice",data:= .fields #[vl,vu,.none]}}:=I3.kept (t':=s3.toks) λb ob q=>Ai _ q;obtain⟨T,id,hT,ht,hg⟩:=hr pins {s3 with heap:=s3.heap.push {cls:= .type "slice",data:= .fields #[vl,vu,.none]}} σ H3 x v vl vu l u s3.heap.objs.size Q I4 r1 (Kz ..) pl pu q3;show wpAny (model X.prog X.w) X.A (subscriptTail e (.Slice lo hi none p2) v (.ref s3.heap.objs.size)) (EP X pins σ Q) X.xe {s3 with heap:=s3.heap.push {cls:= .type "slice",data:= .fields #[vl,vu,.none]}};exact tail_any (ops:=[.ref s3.heap.objs.size,v]) ht hT hg (by with_unfolding_all rfl)
inductive aKr (K:Ac) (x:V) (y:V) (H:Hp) (Q:VK):Prop
 |mk (a b xs ys:_) (q0_:x= .ref a) (q1_:y= .ref b) (q2_:SqT K H a xs) (q3_:SqT K H b ys) (q4_:xs≠[]) (q5_:xs.length+ys.length<=sizeLine) (q6_:(ys=[]->Q (.ref a) H)) (q7_:(ys≠[]->∀p,H p=none->Q (.ref p) (upd H p (.tup (xs++ys))))):aKr K x y H Q
def aR4 (K:Ac):R2:=λx y H Q=>aKr K x y H Q
theorem Vals.nil_iff {xs:List V} {us:List Value} (r:Vals xs us):us=[]↔xs=[]:=by
 cases r with
 |nil=>simp
 |cons _ _=>simp
theorem aP1:OpR X (binaryOp .Add) (aR4 X.K):=by
 intro pins s σ H x y v u Q I rx ry h;obtain⟨a,b,xs,ys,rfl,rfl,ha,hb,hx,hz,q1,q2⟩:=h;cases rx;cases ry;obtain⟨its,r1,p1,_⟩:=I.tuple ha;obtain⟨its2,r2,p2,_⟩:=I.tuple hb;refine HT.aRa p1 p2 (λz=>hx (r1.nil_iff.mp z)) (λz=>⟨.ref a,H,I,rfl,q1 (r2.nil_iff.mp z)⟩) (λz=>?_) (by rw [<-r1.length, <-r2.length];exact hz);refine⟨.ref s.heap.objs.size,_,I.laid (t':=s.toks) (o:= .tup (xs++ys)) (λb ob q=>Ai _ q) (Am _) ?_,rfl,q2 (λw=>z (r2.nil_iff.mpr w)) _ (I.hok.fresh (Am _))⟩;exact⟨by rw [Ah];exact hz,_,r1.append r2,Va _ _⟩
end
end L2
namespace L2
open PySem PySem.Spec PyProof.Rows
def ixN (n:Nat) (i:Int):Option Nat:=if 0<=i then(if i<n then some i.toNat else none)else if-(n:Int)<=i then some (i+n).toNat else none
def atI {α:Type} (xs:List α) (i:Int):Option α:=(ixN xs.length i).bind λj=>xs[j]?
theorem aH8 {n:Nat} {i:Int} {j:Nat} (h:ixN n i=some j):seqIndex? i n=some j/\j<n/\ -(n:Int)<=i/\i<n:=by
 unfold ixN at h;by_cases h0:0<=i
 ·rw [if_pos h0]at h;by_cases h1:i<n
  ·rw [if_pos h1]at h;have e:i.toNat=j:=Bm h;exact⟨by rw [Qs h0 h1,e],by omega,by omega,h1⟩
  ·rw [if_neg h1]at h;cases h
 ·rw [if_neg h0]at h;by_cases h1: -(n:Int)<=i
  ·rw [if_pos h1]at h;have e:(i+n).toNat=j:=Bm h;exact⟨by rw [Py (by omega) h1,e],by omega,h1,by omega⟩
  ·rw [if_neg h1]at h;cases h
theorem aCy {α:Type} {xs:List α} {i:Int} {v:α} (h:atI xs i=some v):∃j,seqIndex? i xs.length=some j/\xs[j]? =some v/\j<xs.length/\ -(xs.length:Int)<=i/\i<xs.length:=by
 unfold atI at h;cases e:ixN xs.length i with
 |none=>rw [e]at h;cases h
 |some j=>
  rw [e]at h;obtain⟨h1,h2,h3,h4⟩:=aH8 e;exact⟨j,h1,h,h2,h3,h4⟩
theorem uZ {α:Type} {xs:List α} {j:Nat} {v:α} (h:xs[j]? =some v):atI xs (j:Int)=some v:=by
 have hj:j<xs.length:=(List.getElem?_eq_some_iff.mp h).1;have e:ixN xs.length (j:Int)=some j:=by
  unfold ixN;rw [if_pos (by omega),if_pos (by omega)];simp
 unfold atI;rw [e];exact h
def aHt (b:Expr):Prop:=∀o i,subscripted b false o i=operate [o,i] (getItem o i)
def IxR (X:Cx) (r:R2):Prop:=
 ∀(value slice:Expr) (pins:List (Addr×Obj)) (s:Shared) (σ:St) (H:Hp) (x y:V) (v u:Value) (Q:VK),Inv X pins σ H s->RelV x v->RelV y u->r x y H Q->
  subscripted slice false v u=operate [v,u] (getItem v u)->wpAny (model X.prog X.w) X.A (subscriptTail value slice v u) (EP X pins σ Q) X.xe s
def MtR (X:Cx) (id:String) (r:V->List V->Hp->VK->Prop):Prop:=
 ∀(pins:List (Addr×Obj)) (s:Shared) (σ:St) (H:Hp) (x:V) (xs:List V) (v:Value) (us:List Value) (Q:VK),Inv X pins σ H s->RelV x v->Vals xs us->r x xs H Q->
  wpAny (model X.prog X.w) X.A (call (.builtin id) (v::us)) (EP X pins σ Q) X.xe s
def aWa (K:Ac):List V->Hp->VK->Prop:=λxs H Q=>∃p ys,xs=[.ref p]/\(SqL K H p ys∨SqT K H p ys)/\Q (.int ys.length) H
def aXy (K:Ac):List V->Hp->VK->Prop:=λxs H Q=>∃p ys,xs=[.ref p]/\(SqL K H p ys∨SqT K H p ys)/\∀l,H l=none->Q (.ref l) (upd H l (.lst ys))
section
variable {X:Cx} {a b:Expr} {ta tb:TE} {pos:Pos}
theorem IxR.or {r r':R2} (h:IxR X r) (h':IxR X r'):IxR X (λx y H Q=>r x y H Q∨r' x y H Q):=by
 intro value slice pins s σ H x y v u Q I rx ry q hs;rcases q with q|q
 ·exact h value slice pins s σ H x y v u Q I rx ry q hs
 ·exact h' value slice pins s σ H x y v u Q I rx ry q hs
theorem wM {r:R2} (hr:IxR X r) (ha:PE X a ta) (hb:PE X b tb) (hs:aHt b):PE X (.Subscript a b pos) (tOp r ta tb):=by
 intro pins s σ H Q I h;exact Ot (aUd ha hb I h λv u s2 x y H2 I2 rx ry q=>hr a b pins s2 σ H2 x y v u Q I2 rx ry q (hs _ _))
inductive aRb (K:Ac) (x:V) (y:V) (H:Hp) (Q:VK):Prop
 |mk (p xs i v:_) (q0_:x= .ref p) (q1_:y= .int i) (q2_:SqL K H p xs) (q3_:atI xs i=some v) (q4_:Q v H):aRb K x y H Q
def aTk (K:Ac):R2:=λx y H Q=>aRb K x y H Q
inductive aRk (K:Ac) (x:V) (y:V) (H:Hp) (Q:VK):Prop
 |mk (p xs i v:_) (q0_:x= .ref p) (q1_:y= .int i) (q2_:SqT K H p xs) (q3_:atI xs i=some v) (q4_:Q v H):aRk K x y H Q
def aT1 (K:Ac):R2:=λx y H Q=>aRk K x y H Q
inductive aR8 (x:V) (y:V) (H:Hp) (Q:VK):Prop
 |mk (z i c:_) (q0_:x= .str z) (q1_:y= .int i) (q2_:z.length<=sizeLine) (q3_:atI z.cps.toList i=some c) (q4_:Q (.str ⟨#[c]⟩) H):aR8 x y H Q
def aVj:R2:=λx y H Q=>aR8 x y H Q
theorem mJ:IxR X (aTk X.K):=by
 intro value slice pins s σ H x y v u Q I rx ry h hs;obtain⟨p,xs,i,z,rfl,rfl,hq,he,q⟩:=h;cases rx;obtain⟨t,rfl⟩:=ry;obtain⟨its,r,pl,hz⟩:=I.list hq;obtain⟨j,h1,h2,h3,h4,h5⟩:=aCy he;obtain⟨w,ew,rw'⟩:=r.get h2;have hl:=r.length;have hn:=wC;have fin:EP X pins σ Q w s:=⟨z,H,I,rw',q⟩;by_cases h0:0<=i
 ·have hj:i.toNat=j:=by
   rw [Qs h0 h5]at h1;exact Bm h1
  exact item_listR pl.isList h0 (by omega) (by rw [hj];simpa using ew) fin hs
 ·have hj:(i+(its.toArray.size:Int)).toNat=j:=by
   rw [Py (by omega) h4]at h1;rw [Ak, <-hl];exact Bm h1
  exact Pl (x:=w) pl.isList.typeIs slot_list_getitem.lookup
   (wpAny_getItem_list_neg (Q:=λr s'=>r=w/\EP X pins σ Q r s') pl.isList (by omega) (by rw [Ak]<;>omega) (by omega) (by rw [hj];simpa using ew) ⟨rfl,fin⟩) hs
theorem aT8:IxR X (aT1 X.K):=by
 intro value slice pins s σ H x y v u Q I rx ry h hs;obtain⟨p,xs,i,z,rfl,rfl,hq,he,q⟩:=h;cases rx;obtain⟨t,rfl⟩:=ry;obtain⟨its,r,pl,hz⟩:=I.tuple hq;obtain⟨j,h1,h2,h3,h4,h5⟩:=aCy he;obtain⟨w,ew,rw'⟩:=r.get h2;have hl:=r.length;have hn:=wC;have fin:EP X pins σ Q w s:=⟨z,H,I,rw',q⟩;exact Pl (x:=w) pl.typeIs slot_tuple_getitem.lookup
  (getItem_tuple (j:=j) (Q:=λr s'=>r=w/\EP X pins σ Q r s') pl (by omega) (by omega) (by rw [Ak, <-hl];exact h1) (by simpa using ew) ⟨rfl,fin⟩) hs
theorem aTq:IxR X aVj:=by
 intro value slice pins s σ H x y v u Q I rx ry h hs;obtain⟨z,i,c,rfl,rfl,hz,he,q⟩:=h;obtain⟨t,rfl⟩:=rx;obtain⟨t',rfl⟩:=ry;obtain⟨j,h1,h2,h3,h4,h5⟩:=aCy he;have hl:z.cps.toList.length=z.length:=by simp [Str.length]
 rw [hl]at h1 h4 h5;have hn:=wC;exact tail_any (Rz s z t) slot_str_getitem.lookup (getItem_str (c:=c) (by
  have e1:decide (i< -(2 ^ 63:Int))=false:=decide_eq_false (by omega);have e2:decide (i≥2 ^ 63)=false:=decide_eq_false (by omega);rw [e1,e2,Bool.or_false]) (by rw [h1];simpa using h2) ⟨.str ⟨#[c]⟩,H,I.tok _,⟨_,rfl⟩,q⟩) hs
def rIx (K:Ac):R2:=λx y H Q=>aTk K x y H Q∨aT1 K x y H Q∨aVj x y H Q
theorem bC:IxR X (rIx X.K):=mJ.or (aT8.or aTq)
theorem aGw (its:List Value) (n j:Nat) (u:Value):Dw (·.setIfInBounds j u) {cls:= .type "list",data:= .seq its.toArray n}={cls:= .type "list",data:= .seq (its.set j u).toArray n}:=by
 simp [Dw]
theorem Inv.lst {pins:List (Addr×Obj)} {σ:St} {H:Hp} {s:Shared} {p:Addr} {xs:List V} (I:Inv X pins σ H s) (h:H p=some (.lst xs)):
  ∃(its:List Value) (n:Nat),Vals xs its/\s.heap.get? p=some {cls:= .type "list",data:= .seq its.toArray n}/\xs.length<=sizeLine:=by
 obtain⟨z,its,n,r,e⟩:=I.hok p _ h;exact⟨its,n,r,e,z⟩
theorem Inv.lstUpd {pins:List (Addr×Obj)} {σ:St} {H:Hp} {s:Shared} {p:Addr} {xs ys:List V} {its its':List Value} {n n':Nat} {f:Obj->Obj} (I:Inv X pins σ H s) (h:H p=some (.lst xs))
  (ho:s.heap.get? p=some {cls:= .type "list",data:= .seq its.toArray n}) (hf:f {cls:= .type "list",data:= .seq its.toArray n}={cls:= .type "list",data:= .seq its'.toArray n'}) (r:Vals ys its') (hz:ys.length<=sizeLine) (t:Nat):
  Inv X pins σ (upd H p (.lst ys)) {s with heap:=s.heap.update p f,toks:=t}:=by
 have e:(s.heap.update p f).get? p=some {cls:= .type "list",data:= .seq its'.toArray n'}:=by
  rw [Bz f ho (by rw [hf]<;>rfl),hf]
 refine I.write (x:=p) (e:=p) (by rw [h];trivial) (.inl rfl) (λb u hb q=>(Cy _ _ (Di hb)).trans q) ⟨_,e⟩ ?_;exact⟨hz,its',n',r,e⟩
inductive aKv (o:V) (i:V) (v:V) (H:Hp) (Q:(Hp->Prop)):Prop
 |mk (p xs k j:_) (q0_:o= .ref p) (q1_:i= .int k) (q2_:H p=some (.lst xs)) (q3_:ixN xs.length k=some j) (q4_:Q (upd H p (.lst (xs.set j v)))):aKv o i v H Q
def aXg:V->V->V->Hp->(Hp->Prop)->Prop:=λo i v H Q=>aKv o i v H Q
theorem set_list:aWr X aXg:=by
 intro pins s σ H o i v ov iv u Q I ro ri rv h;obtain⟨p,xs,k,j,rfl,rfl,hp,hj,q⟩:=h;cases ro;obtain⟨t,rfl⟩:=ri;obtain⟨its,n,r,ho,hz⟩:=I.lst hp;obtain⟨h1,h2,h3,h4⟩:=aH8 hj;have hl:=r.length;have hn:=wC;have I':Inv X pins σ (upd H p (.lst (xs.set j v))) {s with heap:=s.heap.update p (Dw (·.setIfInBounds j u))}:=
  I.lstUpd hp ho (aGw its n j u) (r.set rv j) (by rw [Ck];exact hz) s.toks
 by_cases h0:0<=k
 ·have hk:k.toNat=j:=by
   rw [Qs h0 h4]at h1;exact Bm h1
  exact PySem.W.ki_setAt ho h0 (by omega) (by rw [Ak, <-hl];exact h4) (by rw [hk];exact⟨_,I',q⟩)
 ·have hk:(k+(its.toArray.size:Int)).toNat=j:=by
   rw [Py (by omega) h3]at h1;rw [Ak, <-hl];exact Bm h1
  exact PySem.W.ki_setBack ho (by omega) (by rw [Ak, <-hl];exact h3) (by omega) (by rw [hk];exact⟨_,I',q⟩)
def jE:V->Bool
 | .non=>true
 | .bl _=>true
 | .int _=>true
 | .str _=>true
 |_=>false
def eqV:V->V->Bool
 | .non,.non=>true
 | .bl a,.bl b=>a==b
 | .bl a,.int b=>(if a then 1 else 0)==b
 | .int a,.bl b=>a==(if b then 1 else 0)
 | .int a,.int b=>a==b
 | .str a,.str b=>a==b
 |_,_=>false
theorem aMn {A:Around} {s:Shared} {y x:V} {u v:Value} (ry:RelV y u) (rx:RelV x v) (fy:jE y=true) (fx:jE x=true):Hu A s u v (eqV y x):=by
 cases y with
 |non=>
  cases ry;cases x with
  |non=>cases rx;exact Jv _
  |bl b=>cases rx;exact SeqAt.EqAt.none_bool b
  |int b=>obtain⟨t,rfl⟩:=rx;exact SeqAt.EqAt.none_int b t
  |str b=>obtain⟨t,rfl⟩:=rx;exact SeqAt.EqAt.none_str b t
  |_=>exact absurd (show false=true from fx) Aj
 |bl a=>
  cases ry;cases x with
  |non=>cases rx;exact SeqAt.EqAt.bool_none a
  |bl b=>cases rx;exact SeqAt.EqAt.bool_bool a b
  |int b=>obtain⟨t,rfl⟩:=rx;exact SeqAt.EqAt.bool_int a b t
  |str b=>obtain⟨t,rfl⟩:=rx;exact SeqAt.EqAt.bool_str a b t
  |_=>exact absurd (show false=true from fx) Aj
 |int a=>
  obtain⟨t',rfl⟩:=ry;cases x with
  |non=>cases rx;exact SeqAt.EqAt.int_none a t'
  |bl b=>cases rx;exact SeqAt.EqAt.int_bool a t' b
  |int b=>obtain⟨t,rfl⟩:=rx;exact SeqAt.EqAt.int_int a t' b t
  |str b=>obtain⟨t,rfl⟩:=rx;exact Mn a t' b t
  |_=>exact absurd (show false=true from fx) Aj
 |str a=>
  obtain⟨t',rfl⟩:=ry;cases x with
  |non=>cases rx;exact SeqAt.EqAt.str_none a t'
  |bl b=>cases rx;exact SeqAt.EqAt.str_bool a t' b
  |int b=>obtain⟨t,rfl⟩:=rx;exact Ml a t' b t
  |str b=>obtain⟨t,rfl⟩:=rx;exact SeqAt.EqAt.str_str a t' b t
  |_=>exact absurd (show false=true from fx) Aj
 |_=>exact absurd (show false=true from fy) Aj
def eqU (x:V) (u:Value):Bool:=match u with
 | .none=>eqV .non x
 | .bool b=>eqV (.bl b) x
 | .int i _=>eqV (.int i) x
 | .str z _=>eqV (.str z) x
 |_=>false
theorem aOp {x y:V} {u:Value} (r:RelV y u) (f:jE y=true):eqU x u=eqV y x:=by
 cases y with
 |non=>cases r;rfl
 |bl b=>cases r;rfl
 |int i=>obtain⟨t,rfl⟩:=r;rfl
 |str z=>obtain⟨t,rfl⟩:=r;rfl
 |_=>exact absurd (show false=true from f) Aj
theorem aDb {x:V}:∀{xs:List V} {us:List Value},Vals xs us->xs.all jE=true->us.any (eqU x)=xs.any λy=>eqV y x
 |_,_,.nil,_=>rfl
 |y::xs,u::us,.cons r t,f=>by
  rw [Jw,Fp]at f;rw [Ds,Ds,aOp r f.1,aDb t f.2]
theorem zE {A:Around} {s:Shared} {x:V} {v:Value} (rx:RelV x v) (fx:jE x=true):∀{xs:List V} {us:List Value},Vals xs us->xs.all jE=true->∀u∈us,Hu A s u v (eqU x u)
 |_,_,.nil,_=>λu hu=>by cases hu
 |y::xs,u::us,.cons r t,f=>λu' hu=>by
  rw [Jw,Fp]at f;rcases List.mem_cons.mp hu with rfl|hu
  ·rw [aOp r f.1];exact aMn r rx f.1 fx
  ·exact zE rx fx t f.2 u' hu
def inV (x:V) (xs:List V):Bool:=xs.any λy=>eqV y x
inductive aXs (K:Ac) (neg:Bool) (x:V) (y:V) (H:Hp) (Q:VK):Prop
 |mk (p xs:_) (q0_:y= .ref p) (q1_:(SqL K H p xs∨SqT K H p xs)) (q2_:jE x=true) (q3_:xs.all jE=true) (q4_:Q (.bl (if neg then !inV x xs else inV x xs)) H):aXs K neg x y H Q
def rIn (K:Ac) (neg:Bool):R2:=λx y H Q=>aXs K neg x y H Q
theorem aDg:OpR X (compareOp .NotIn) (rIn X.K true):=by
 intro pins s σ H x y v u Q I rx ry h;obtain⟨p,xs,rfl,hq,fx,fs,q⟩:=h;cases ry;rcases hq with hq|hq
 ·obtain⟨its,r,pl,hz⟩:=I.list hq;refine Ou (eqU x) pl.isList (λw hw=>zE rx fx r fs w (by simpa using hw)) ⟨.bl _,H,I,rfl,?_⟩;rw [show its.toArray.any (eqU x)=its.any (eqU x) by simp,aDb r fs];exact q
 ·obtain⟨its,r,pl,hz⟩:=I.tuple hq;refine Oe (eqU x) pl (λw hw=>zE rx fx r fs w (by simpa using hw)) ⟨.bl _,H,I,rfl,?_⟩;rw [show its.toArray.any (eqU x)=its.any (eqU x) by simp,aDb r fs];exact q
theorem aV:eV X (.builtin "len") (aWa X.K):=by
 intro pins s σ H xs us Q I r h;obtain⟨p,ys,rfl,hq,q⟩:=h;obtain⟨u,rfl,rx⟩:=vals1 r;cases rx;have hn:=wC;rcases hq with hq|hq
 ·obtain⟨its,r',pl,hz⟩:=I.list hq;have hlen:=r'.length;exact Calls.call_len_list pl.isList (by simp only [Ak]<;>omega) ⟨.int ys.length,H,I.tok _,⟨s.toks+1,by rw [Ak,hlen]⟩,q⟩
 ·obtain⟨its,r',pl,hz⟩:=I.tuple hq;have hlen:=r'.length;exact len_tuple pl (by simp only [Ak]<;>omega) ⟨.int ys.length,H,I.tok _,⟨s.toks+1,by rw [Ak,hlen]⟩,q⟩
theorem aCz:eV X (.builtin "len") (λxs H Q=>∃z,xs=[.str z]/\z.length<=sizeLine/\Q (.int z.length) H):=by
 intro pins s σ H xs us Q I r h;obtain⟨z,rfl,hz,q⟩:=h;obtain⟨u,rfl,t,rfl⟩:=vals1 r;have hn:=wC;exact len_str (by omega) ⟨.int z.length,H,I.tok _,⟨_,rfl⟩,q⟩
theorem aC8:eV X (.type "list") (aXy X.K):=by
 intro pins s σ H xs us Q I r h;obtain⟨p,ys,rfl,hq,q⟩:=h;obtain⟨u,rfl,rx⟩:=vals1 r;cases rx;have fin:∀(its:List Value),Vals ys its->ys.length<=sizeLine->∀(h':Heap) (c':Nat),(∀b o',s.heap.get? b=some o'->h'.get? b=some o')->
   h'.get? s.heap.objs.size=some {cls:= .type "list",dict:=none,data:= .seq its.toArray c',slots:= #[]}->EP X pins σ Q (.ref s.heap.objs.size) {s with heap:=h'}:=λits r' hz h' c' kp e=>
  ⟨.ref s.heap.objs.size,_,I.laid (t':=s.toks) kp (Am _) (show cT X.prog X.w _ h' _ (.lst ys)from⟨hz,its,c',r',e⟩),rfl,q _ (I.hok.fresh (Am _))⟩
 rcases hq with hq|hq
 ·obtain⟨its,r',pl,hz⟩:=I.list hq;have hlen:=r'.length;obtain⟨o,ho,hc,n,hd⟩:=pl.isList;exact call_list_seq p (.inl rfl) ho hc hd (λh' c' kp e=>fin its r' hz h' c' kp e) (by simp only [Ak]<;>omega)
 ·obtain⟨its,r',pl,hz⟩:=I.tuple hq;have hlen:=r'.length;obtain⟨o,ho,hc,n,hd⟩:=pl;exact call_list_seq p (.inr rfl) ho hc hd (λh' c' kp e=>fin its r' hz h' c' kp e) (by simp only [Ak]<;>omega)
theorem sH:eV X (.type "tuple") (λxs H Q=>∃p ys,xs=[.ref p]/\((SqL X.K H p ys/\∀l,H l=none->Q (.ref l) (upd H l (.tup ys)))∨(SqT X.K H p ys/\Q (.ref p) H))):=by
 intro pins s σ H xs us Q I r h;obtain⟨p,ys,rfl,h⟩:=h;obtain⟨u,rfl,rx⟩:=vals1 r;cases rx;rcases h with ⟨hq,q⟩|⟨hq,q⟩
 ·obtain⟨its,r',pl,hz⟩:=I.list hq;have hlen:=r'.length;refine call_tuple_list pl.isList (λh' kp=>?_) (by simp only [Ak]<;>omega);have I1:Inv X pins σ H {s with heap:=h'}:=I.kept (t':=s.toks) kp;have I2:Inv X pins σ (upd H h'.objs.size (.tup ys)) {s with heap:=h'.push {cls:= .type "tuple",data:= .seq its.toArray}}:=
   I1.laid (t':=s.toks) (λb o e=>Ai _ e) (Am _) (show cT X.prog X.w _ _ _ (.tup ys)from⟨hz,its,r',Va _ _⟩)
  exact⟨.ref h'.objs.size,_,I2,rfl,q _ (I1.hok.fresh (Am _))⟩
 ·obtain⟨its,r',pl,hz⟩:=I.tuple hq;exact call_tuple_same pl ⟨.ref p,H,I,rfl,q⟩
def tyV (K:Ac) (T:String) (x:V) (H:Hp):Prop:=match x with
 | .str _=>T="str"
 | .int _=>T="int"
 | .ref p=>(T="list"/\∃xs,SqL K H p xs)∨(T="tuple"/\∃o,K.lookup p=some o/\o.cls= .type "tuple"/\o.dict=none)∨
   (T="dict"/\((∃kvs,H p=some (.dK kvs))∨∃kvs,H p=some (.dT kvs)))∨(T="set"/\∃S n,H p=some (.set S n))
 |_=>False
theorem aTn {pins:List (Addr×Obj)} {σ:St} {H:Hp} {s:Shared} {T:String} {x:V} {v:Value} (I:Inv X pins σ H s) (r:RelV x v) (ty:tyV X.K T x H):
  s.TypeIs v T/\∀a,v= .ref a->∃ob,s.heap.get? a=some ob/\ob.dict=none:=by
 cases x with
 |str z=>
  obtain⟨t,rfl⟩:=r;cases (show T="str" from ty);exact⟨Rz s z t,λ_ e=>nomatch e⟩
 |int i=>
  obtain⟨t,rfl⟩:=r;cases (show T="int" from ty);exact⟨typeIs_int s i t,λ_ e=>nomatch e⟩
 |ref p=>
  cases r;rcases ty with ⟨rfl,xs,hq⟩|⟨rfl,o,hk,hc,hd⟩|⟨rfl,hk⟩|⟨rfl,S,n,hk⟩
  ·obtain⟨its,_,pl,_⟩:=I.list hq;refine⟨pl.isList.typeIs,λa e=>?_⟩;cases e;obtain⟨o,n,e,c,hd,_⟩:=pl;exact⟨o,e,hd⟩
  ·refine⟨⟨o,I.kIn p o hk,hc⟩,λa e=>?_⟩;cases e;exact⟨o,I.kIn _ o hk,hd⟩
  ·have z:∃o,s.heap.get? p=some o/\o.ExactDict:=by
    rcases hk with ⟨kvs,hk⟩|⟨kvs,hk⟩
    ·obtain⟨_,_,_,_,o,_,_,e,ex,_⟩:=I.hok p _ hk;exact⟨o,e,ex⟩
    ·obtain⟨_,_,_,_,o,_,_,e,ex,_⟩:=I.hok p _ hk;exact⟨o,e,ex⟩
   obtain⟨o,e,ex⟩:=z;refine⟨⟨o,e,ex.1⟩,λa e2=>?_⟩;cases e2;exact⟨o,e,ex.2.1⟩
  ·obtain⟨o,_,_,_,e,ex,_⟩:=I.hok p _ hk;refine⟨⟨o,e,ex.1⟩,λa e2=>?_⟩;cases e2;exact⟨o,e,ex.2.1⟩
 |_=>exact El ty
def tBM (K:Ac) (T:String) (r:V->List V->Hp->VK->Prop) (to:TE) (t:TA):TE:=λσ H Q=>to σ H λx H1=>tyV K T x H1/\t σ H1 λxs H2=>r x xs H2 Q
variable {o e:Expr} {es:List Expr} {to:TE} {t:TA} {name:Str} {apos cpos:Pos} {T id:String} {r:V->List V->Hp->VK->Prop}
theorem aAh (pa:PlainAttrs T) (slot:Slot T name id) (hty:typeOf (.builtin id)=pure (.type "method_descriptor")) (hm:MtR X id r) (ho:PE X o to) (ha:PA X (e::es) t)
  (hbase:attributeBase o name X.env (eval o X.env)=eval o X.env:=by rfl)
  (hfew:((backTo cpos (starEach (e::es) X.env)).all (λx=> !x.1) && (backToKw cpos (keywordEach [] X.env)).all (λx=>x.1.isSome)
   && decide ((e::es).length+([]:List Keyword).length+(if([]:List Keyword).isEmpty then 0 else 1)<30))=true:=by rfl)
  (hline:(apos.endLine==cpos.line)=true:=by rfl) (hs:starEach (e::es) X.env=(false,eval e X.env)::starEach es X.env:=by rfl) (hplain:(backTo cpos (starEach es X.env)).any (·.1)=false:=by rfl):
  PE X (.Call (.Attribute o name apos) (e::es) [] cpos) (tBM X.K T r to t):=by
 intro pins s σ H Q I h;refine wpAny_Call_method_late hbase hfew hline rfl (thn (ho pins s σ H _ I h) λv s1 ⟨x,H1,I1,r1,ty,q1⟩=>?_);obtain⟨h1,h2⟩:=aTn I1 r1 ty;refine⟨T,id,pa,slot,hty,h1,h2,?_⟩;have hA:=ha cpos pins s1 σ H1 _ I1 q1;rw [hs]at hA⊢;refine Calls.callWith_builtin (by show(false || (backTo cpos (starEach es X.env)).any (·.1))=false;rw [hplain]<;>rfl) (Calls.evalArgs_plain ?_);exact thn hA λus s2 ⟨vs,H2,I2,r2,q2⟩=>hm pins s2 σ H2 x vs v us Q I2 r1 r2 q2
end
end L2
namespace L2
open PySem PySem.Spec PyProof.Rows
def MtM (X:Cx) (id:String) (r:V->List V->Hp->VK->Prop):Prop:=
 ∀(pins:List (Addr×Obj)) (s:Shared) (σ:St) (H:Hp) (x:V) (xs:List V) (v:Value) (us:List Value) (Q:VK),Inv X pins σ H s->RelV x v->Vals xs us->r x xs H Q->
  wpAny (model X.prog X.w) X.A (call (.builtin id) (v::us)) (EP X pins σ Q) X.xe s
theorem Vals.one:∀{x:V} {us:List Value},Vals [x] us->∃u,us=[u]/\RelV x u
 |_,_,.cons r .nil=>⟨_,rfl,r⟩
theorem Vals.eraseIdx:∀{xs:List V} {us:List Value} (i:Nat),Vals xs us->Vals (xs.eraseIdx i) (us.eraseIdx i)
 |_,_,_,.nil=> .nil
 |_,_,0,.cons _ t=>t
 |_,_,i+1,.cons r t=> .cons r (Vals.eraseIdx i t)
theorem Vals.reverse {xs:List V} {us:List Value} (h:Vals xs us):Vals xs.reverse us.reverse:=by
 induction h with
 |nil=>exact .nil
 |cons r t ih=>rw [Hx,Hx];exact Vals.append ih (.cons r .nil)
theorem iH {α:Type}:∀(l:List α) (i:Nat),(l.eraseIdx i).length<=l.length
 | [],_=>Am _
 |_::_,0=>Fu _
 |_::r,i+1=>Kx (iH r i)
section
variable {X:Cx} {pins:List (Addr×Obj)} {σ:St} {H:Hp} {s:Shared} {l b:Addr} {xs ys zs:List V}
theorem Inv.lset {its its':List Value} {n:Nat} {f:Array Value->Array Value} {t':Nat} (I:Inv X pins σ H s) (hH:H l=some (.lst xs))
  (e:s.heap.get? l=some {cls:= .type "list",data:= .seq its.toArray n}) (hf:f its.toArray=its'.toArray) (hv:Vals ys its') (hz:ys.length<=sizeLine):
  Inv X pins σ (upd H l (.lst ys)) {s with heap:=s.heap.update l (Dw f),toks:=t'}:=by
 have q:=PySem.IsL.update e f;rw [hf]at q;refine I.write (x:=l) (e:=l) (by rw [hH];exact trivial) (.inl rfl) (λb' u hb hu=>(Cy s.heap (Dw f) (Di hb)).trans hu) ⟨_,q⟩ ?_;exact⟨hz,its',_,hv,q⟩
theorem Inv.lnew {its:List Value} {t':Nat} (I:Inv X pins σ H s) (hv:Vals ys its) (hz:ys.length<=sizeLine):
  Inv X pins σ (upd H s.heap.objs.size (.lst ys)) {s with heap:=s.heap.push {cls:= .type "list",data:= .seq its.toArray},toks:=t'}:=
 I.laid (λ_ _ q=>Ai _ q) (Am _) ⟨hz,its,0,hv,Ar _ rfl⟩
theorem Inv.fresh (I:Inv X pins σ H s):H s.heap.objs.size=none:=I.hok.fresh (Am _)
theorem Inv.lstM (I:Inv X pins σ H s) (hH:H l=some (.lst xs)):xs.length<=sizeLine/\∃(its:List Value) (n:Nat),Vals xs its/\xs.length=its.length/\s.heap.get? l=some {cls:= .type "list",data:= .seq its.toArray n}:=by
 obtain⟨z,its,n,r,e⟩:=I.hok l _ hH;exact⟨z,its,n,r,r.length,e⟩
theorem aLs {n:Nat} (h:n<=sizeLine):Gz n=false:=by
 unfold Gz;exact decide_eq_false (by omega)
end
section
variable {X:Cx}
inductive aFm (x:V) (vs:List V) (H:Hp) (Q:VK):Prop
 |mk (l xs y:_) (q0_:x= .ref l) (q1_:vs=[y]) (q2_:H l=some (.lst xs)) (q3_:xs.length<sizeLine) (q4_:Q .non (upd H l (.lst (xs++[y])))):aFm x vs H Q
def aQi:V->List V->Hp->VK->Prop:=λx vs H Q=>aFm x vs H Q
theorem oG:MtM X "list.append" aQi:=by
 intro pins s σ H x vs v us Q I rx rv h;obtain⟨l,xs,y,rfl,rfl,hH,hz,q⟩:=h;cases rx;obtain⟨u,rfl,ru⟩:=rv.one;obtain⟨z,its,n,r,hl,e⟩:=I.lstM hH;refine Sb F.slot_list_append ⟨_,e,rfl⟩ F.entry_list_append (F.args_list_append_2 _ _) (PySem.list_append l its.toArray n u (by rw [Ak];omega)) ⟨e,?_⟩;refine⟨.non,_,I.lset (its':=its++[u]) hH e (by simp) (r.append (.cons ru .nil)) ?_,rfl,q⟩;rw [Ah,Fd];omega
inductive aD5 (x:V) (vs:List V) (H:Hp) (Q:VK):Prop
 |mk (l b xs zs:_) (q0_:x= .ref l) (q1_:vs=[.ref b]) (q2_:H l=some (.lst xs)) (q3_:H b=some (.lst zs)) (q4_:xs.length+zs.length<=sizeLine) (q5_:Q .non (upd H l (.lst (xs++zs)))):aD5 x vs H Q
def aPc:V->List V->Hp->VK->Prop:=λx vs H Q=>aD5 x vs H Q
theorem aKj:MtM X "list.extend" aPc:=by
 intro pins s σ H x vs v us Q I rx rv h;obtain⟨l,b,xs,zs,rfl,rfl,hH,hB,hz,q⟩:=h;cases rx;obtain⟨u,rfl,ru⟩:=rv.one;cases ru;obtain⟨z,its,n,r,hl,e⟩:=I.lstM hH;obtain⟨z2,its2,n2,r2,hl2,e2⟩:=I.lstM hB;have hsz:its.toArray.size+its2.toArray.size<=sizeLine:=by rw [Ak,Ak];omega
 have hlong:¬(!its.toArray.isEmpty && Gz (its.toArray.size+its2.toArray.size))=true:=by
  rw [aLs hsz,Gq];exact Aj
 refine Sb F.slot_list_extend ⟨_,e,rfl⟩ F.entry_list_extend (F.args_list_extend_2 _ _)
  (AutoSeq1.list_extend_list_list_0 l its.toArray n b its2.toArray n2 hlong (by rw [Ak];omega) (by omega)) ⟨e,e2,?_⟩
 refine⟨.non,_,I.lset (its':=its++its2) hH e (by simp) (r.append r2) ?_,rfl,q⟩;rw [Ah];omega
inductive aHs (x:V) (vs:List V) (H:Hp) (Q:VK):Prop
 |mk (l xs i k y:_) (q0_:x= .ref l) (q1_:vs=[.int i]) (q2_:H l=some (.lst xs)) (q3_: -(2 ^ 63)<=i) (q4_:i<2 ^ 63) (q5_:seqIndex? i xs.length=some k) (q6_:xs[k]? =some y) (q7_:Q y (upd H l (.lst (xs.eraseIdx k)))):aHs x vs H Q
def aT3:V->List V->Hp->VK->Prop:=λx vs H Q=>aHs x vs H Q
theorem aL7:MtM X "list.pop" aT3:=by
 intro pins s σ H x vs v us Q I rx rv h;obtain⟨l,xs,i,k,y,rfl,rfl,hH,h1,h2,hk,hy,q⟩:=h;cases rx;obtain⟨u,rfl,ru⟩:=rv.one;obtain⟨t,rfl⟩:=ru;obtain⟨z,its,n,r,hl,e⟩:=I.lstM hH;obtain⟨w,hw,rw'⟩:=r.get hy;refine Sb F.slot_list_pop ⟨_,e,rfl⟩ F.entry_list_pop (F.args_list_pop_2 _ _)
  (MeetsSeq.list_pop_at l its.toArray n i t k w (fitsIndex_both h1 h2) (by rw [Ak, <-hl];exact hk) (by rw [<-Bk];exact hw) (by rw [Ak];omega)) ⟨e,?_⟩
 refine⟨y,_,I.lset (its':=its.eraseIdx k) hH e ?_ (r.eraseIdx k) ?_,rw',q⟩
 ·show its.toArray.eraseIdxIfInBounds k=(its.eraseIdx k).toArray;rw [List.eraseIdxIfInBounds_toArray]
 ·have:=iH xs k;omega
inductive aRg (x:V) (y:V) (H:Hp) (Q:VK):Prop
 |mk (l b xs zs:_) (q0_:x= .ref l) (q1_:y= .ref b) (q2_:H l=some (.lst xs)) (q3_:H b=some (.lst zs)) (q4_:xs.length+zs.length<=sizeLine) (q5_:∀p,H p=none->Q (.ref p) (upd H p (.lst (xs++zs)))):aRg x y H Q
def aW4:R2:=λx y H Q=>aRg x y H Q
theorem aUv:OpR X (binaryOp .Add) aW4:=by
 intro pins s σ H x y v u Q I rx ry h;obtain⟨l,b,xs,zs,rfl,rfl,hH,hB,hz,q⟩:=h;cases rx;cases ry;obtain⟨z,its,n,r,hl,e⟩:=I.lstM hH;obtain⟨z2,its2,n2,r2,hl2,e2⟩:=I.lstM hB;refine PySem.P.add_list e e2 ?_ (by rw [Ak,Ak];omega);have ea:its.toArray++its2.toArray=(its++its2).toArray:=by simp
 rw [ea];exact⟨.ref _,_,I.lnew (t':=s.toks) (r.append r2) (by rw [Ah];omega),rfl,q _ I.fresh⟩
end
section
variable {prog:Program} {w:World} {A:Around} {E:Value->Shared->Prop} {s:Shared}
set_option maxRecDepth 100000 in
end
section
variable {X:Cx}
end
end L2
namespace Att
open PySem PySem.W PySem.Calls PyProof.Rows
theorem xR {P:Params} {h:Heap}:∀(ns:List Int) (vs:List Value),WellAll P h vs (ns.map Ux)->IntsAre vs ns:=by
 intro ns;induction ns with
 |nil=>
  intro vs w;rw [Du]at w;cases w;exact .nil
 |cons n ns ih=>
  intro vs w;rw [Aw]at w;cases w with
  |cons a b=>
   cases a;exact .cons _ _ (ih _ b)
theorem aJm {l:OpenLaw} {n:Nat} (hn:l.most=some n) {P:Params} {h:Heap} {args:List WData} {vals:List Value}
  (hpre:l.row.toRowW.claim.pre args=true) (hwl:WellAll P h vals args):
  ∃a vs ns,vals=[Au a]/\args=[WData.list (ns.map Ux)]/\h.get? a=some {cls:= .type "list",data:= .seq vs.toArray}/\IntsAre vs ns/\ns.length<=n:=by
 have hsh:WShape.hasAll [] args [.list .int]=true:=(pre_splitW hpre).1;have hc:l.pre.holds [] {args:=args}=true:=(pre_splitW hpre).2;obtain⟨d,r,rfl,h1,h2⟩:=hasAllW_cons hsh;obtain rfl:=hasAllW_nil h2;obtain⟨xs,rfl,h3⟩:=hasW_list h1;obtain⟨ns,rfl⟩:=items_int h3;have hlen:ns.length<=n:=by
  unfold OpenLaw.pre at hc;have h4:(WTm.not (.lt (.lit (.int (n:Int))) (.len (.arg 0)))).holds [] {args:=[.list (ns.map .int)]}=true:=by
   have h4:=(holds_andW hc).1;rw [hn]at h4;exact h4
  have h5:=condW_of h4 (w_not (w_lt w_lit (w_len_list (w_arg rfl))));rw [Ab]at h5;refine Nat.le_of_not_lt λq=>?_;have q':(n:Int)<((ns.length:Nat):Int):=by omega
  first
   |(rw [decide_eq_true q']at h5;exact absurd h5 (by decide))
   |(simp at h5;omega)
 cases hwl with
 |cons w1 w2=>
  cases w2;cases w1 with
  |list ho hall=>exact⟨_,_,ns,rfl,rfl,ho,xR ns _ hall,hlen⟩
theorem aI3 (l:OpenLaw) (args:List WData):l.row.toRowW.claim.post args (.bool true) args=true:=
 postW_of (r:=l.row.toRowW) (X:=(true==true))
  (show Sd [] (.bool true) .bool=true by first|rfl|decide|simp [Sd,WShape.arms,WShape.armsAll])
  (show(WTm.eq .res (.lit (.bool true))).value [] {args:=args,res:=some (.bool true),after:=args}=some (.bool (true==true))from w_eq_bool (w_res rfl) w_lit) rfl
theorem aEv {l:OpenLaw} {n:Nat} {q:Program} {loose:List Str} {XP:(Str->Option Value)->Heap->Prop} {YP:World->Heap->Prop} {d:DefRec}
  (hn:l.most=some n) (hdf:d.params.defaults=[])
  (call:∀(w:World) (s₀ s₁:Shared) (mg mb:Str->Option Value) (fa:Addr) (o:Obj) (pm cd doc:Value) (a:Addr) (vs:List Value) (ns:List Int),
   Ground q loose [] XP w s₀ mg mb s₁.heap->YP w s₁.heap->
   s₁.heap.get? fa=some o->o.data= .func (docDef d.name d.params d.body d.scope pm cd doc)->s₁.heap.CodeRec cd d.name->mg d.name=some (.ref fa)->
   s₁.heap.get? a=some {cls:= .type "list",data:= .seq vs.toArray}->IntsAre vs ns->ns.length<=n->s₁.gens= #[]->
   codeAny (model l.prog w) callerA (.call (.ref fa) ⟨[.ref a],[]⟩) (λr s'=>r= .ok (.ret (.bool true))/\OldK s₁.heap s'.heap/\s'.os=s₁.os/\AllBare s'.gens) s₁):
  WalkO q loose XP YP l.row.toRowW d [] (λf vs=>Pc f vs):=by
 intro w s₀ s₁ mg mb G Y fa o pm cd doc dV kV ho hd hcd hD hmg hg args vals as hpre hlay hrd hwl hlo;obtain rfl:dV= .none:=Dflts.none hD hdf;obtain rfl:kV= .none:=Dflts.noKw hD;obtain⟨a,vs,ns,rfl,rfl,hobj,hints,hlen⟩:=aJm hn hpre hwl;refine enter_call (Hb (call w s₀ s₁ mg mb fa o pm cd doc a vs ns G Y ho (fd_plain hd) hcd hmg hobj hints hlen hg) λr s' hq=>?_);obtain⟨rfl,h2,h3,h4⟩:=hq;exact⟨.inl ⟨.bool true,.bool true,[],rfl,λ_=>rfl,.bool true,aI3 l _,λ_=>⟨Su,λ_ hm=>(nomatch hm)⟩⟩,h2,h3,h4⟩
section
variable {prog:Program} {w:World} {A:Around} {E:Value->Shared->Prop} {s:Shared} {K:Frag}
end
end Att
namespace L2
open PySem PySem.Spec PyProof.Rows
theorem aBc:∀{vs:List Value} {ns:List Int},IntsAre vs ns->Vals (ns.map V.int) vs
 |_,_,.nil=> .nil
 |_,_,.cons n t h=> .cons ⟨t,rfl⟩ (aBc h)
def Only (H:Hp):Prop:=∀b,H b=none∨∃o xs,H b=some (.frz o (.lst xs))
theorem aMy {P:Program} {w:World} {K:Ac} {mg mb:Str->Option Value} {CX:CXT} {k:Nat} {fa a:Addr} {fd:FuncData} {x:Str} {sp:Sp} {s₁:Shared} {vs:List Value} {ns:List Int}
  (KX:K.In s₁.heap) (hns:s₁.heap.Ns mainGlobals mg) (hb:s₁.heap.Ns builtinsNs mb) (hbb:∀x:Str,x≠"__name__"->mb x=bootBuiltins x) (hlim:s₁.heap.NoLimit) (hg:s₁.gens= #[])
  (ha:s₁.heap.get? a=some {cls:= .type "list",data:= .seq vs.toArray}) (hi:IntsAre vs ns) (hl:ns.length<=sizeLine) (hr:dN k callerA)
  (F:∀base:Heap,K.In base->base.Ns mainGlobals mg->bB P w K mg base CX k fa fd [x] sp) (hbind:∀(s:Shared) (u:Value),BindsTo s fd ⟨[u],[]⟩ [(x,u)])
  (hsp:∀H:Hp,Only H->SqL K H a (ns.map V.int)->sp [.ref a] H (λv _=>v= .bl true) λ_ _ _=>False)
  (hCX:∀H e s',CX [] H s₁ (λ_ _ _=>False) e s'->False):
  codeAny (model P w) callerA (.call (.ref fa) ⟨[.ref a],[]⟩) (λr s'=>r= .ok (.ret (.bool true))/\OldK s₁.heap s'.heap/\s'.os=s₁.os/\AllBare s'.gens) s₁:=by
 have rv:=aBc hi;have lenV:=hi.length;have core:∀H:Hp,Only H->SqL K H a (ns.map V.int)->HOk P w H s₁.heap->(∀b,H b≠none->b=a)->(H a≠none->K.lookup a=none)->
   codeAny (model P w) callerA (.call (.ref fa) ⟨[.ref a],[]⟩) (λr s'=>r= .ok (.ret (.bool true))/\OldK s₁.heap s'.heap/\s'.os=s₁.os/\AllBare s'.gens) s₁:=by
  intro H hO hS hok hA hK;have base_of:∀{b:Addr} {o:Obj},s₁.heap.get? b=some o->H b=none->(aDj s₁.heap H).get? b=some o:=λe n=>aOx e n;have noA:∀{b:Addr} {o:Obj} {es:Array DictEntry} {ep:Nat},s₁.heap.get? b=some o->o.data= .dict es ep->H b=none:=λ{b o es ep} e d=>by
   cases q:H b with
   |none=>rfl
   |some u=>
    have e':b=a:=hA b (by rw [q];simp);subst e';rw [ha]at e;cases e;have d':Data.seq vs.toArray _=Data.dict es ep:=d;cases d'
  have nsK:∀{b:Addr} {m:Str->Option Value},s₁.heap.Ns b m->(aDj s₁.heap H).Ns b m:=λ{b m} ⟨o,es,ep,e,d,r⟩=>⟨o,es,ep,base_of e (noA e d),d,r⟩;have hKb:K.In (aDj s₁.heap H):=λb o e=>base_of (KX b o e) (by
   cases q:H b with
   |none=>rfl
   |some u=>
    have e':b=a:=hA b (by rw [q];simp);subst e';rw [hK (by rw [q];simp)]at e;cases e)
  have hM:Mod K mg (aDj s₁.heap H):=⟨hKb,nsK hns,⟨mb,nsK hb,hbb⟩,let⟨mc,h1,h2⟩:=hlim;⟨mc,nsK h1,h2⟩⟩;have e0:aFz P w K mg (aDj s₁.heap H) callerA [] s₁ H:=⟨rfl,hM,λb o e=>aPe e,Uj (aJ9 _ _),trivial,λb hb=>absurd (show b∈([]:List Addr)from hb) (by simp),hok,.of_eq hg⟩;refine Hb ((F _ hKb (nsK hns)).run callerA [] s₁ H ⟨[.ref a],[]⟩ [.ref a] [.ref a] _ _ hr e0 (hbind s₁ (.ref a)) (.cons rfl .nil) (hsp H hO hS)) λr s' h=>?_;cases r with
  |error e=>exact(hCX H e s' h).elim
  |ok fl=>
   cases fl with
   |next=>exact El h
   |brk=>exact El h
   |cont=>exact El h
   |ret u=>
    obtain⟨v,H',os,bare,un,hok',r',q⟩:=h;have q':v= .bl true:=q;subst q';obtain rfl:u=Fq true:=r';refine⟨rfl,OldK.of_keep λb o e=>?_,os,bare⟩;cases q:H b with
    |none=>exact un.keep b o e q (by intro z;exact absurd (show b∈([]:List Addr)from z) (by simp)) (by simp)
    |some u=>
     rcases hO b with z|⟨ob,xs,z⟩
     ·rw [q]at z;cases z
     ·have z2:=un.frzs b ob _ z;obtain⟨e1,_⟩:=hok b _ z;obtain⟨e2,_⟩:=hok' b _ z2;rw [e]at e1;cases e1;exact e2
 cases hk:K.lookup a with
 |some o=>
  have e:=KX a o hk;rw [ha]at e;cases e;refine core (λ_=>none) (λ_=> .inl rfl) (.inr ⟨_,vs.toArray,_,hk,rfl,rfl,rfl,by rw [Ak,lenV];exact hl,by simpa using rv⟩) (λb u z=>by have z':(none:Option HO)=some u:=z;cases z') (λb z=>absurd rfl z) λz=>absurd rfl z
 |none=>
  refine core (λb=>if b=a then some (.frz {cls:= .type "list",data:= .seq vs.toArray} (.lst (ns.map V.int)))else none) (λb=>?_) (.inl (.inr ⟨{cls:= .type "list",data:= .seq vs.toArray},if_pos rfl⟩)) (λb u z=>?_) (λb z=>?_) λ_=>hk
  ·by_cases hb:b=a
   ·exact .inr ⟨_,_,if_pos hb⟩
   ·exact .inl (if_neg hb)
  ·by_cases hb:b=a
   ·have z':=(if_pos hb).symm.trans z;cases z';subst hb;exact⟨ha,by rw [Ab];exact hl,vs,_,rv,ha⟩
   ·have z':=(if_neg hb).symm.trans z;cases z'
  ·by_cases hb:b=a
   ·exact hb
   ·exact absurd (if_neg hb) z
end L2
namespace L2
open PySem PySem.Spec PyProof.Rows
theorem aQo {l:PySem.W.OpenLaw} {n k:Nat} {q:Program} {loose:List Str} {XP:(Str->Option Value)->Heap->Prop} {YP:World->Heap->Prop} {d:DefRec} {K:Params->Ac} {CX:World->CXT} {sp:World->Sp} {x:Str}
  (hn:l.most=some n) (hn2:n<=sizeLine) (hdf:d.params.defaults=[]) (hr:dN k callerA)
  (hY:∀(w:World) (h:Heap),YP w h->(K w.params).In h)
  (F:∀(w:World) (mg:Str->Option Value) (fa:Addr) (h:Heap),(K w.params).In h->h.Ns mainGlobals mg->mg d.name=some (.ref fa)->
   ∃fd:FuncData,(∀(s:Shared) (u:Value),BindsTo s fd ⟨[u],[]⟩ [(x,u)])/\
    ∀base:Heap,(K w.params).In base->base.Ns mainGlobals mg->bB l.prog w (K w.params) mg base (CX w) k fa fd [x] (sp w))
  (hsp:∀(w:World) (H:Hp) (a:Addr) (ns:List Int),ns.length<=n->Only H->SqL (K w.params) H a (ns.map V.int)->sp w [.ref a] H (λv _=>v= .bl true) λ_ _ _=>False)
  (hCX:∀(w:World) (H:Hp) (s:Shared) (e:Value) (s':Shared),CX w [] H s (λ_ _ _=>False) e s'->False):
  PySem.W.WalkO q loose XP YP l.row.toRowW d [] (λf vs=>Pc f vs):=by
 refine Att.aEv hn hdf λw s₀ s₁ mg mb fa o pm cd doc a vs ns G Y ho hd hcd hmg hobj hints hlen hg=>?_;have KX:=hY w _ Y;obtain⟨fd,hb,hF⟩:=F w mg fa _ KX G.T.g hmg;exact aMy KX G.T.g G.T.b G.T.builtins G.T.nolimit hg hobj hints (Co hlen hn2) hr hF hb (λH hO hS=>hsp w H a ns hlen hO hS) λH e s'=>hCX w H s₁ e s'
end L2
namespace L2
open PySem PySem.Spec PyProof.Rows
def inClass (s:Stmt) (j:Nat):Stmt:=match s with
 | .ClassDef _ _ _ body _ _ _ _ _ _ _=>body.getD j (.Pass ⟨0,0,0,0⟩)
 |_=> .Pass ⟨0,0,0,0⟩
def jN (s:Stmt):Arguments:=match s with
 | .FunctionDef _ a _ _ _ _ _ _ _ _=>a
 |_=>{posonlyargs:=[],args:=[],vararg:=none,kwonlyargs:=[],kw_defaults:=[],kwarg:=none,defaults:=[]}
def fV (s:Stmt):List Stmt:=match s with
 | .FunctionDef _ _ b _ _ _ _ _ _ _=>b
 |_=>[]
def aC (s:Stmt):Scope:=match s with
 | .FunctionDef _ _ _ _ _ _ sc _ _ _=>sc
 |_=>{kind:= .function,names:=[],isGenerator:=false,isCoroutine:=false}
abbrev CX0:CXT:=λ_ _ _ _ _ _=>False
abbrev E0:XK:=λ_ _ _=>False
theorem bG {X:Cx}:pN CX0 X E0:=λ_ _ _ _ _ _ _ h=>h.elim
structure Fun (K:Ac) (x qual:Str) (st:Stmt) (f:Addr) (fd:FuncData):Prop where
 ex:∃(oc:Value) (od:Option Addr) (kV doc pm:Value) (an:Option Addr) (cdv ct:Value) (osl:Array (Option Value)),
  fd=Eg x qual (jN st) (fV st) (aC st) .none kV doc pm an cdv ct/\K.lookup f=some ⟨oc,od,.func fd,osl⟩/\Kw K cdv qual=true
 kp:Fj K (.ref f)=true
section
variable {P:Program} {w:World} {K:Ac} {mg:Str->Option Value} {base:Heap}
theorem Fun.ok {x qual:Str} {st:Stmt} {f:Addr} {fd:FuncData} {N ps:List Str} {k:Nat} {sp:Sp} (F:Fun K x qual st f fd) (S:aL N ps (aC st)) (len:∀vs H Q E,sp vs H Q E->vs.length=ps.length)
  (hbody:∀(cdv:Value) (A:Around) (outer:List Env) (s:Shared) (H:Hp) (vs:List V) (Q:VK) (E:XK),dN k (A.deeper (envOfC qual (aC st) s.heap.objs.size f cdv))->sp vs H Q E->
   ∃t,PSs (aEp CX0 P w K mg base N qual (aC st) f cdv A outer s H E).nox (fV st) t/\t {nx:=λ_ H'=>Q .non H',rt:=Q} (start N vs) H):bB P w K mg base CX0 (k+1) f fd ps sp:=by
 obtain⟨oc,od,kV,doc,pm,an,cdv,ct,osl,rfl,lk,hcd⟩:=F.ex;refine aVg lk hcd S len λA outer s H vs Q E hr hsp=>?_;obtain⟨t,h,q⟩:=hbody cdv A outer s H vs Q E hr hsp;exact⟨t,h.nox,q⟩
theorem Fun.binds {x qual:Str} {st:Stmt} {f:Addr} {fd:FuncData} {ps:List Str} (F:Fun K x qual st f fd)
  (h:∀(kV doc pm:Value) (an:Option Addr) (cdv ct:Value) (us:List Value),us.length=ps.length->bindArgs (Eg x qual (jN st) (fV st) (aC st) .none kV doc pm an cdv ct) ⟨us,[]⟩=pure (ps.zip us)):Binds K fd ps []:=by
 obtain⟨oc,od,kV,doc,pm,an,cdv,ct,osl,rfl,lk,hcd⟩:=F.ex;exact .all (h kV doc pm an cdv ct)
theorem aUm {x qual:Str} {st:Stmt} {f:Addr} {oc:Value} {od an:Option Addr} {osl:Array (Option Value)} {kV doc pm cdv ct:Value} (l:K.lookup f=some ⟨oc,od,.func (Eg x qual (jN st) (fV st) (aC st) .none kV doc pm an cdv ct),osl⟩)
  (c:Kw K cdv qual=true) (k:Fj K (.ref f)=true):Fun K x qual st f (Eg x qual (jN st) (fV st) (aC st) .none kV doc pm an cdv ct):=⟨⟨oc,od,kV,doc,pm,an,cdv,ct,osl,rfl,l,c⟩,k⟩
end
theorem qP {A:Around} {k:Nat} (hr:dN k A):A.units+1<cLine:=Jx (Nat.add_le_add_left (by decide:1<=64) _) hr.units
section
variable {X:Cx}
theorem pv (i:Nat) {x:Str} {pos:Pos} (hN:X.N[i]? =some x:=by rfl) (hv:Vis X.env.scope x:=by first|exact Bw rfl|exact Cb (Bw rfl)|exact Cb (Cb rfl)) (hd:(x==("__debug__":Str))=false:=by decide)
  (hcd:(x==("__classdict__":Str))=false:=by decide):PE X (.Name x pos) (aXu i):=mZ hN hv hd hcd
end
theorem pX {A B:Prop} (h:B):if false=true then A else B:=by
 rw [if_neg Aj];exact h
theorem aD2 {A B:Prop} (h:A):if true=true then A else B:=by
 rw [if_pos rfl];exact h
theorem aYr {c A B:Prop} [Decidable c] (h1:c->A) (h2:¬c->B):if c then A else B:=by
 by_cases h:c
 ·rw [if_pos h];exact h1 h
 ·rw [if_neg h];exact h2 h
theorem aL1 {c A B:Prop} [Decidable c] (hc:c) (h:B):if(!decide c)=true then A else B:=by
 rw [decide_eq_true hc];exact pX h
def eU (H H':Hp):Prop:=∀b o,H b=some o->H' b=some o
theorem eU.refl (H:Hp):eU H H:=λ_ _ h=>h
theorem eU.trans {H H1 H2:Hp} (a:eU H H1) (b:eU H1 H2):eU H H2:=λc o h=>b c o (a c o h)
end L2
set_option maxHeartbeats 4000000
namespace L2
open PySem PySem.Spec PyProof.Rows
section
variable {κ:Type} [DecidableEq κ]
def lZ (kvs:List (κ×V)) (k:κ):Option V:=(kvs.find? λkv=>decide (kv.1=k)).map (·.2)
def putK (kvs:List (κ×V)) (k:κ) (v:V):List (κ×V):=
 if(kvs.any λkv=>decide (kv.1=k))=true then kvs.map (λkv=>if kv.1=k then(kv.1,v)else kv)else kvs++[(k,v)]
theorem oF {p:κ×V} {r:List (κ×V)} {k:κ} (e:p.1=k):lZ (p::r) k=some p.2:=by simp [lZ,En,e]
theorem nJ {p:κ×V} {r:List (κ×V)} {k:κ} (e:¬p.1=k):lZ (p::r) k=lZ r k:=by simp [lZ,En,e]
theorem aEa (k:κ):∀kvs:List (κ×V),(kvs.any λkv=>decide (kv.1=k))=(lZ kvs k).isSome
 | []=>rfl
 |p::r=>by
  rw [Ds];by_cases e:p.1=k
  ·simp only [oF e,decide_eq_true e,Bool.true_or,Option.isSome_some]
  ·rw [nJ e,decide_eq_false e,Bool.false_or];exact aEa k r
theorem qG (kvs:List (κ×V)) (k:κ) (v:V):(putK kvs k v).length<=kvs.length+1:=by
 unfold putK;split
 ·rw [Ab];omega
 ·rw [Ah,Ag,Bd];omega
theorem rW.isSome_eq {o:Option V} {u:Option Value} (r:rW o u):o.isSome=u.isSome:=by
 cases o with
 |none=>cases u with
  |none=>rfl
  |some _=>exact(show False from r).elim
 |some _=>cases u with
  |none=>exact(show False from r).elim
  |some _=>rfl
theorem KV.val {kvs:List (κ×V)} {vs:List (κ×Value)} (r:KV kvs vs) (k:κ):rW (lZ kvs k) (valueAt vs k):=by
 unfold KV at r;induction r with
 |nil=>exact Eh
 |@cons p q ps qs h t ih=>
  obtain⟨h1,h2⟩:=h;by_cases e:p.1=k
  ·have e':q.1=k:=h1.symm.trans e;have b:valueAt (q::qs) k=some q.2:=by simp [valueAt,En,e']
   rw [oF e,b];exact h2
  ·have e':¬q.1=k:=λz=>e (h1.trans z);have b:valueAt (q::qs) k=valueAt qs k:=by simp [valueAt,En,e']
   rw [nJ e,b];exact ih
theorem KV.any {kvs:List (κ×V)} {vs:List (κ×Value)} (r:KV kvs vs) (k:κ):(kvs.any λkv=>decide (kv.1=k))=vs.any λkv=>decide (kv.1=k):=by
 unfold KV at r;induction r with
 |nil=>rfl
 |cons h t ih=>rw [Ds,Ds,ih,h.1]
theorem KV.repl {kvs:List (κ×V)} {vs:List (κ×Value)} (r:KV kvs vs) (k:κ) {y:V} {u:Value} (ry:RelV y u):
  KV (kvs.map λkv=>if kv.1=k then(kv.1,y)else kv) (vs.map λkv=>if kv.1=k then(kv.1,u)else kv):=by
 unfold KV at r⊢;induction r with
 |nil=>exact .nil
 |@cons p q ps qs h t ih=>
  rw [Aw,Aw];refine .cons ?_ ih;obtain⟨h1,h2⟩:=h;by_cases e:p.1=k
  ·rw [if_pos e,if_pos (h1.symm.trans e)];exact⟨h1,ry⟩
  ·rw [if_neg e,if_neg (λz=>e (h1.trans z))];exact⟨h1,h2⟩
theorem KV.put {kvs:List (κ×V)} {vs:List (κ×Value)} (r:KV kvs vs) (k:κ) {y:V} {u:Value} (ry:RelV y u):KV (putK kvs k y) (stored vs k u):=by
 unfold putK stored;rw [r.any k];by_cases e:(vs.any λkv=>decide (kv.1=k))=true
 ·rw [if_pos e,if_pos e];exact r.repl k ry
 ·rw [if_neg e,if_neg e];exact Ro r ⟨rfl,ry⟩
theorem KV.length {kvs:List (κ×V)} {vs:List (κ×Value)} (r:KV kvs vs):kvs.length=vs.length:=Md r
end
theorem aI1 {P:Program} {w:World} {k:Key} {u:Value} (r:RelV (kV k) u):(dW P w).is k u=true:=by
 cases k with
 |inl i=>obtain⟨t,e⟩:=(show∃t,u=Dc i t from r);subst e;exact aEf P w i t
 |inr x=>obtain⟨t,e⟩:=(show∃t,u=Jq x t from r);subst e;exact aFl P w x t
theorem aBk {P:Program} {w:World}:∀{ks:List Key} {us:List Value},Vals (ks.map kV) us->ItemsAre (dW P w) ks us
 | [],_,r=>by rw [Du]at r;cases r;exact .nil
 |k::ks,_,r=>by
  rw [Aw]at r;cases r with
  |cons h t=>exact .cons (aI1 h) (aBk t)
abbrev KT (H:Hp):List (List Key×V)->List (List Key×Addr×Value)->Prop:=Paired λp q=>p.1=q.1/\H q.2.1=some (.tup (p.1.map kV))/\RelV p.2 q.2.2
theorem KT.val {H:Hp} {kvs:List (List Key×V)} {xs:List (List Key×Addr×Value)} (r:KT H kvs xs) (k:List Key):rW (lZ kvs k) ((atKey xs k).map (·.2)):=by
 induction r with
 |nil=>exact Eh
 |@cons p q ps qs h t ih=>
  obtain⟨h1,_,h2⟩:=h;by_cases e:p.1=k
  ·have e':q.1=k:=h1.symm.trans e;have b:atKey (q::qs) k=some q.2:=by simp [atKey,En,e']
   rw [oF e,b];exact h2
  ·have e':¬q.1=k:=λz=>e (h1.trans z);have b:atKey (q::qs) k=atKey qs k:=by simp [atKey,En,e']
   rw [nJ e,b];exact ih
theorem KT.repl {H:Hp} {kvs:List (List Key×V)} {xs:List (List Key×Addr×Value)} (r:KT H kvs xs) (k:List Key) {y:V} {u:Value} (ry:RelV y u):
  KT H (kvs.map λkv=>if kv.1=k then(kv.1,y)else kv) (xs.map (putAt k u)):=by
 induction r with
 |nil=>exact .nil
 |@cons p q ps qs h t ih=>
  rw [Aw,Aw];refine .cons ?_ ih;obtain⟨h1,h2,h3⟩:=h;unfold putAt;by_cases e:p.1=k
  ·rw [if_pos e,if_pos (h1.symm.trans e)];exact⟨h1,h2,ry⟩
  ·rw [if_neg e,if_neg (λz=>e (h1.trans z))];exact⟨h1,h2,h3⟩
theorem KT.put {H:Hp} {kvs:List (List Key×V)} {xs:List (List Key×Addr×Value)} (r:KT H kvs xs) (k:List Key) {b:Addr} {y:V} {u:Value} (hb:H b=some (.tup (k.map kV))) (ry:RelV y u):
  KT H (putK kvs k y) (storedH xs k b u):=by
 have e:(kvs.any λkv=>decide (kv.1=k))=(atKey xs k).isSome:=by
  rw [aEa,(r.val k).isSome_eq,Option.isSome_map]
 unfold putK storedH;rw [e];by_cases q:(atKey xs k).isSome=true
 ·rw [if_pos q,if_pos q];exact r.repl k ry
 ·rw [if_neg q,if_neg q];exact Ro r ⟨rfl,hb,ry⟩
theorem KT.keeps {H H':Hp} {kvs:List (List Key×V)} {xs:List (List Key×Addr×Value)} (r:KT H kvs xs) (ht:∀b ys,H b=some (.tup ys)->H' b=some (.tup ys)):KT H' kvs xs:=
 Paired.mapP r λ_ _ z=>⟨z.1,ht _ _ z.2.1,z.2.2⟩
section
variable {P:Program} {w:World} {H:Hp} {h:Heap} {a:Addr}
theorem aR5 {u:HO} (ok:HOk P w H h) (e:Rd H a u):cT P w H h a u:=e.ok ok
theorem aL5 {kvs:List (Key×V)} (ok:HOk P w H h) (e:Rd H a (.dK kvs)):kvs.length<=sizeLine/\(a==sysModules)=false/\∃vs,KV kvs vs/\h.DictOf (dW P w) a vs:=
 show cT P w H h a (.dK kvs)from aR5 ok e
theorem aR2 {kvs:List (Key×V)} (ok:HOk P w H h) (e:H a=some (.dK kvs)):kvs.length<=sizeLine/\(a==sysModules)=false/\∃vs,KV kvs vs/\h.DictOf (dW P w) a vs:=aL5 ok (.inl e)
theorem aGt {ks:List Key} (ok:HOk P w H h) (e:H a=some (.tup (ks.map kV))):(tupleKind (dW P w)).is h ks a:=by
 obtain⟨_,its,r,o,h1,h2,n,h3⟩:=(show cT P w H h a (.tup (ks.map kV))from ok a _ e);exact⟨o,its.toArray,n,h1,h2,h3,by simpa using aBk r⟩
theorem aNj {kvs:List (List Key×V)} (ok:HOk P w H h) (e:Rd H a (.dT kvs)):kvs.length<=sizeLine/\(a==sysModules)=false/\
  ∃xs,KT H kvs xs/\h.DictOfH (tupleKind (dW P w)) a xs:=by
 obtain⟨z,y,xs,r,o,es,ep,h1,h2,h3,h4,h5⟩:=(show cT P w H h a (.dT kvs)from aR5 ok e);refine⟨z,y,xs,r,o,es,ep,h1,h2,h3,h4,λx hx=>?_,h5⟩;have all:∀{l:List (List Key×V)} {m:List (List Key×Addr×Value)},KT H l m->∀x∈m,(tupleKind (dW P w)).is h x.1 x.2.1:=by
  intro l m q;induction q with
  |nil=>intro x hx;exact nomatch hx
  |@cons p q ps qs hq t ih=>
   intro x hx;rcases List.mem_cons.mp hx with e|hx
   ·subst e;exact aGt ok (by rw [<-hq.1];exact hq.2.1)
   ·exact ih x hx
 exact all r x hx
theorem aWc {kvs:List (List Key×V)} (ok:HOk P w H h) (e:H a=some (.dT kvs)):kvs.length<=sizeLine/\(a==sysModules)=false/\
  ∃xs,KT H kvs xs/\h.DictOfH (tupleKind (dW P w)) a xs:=aNj ok (.inl e)
end
def zV (H:Hp) (a:Addr) (y:V) (r:Option V):Prop:=
 (∃kvs k,Rd H a (.dK kvs)/\y=kV k/\r=lZ kvs k)∨∃kvs k b,Rd H a (.dT kvs)/\y= .ref b/\H b=some (.tup (k.map kV))/\r=lZ kvs k
def aJp (H:Hp) (a:Addr) (y v:V) (H':Hp):Prop:=
 (∃kvs k,H a=some (.dK kvs)/\y=kV k/\kvs.length<sizeLine/\H'=upd H a (.dK (putK kvs k v)))∨
 ∃kvs k b,H a=some (.dT kvs)/\y= .ref b/\H b=some (.tup (k.map kV))/\kvs.length<sizeLine/\H'=upd H a (.dT (putK kvs k v))
theorem zV.k {H:Hp} {a:Addr} {kvs:List (Key×V)} {k:Key} (e:H a=some (.dK kvs)):zV H a (kV k) (lZ kvs k):= .inl ⟨kvs,k,.inl e,rfl,rfl⟩
theorem aJp.k {H:Hp} {a:Addr} {kvs:List (Key×V)} {k:Key} {v:V} (e:H a=some (.dK kvs)) (hl:kvs.length<sizeLine):aJp H a (kV k) v (upd H a (.dK (putK kvs k v))):= .inl ⟨kvs,k,e,rfl,hl,rfl⟩
section
variable {X:Cx} {pins:List (Addr×Obj)} {σ:St} {H:Hp} {s:Shared} {a:Addr} {y v:V} {u r:Value} {o:Option V} {A:Around} {E:Value->Shared->Prop}
theorem Inv.big (I:Inv X pins σ H s):sysModules<s.heap.objs.size:=by
 have h:mainGlobals<s.heap.objs.size:=(I.mod.glob.keeps I.bk).lt;exact Ko (by decide) h
theorem aJo {Q:Value->Shared->Prop} (hu:A.units+1<cLine) (I:Inv X pins σ H s) (g:zV H a y (some v)) (ry:RelV y u) (h:∀w' s',Inv X pins σ H s'->RelV v w'->Q w' s'):
  wpAny (model X.prog X.w) A (getItem (.ref a) u) Q E s:=by
 rcases g with ⟨kvs,k,e,ey,l⟩|⟨kvs,k,b,e,ey,eb,l⟩
 ·subst ey;obtain⟨z,hd,vs,rel,dd⟩:=aL5 I.hok e;obtain⟨w',hw,rw'⟩:=rW.some_of (v:=v) (o:=valueAt vs k) (by rw [l];exact rel.val k);exact wpAny_getItem_of (aI1 ry) dd.mapOf hw (h w' _ (I.tok _) rw')
 ·subst ey;cases (show u=Au b from ry);obtain⟨z,hd,xs,rel,dd⟩:=aNj I.hok e;obtain⟨w',hw,rw'⟩:=rW.some_of (v:=v) (o:=(atKey xs k).map (·.2)) (by rw [l];exact rel.val k);obtain⟨p,hp,hp2⟩:=Option.map_eq_some_iff.mp hw;refine wpAny_getItem_heap (Rj hu) (aGt I.hok eb) dd hp ?_;rw [hp2];exact h w' _ (I.tok _) rw'
theorem yH {h':Heap} {t':Nat} {ob:HO} (I:Inv X pins σ H s) (mu:Mut (H a)) (hs:Cw a s.heap h') (he:∃q,h'.get? a=some q) (new:cT X.prog X.w (upd H a ob) h' a ob):
  Inv X pins σ (upd H a ob) {s with heap:=h',toks:=t'}:=
 I.write (x:=a) (e:=a) mu (.inl rfl) (λb q hb z=>(hs.2 b hb).trans z) he new
theorem aN0 {P:Program} {w:World} {H':Hp} {h':Heap} {kvs:List (Key×V)} {vs:List (Key×Value)} (z:kvs.length<=sizeLine) (hd:(a==sysModules)=false) (rel:KV kvs vs) (dd:h'.DictOf (dW P w) a vs):
  cT P w H' h' a (.dK kvs):=⟨z,hd,vs,rel,dd⟩
theorem aJj {H':Hp} {Q:Unit->Shared->Prop} (hu:A.units+1<cLine) (I:Inv X pins σ H s) (g:aJp H a y v H') (ry:RelV y u) (rv:RelV v r) (h:∀s',Inv X pins σ H' s'->Q () s'):
  wpAny (model X.prog X.w) A (setItem (.ref a) u r) Q E s:=by
 rcases g with ⟨kvs,k,e,ey,l,eH⟩|⟨kvs,k,b,e,ey,eb,l,eH⟩
 ·subst ey eH;obtain⟨z,hd,vs,rel,dd⟩:=aR2 I.hok e;have hz:vs.length<=sizeLine:=by rw [<-rel.length];exact z
  have hl:(putK kvs k v).length<=sizeLine:=by have:=qG kvs k v;omega
  refine wpAny_setItem_pairs (hsz:=hz) (aI1 ry) dd λh' dd' hs=>h _ ?_;have he:∃q,h'.get? a=some q:=let⟨q,_,_,hq,_⟩:=dd';⟨q,hq⟩;exact yH I (by rw [e];exact Eh) hs he (aN0 hl hd (rel.put k rv) dd')
 ·subst ey eH;cases (show u=Au b from ry);obtain⟨z,hd,xs,rel,dd⟩:=aWc I.hok e;have hz:xs.length<=sizeLine:=by rw [<-Md rel];exact z
  have hl:(putK kvs k v).length<=sizeLine:=by have:=qG kvs k v;omega
  refine Ri (hsz:=hz) (Rj hu) (aGt I.hok eb) dd λh' dd' hs=>h _ ?_;obtain⟨q,es,ep,hq,h2,h3,h4,_,h5⟩:=dd';refine yH I (by rw [e];exact Eh) hs ⟨q,hq⟩ ⟨hl,hd,_,(rel.put k eb rv).keeps λc ys ec=>?_,q,es,ep,hq,h2,h3,h4,h5⟩;rw [aP (aWt ec e (λz=>nomatch z))];exact ec
end
section
variable {X:Cx} {pins:List (Addr×Obj)} {σ:St} {H:Hp} {s:Shared} {a:Addr} {kvs:List (Key×V)} {k:Key} {u:Value} {A:Around} {E:Value->Shared->Prop}
end
def aP2 (i:Expr):Prop:=∀ov iv,subscripted i false ov iv=operate [ov,iv] (getItem ov iv)
theorem aPr {prog:Program} {w:World} {A:Around} {E:Value->Shared->Prop} {s:Shared} {env:Env} {value slice:Expr} {pos:Pos} {T id:String} {Q:Value->Shared->Prop}
  (hl:typeLookup (.type T) "__getitem__"=pure (some (.builtin id))) (hs:aP2 slice)
  (h:wpAny (model prog w) A (eval value env) (λo s₁=>wpAny (model prog w) A (eval slice env) (λi s₂=>s₂.TypeIs o T/\wpAny (model prog w) A (getItem o i) Q E s₂) E s₁) E s):
  wpAny (model prog w) A (eval (.Subscript value slice pos) env) Q E s:=by
 refine Ot (Cq h (λo s₁ h₁=>Cq h₁ (λi s₂ h₂=>?_) λ_ _ x=>x) λ_ _ x=>x);obtain⟨hT,h₂⟩:=h₂;unfold subscriptTail;refine Aa ?_;rw [getitemInPython_of_ne hT.not_modules];refine Aa (Et hT hl ?_);have fin:wpAny (model prog w) A (subscripted slice false o i) (λr s₃=>wpAny (model prog w) A (letTemporaryGo value o r>>=λ_=>pure r) Q E s₃) E s₂:=by
  rw [hs o i];exact wpAny_operating (Cq h₂ (λr s₃ h₃=>Aa (wpAny_letTemporaryGo (Ad h₃))) λ_ _ x=>x)
 first
  |exact Ad (Aa fin)
  |exact Aa (Ad (Aa fin))
  |exact Aa fin
theorem aE9 {X:Cx} {pins:List (Addr×Obj)} {σ:St} {H:Hp} {s:Shared} {a:Addr} {y:V} {o:Option V} (I:Inv X pins σ H s) (g:zV H a y o):s.TypeIs (.ref a) "dict":=by
 rcases g with ⟨kvs,k,e,_,_⟩|⟨kvs,k,b,e,_,_,_⟩
 ·obtain⟨_,_,vs,_,dd⟩:=aL5 I.hok e;exact dd.typeIs
 ·obtain⟨_,_,xs,_,dd⟩:=aNj I.hok e;exact dd.typeIs
def aXt (td ty:TE):TE:=λσ H Q=>td σ H λx H1=>ty σ H1 λy H2=>∃a v,x= .ref a/\zV H2 a y (some v)/\Q v H2
def aWq (td ty tv:TE):TS:=λD σ H=>tv σ H λv H1=>td σ H1 λx H2=>ty σ H2 λy H3=>∃a H4,x= .ref a/\aJp H3 a y v H4/\D.nx σ H4
section
variable {X:Cx} {o i e value:Expr} {pos pos' tpos:Pos} {td ty tv:TE}
theorem aC0 (hu:X.A.units+1<cLine) (ho:PE X o td) (hi:PE X i ty) (hs:aP2 i):PE X (.Subscript o i pos) (aXt td ty):=by
 intro pins s σ H Q I h;refine aPr PySem.F.slot_dict_getitem.lookup hs (thn (ho pins s σ H _ I h) λu s1 ⟨x,H1,I1,rx,q1⟩=>thn (hi pins s1 σ H1 _ I1 q1) λiv s2 ⟨y,H2,I2,ry,a,v,ex,g,q2⟩=>?_);subst ex;obtain rfl:u=Au a:=rx;exact⟨aE9 I2 g,aJo hu I2 g ry λw' s3 I3 rw'=>⟨v,H2,I3,rw',q2⟩⟩
theorem aH5 (hu:X.A.units+1<cLine) (ho:PE X o td) (hi:PE X i ty) (hv:PE X value tv) (hs:swapsWith value (some (.Subscript o i pos')) pos.line X.env=pure false):
  PS X (.Assign [.Subscript o i pos'] value pos) (aWq td ty tv):=by
 intro pins s σ H D I h;refine Pk (thn (hv pins s σ H _ I h) λr s1 ⟨v,H1,I1,rv,q1⟩=>thn (ho pins s1 σ H1 _ I1 q1) λu s2 ⟨x,H2,I2,rx,q2⟩=>thn (hi pins s2 σ H2 _ I2 q2) λiv s3 ⟨y,H3,I3,ry,a,H4,ex,g,q3⟩=>?_) hs;subst ex;obtain rfl:u=Au a:=rx;exact aJj hu I3 g ry rv λs4 I4=>⟨σ,H4,I4,q3⟩
end
theorem aLt {P:Program} {w:World} {H:Hp} (h:Heap) (hb:sysModules<h.objs.size):cT P w H (h.push {cls:= .type "dict",data:= .dict #[]}) h.objs.size (.dK []):=
 ⟨Bb _,beq_eq_false_iff_ne.mpr (Di (Ax hb)),[],.nil,Vd h⟩
section
variable {X:Cx} {pos:Pos}
end
def aDo:List (TE×TE)->St->Hp->(List (V×V)->Hp->Prop)->Prop
 | [],_,H,Q=>Q [] H
 |(tk,tv)::r,σ,H,Q=>tk σ H λx H1=>tv σ H1 λy H2=>aDo r σ H2 λps H3=>Q ((x,y)::ps) H3
abbrev VV:List (V×V)->List (Value×Value)->Prop:=Paired λp q=>RelV p.1 q.1/\RelV p.2 q.2
def PPs (X:Cx) (pos:Pos) (keys:List (Option Expr)) (values:List Expr) (trs:List (TE×TE)):Prop:=
 ∀(pins:List (Addr×Obj)) (s:Shared) (σ:St) (H:Hp) (Q:List (V×V)->Hp->Prop),Inv X pins σ H s->aDo trs σ H Q->
  wpAny (model X.prog X.w) X.A (evalPairs (pairTrees keys values X.env pos)) (λvs s'=>∃ps H',Inv X pins σ H' s'/\VV ps vs/\Q ps H') X.xe s
theorem aQ8 {X:Cx} {pos:Pos}:PPs X pos [] [] []:=λpins s σ H Q I h=>pairTrees_nil_walk ⟨[],H,I,.nil,h⟩
theorem aLf {X:Cx} {pos:Pos} {k v:Expr} {ks:List (Option Expr)} {vs:List Expr} {tk tv:TE} {trs:List (TE×TE)} (hk:PE X k tk) (hv:PE X v tv) (hr:PPs X pos ks vs trs):
  PPs X pos (some k::ks) (v::vs) ((tk,tv)::trs):=λpins s σ H Q I h=>
 pairTrees_cons_walk (thn (hk pins s σ H _ I h) λu s1 ⟨x,H1,I1,rx,q1⟩=>thn (hv pins s1 σ H1 _ I1 q1) λw2 s2 ⟨y,H2,I2,ry,q2⟩=>
  thn (hr pins s2 σ H2 _ I2 q2) λws s3 ⟨ps,H3,I3,rel,q3⟩=>⟨(x,y)::ps,H3,I3,.cons ⟨rx,ry⟩ rel,q3⟩)
def qM (kvs more:List (Key×V)):List (Key×V):=more.foldl (λacc kv=>putK acc kv.1 kv.2) kvs
theorem KV.merge:∀{more:List (Key×V)} {rs:List (Key×Value)} {kvs:List (Key×V)} {vs:List (Key×Value)},KV more rs->KV kvs vs->KV (qM kvs more) (merged vs rs):=by
 intro more rs kvs vs r;unfold KV at r;induction r generalizing kvs vs with
 |nil=>intro q;exact q
 |@cons p q ps qs h t ih=>
  intro r0;have e:KV (putK kvs p.1 p.2) (stored vs q.1 q.2):=by
   have:=r0.put p.1 h.2;rw [<-h.1];exact this
  exact ih e
theorem sE:∀(more kvs:List (Key×V)),(qM kvs more).length<=kvs.length+more.length
 | [],kvs=>by show kvs.length<=kvs.length+0;omega
 |p::r,kvs=>by
  have h1:=sE r (putK kvs p.1 p.2);have h2:=qG kvs p.1 p.2;show(qM (putK kvs p.1 p.2) r).length<=_;rw [Ag];omega
theorem zO {P:Program} {w:World}:∀{kvs:List (Key×V)} {ws:List (Value×Value)},VV (kvs.map λkv=>(kV kv.1,kv.2)) ws->∃rs,Carries (dW P w) ws rs/\KV kvs rs
 | [],_,r=>by rw [Du]at r;cases r;exact⟨[],Eh,.nil⟩
 |p::kvs,_,r=>by
  rw [Aw]at r;cases r with
  |@cons a b as bs h t=>
   obtain⟨rs,c,q⟩:=zO (P:=P) (w:=w) t;obtain⟨b1,b2⟩:=b;exact⟨(p.1,b2)::rs,⟨aI1 h.1,rfl,c⟩,.cons ⟨rfl,h.2⟩ q⟩
def aWz (trs:List (TE×TE)):TE:=λσ H Q=>∀p,H p=none->aDo trs σ (upd H p (.dK [])) λps H2=>H2 p=some (.dK [])/\∃kvs:List (Key×V),ps=kvs.map (λkv=>(kV kv.1,kv.2))/\kvs.length<=15/\Q (.ref p) (upd H2 p (.dK (qM [] kvs)))
theorem aQm {X:Cx} {pos:Pos} {keys:List (Option Expr)} {values:List Expr} {trs:List (TE×TE)} (h:PPs X pos keys values trs) (hall:keys.all (·.isSome)=true) (hl:keys.length=values.length) (h0:keys≠[])
  (h15:keys.length<=15):PE X (.Dict keys values pos) (aWz trs):=by
 intro pins s σ H Q I q;have hn:=I.hok.fresh (Am s.heap.objs.size);have I1:=I.laid (a:=s.heap.objs.size) (o:= .dK []) (h':=s.heap.push {cls:= .type "dict",data:= .dict #[]}) (t':=s.toks) (λ_ _ q=>Ai _ q) (Am _) (aLt s.heap I.big);refine wpAny_Dict_walk (knd:=dW X.prog X.w) hall hl h0 h15 (thn (h pins _ σ _ _ I1 (q _ hn)) λws s2 ⟨ps,H2,I2,rel,e,kvs,ep,lk,q2⟩=>?_);subst ep;obtain⟨rs,c,rk⟩:=zO (P:=X.prog) (w:=X.w) rel;obtain⟨z,hd,vs0,r0,dd⟩:=aR2 I2.hok e;cases r0;refine⟨rs,c,dd,λh' dd' hs=>⟨.ref s.heap.objs.size,_,?_,rfl,q2⟩⟩;have hz:(qM [] kvs).length<=sizeLine:=by
  have h1:=sE kvs [];rw [Bd]at h1;rw [Cr];omega
 have he:∃q,h'.get? s.heap.objs.size=some q:=let⟨q,_,_,hq,_⟩:=dd';⟨q,hq⟩;exact yH I2 (by rw [e];exact Eh) hs he (aN0 hz hd (rk.merge .nil) dd')
section
variable {X:Cx} {pins:List (Addr×Obj)} {σ:St} {H:Hp} {s:Shared} {a:Addr} {y d:V} {u r:Value} {o:Option V} {A:Around} {E:Value->Shared->Prop}
end
section
variable {X:Cx} {o e f:Expr} {apos cpos:Pos} {td ty tx:TE}
end
section
variable {X:Cx} {pins:List (Addr×Obj)} {σ:St} {H:Hp} {s:Shared} {a:Addr} {kvs:List (Key×V)} {A:Around} {E:Value->Shared->Prop}
end
section
variable {X:Cx} {pins:List (Addr×Obj)} {σ:St} {H:Hp} {s:Shared} {a:Addr} {y:V} {u:Value} {A:Around} {E:Value->Shared->Prop}
end
end L2
namespace L2
open PySem PySem.Spec PyProof.Rows
section
variable {X:Cx}
end
section
variable {κ:Type} [DecidableEq κ]
end
end L2
namespace PySem
open AutoSeq1 (wpAny_loadPart')
open Sem (wp)
section
variable {prog:Program} {w:World} {A:Around} {E:Value->Shared->Prop} {s:Shared}
end
section
variable {prog:Program} {w:World} {A:Around} {E:Value->Shared->Prop} {s:Shared}
end
end PySem
namespace PySem
open Sem (wp)
section
variable {prog:Program} {w:World} {K:Type} [DecidableEq K] (knd:KeyKind prog w K)
def bH (h:Heap) (x:K×List K) (a:Addr):Prop:=∃o v b n,h.get? a=some o/\o.cls= .type "tuple"/\o.data= .seq #[v,.ref b] n/\knd.is x.1 v=true/\IsTupleKey knd h x.2 b
def pZ (x:K×List K):Int:=reduceHash (Dl [knd.hash x.1,tupleKeyHash knd x.2])
variable {knd}
theorem bH.typeIs {s:Shared} {x:K×List K} {a:Addr} (h:bH knd s.heap x a):s.TypeIs (.ref a) "tuple":=let⟨o,_,_,_,ho,hc,_⟩:=h;⟨o,ho,hc⟩
theorem bH.inj {h:Heap} {a:Addr} {x y:K×List K} (hx:bH knd h x a) (hy:bH knd h y a):x=y:=by
 obtain⟨o,v,b,n,ho,_,hd,h1,h2⟩:=hx;obtain⟨o',v',b',n',ho',_,hd',h1',h2'⟩:=hy;obtain rfl:o=o':=Bm (ho.symm.trans ho');rw [hd]at hd';injection hd' with e _
 have e1:v=v'/\b=b':=by simpa using e
 obtain⟨rfl,rfl⟩:=e1;exact Pd (knd.inj _ _ _ h1 h1') (h2.inj h2')
theorem bH.keeps {h h':Heap} {x:K×List K} {a d:Addr} {o:Obj} {es ep} (hx:bH knd h x a) (ho:h.get? d=some o) (hd:o.data= .dict es ep) (hs:Cw d h h'):bH knd h' x a:=by
 obtain⟨o',v,b,n,ho',hc,hd',h1,h2⟩:=hx;have hne:a≠d:=by
  rintro rfl;obtain rfl:o'=o:=Bm (ho'.symm.trans ho);rw [hd]at hd';exact nomatch hd'
 exact⟨o',v,b,n,(hs.2 a hne).trans ho',hc,hd',h1,h2.keeps ho hd hs⟩
variable {A:Around} {E:Value->Shared->Prop} {s:Shared}
theorem vA {x:K×List K} {a:Addr} {Q:Int->Shared->Prop} (hu:A.units+1<cLine) (hk:bH knd s.heap x a) (h:Q (pZ knd x) {s with toks:=s.toks+(x.2.length+3)}):
  wpAny (model prog w) A (pyHash (.ref a)) Q E s:=by
 have hT:=hk.typeIs
 obtain⟨o,v,b,n,ho,_,hd,h1,h2⟩:=hk
 unfold pyHash
 first|unfold pyHashByItsType|skip
 first|refine Aa (wpAny_cRoomFor_or (.inr (by omega)) ?_)|skip
 refine Aa (Et hT F.slot_tuple_hash.lookup ?_)
 show wpAny _ _ (if(some (Value.builtin "tuple.__hash__")==some Cg)=true then _ else _) Q E s
 rw [if_neg (by rw [beq_builtin_none];exact Aj)]
 refine Aa (Et hT F.slot_tuple_hash.lookup ?_)
 show wpAny _ _ (callSpecialIfBoundUnlessNone? (.ref a) "__hash__" _>>=_) Q E s
 refine Aa (wpAny_callSpecialIfBoundUnlessNone?_slot hT Rg (De Rg hT F.entry_tuple_hash ?_ (F.args_tuple_hash_1 _)))
 show wpAny _ _ (Sz (.ref a)>>=_) _ _ s
 refine Aa (Gk ho hd ?_)
 refine Aa ?_
 rw [<-Ei]
 refine Dz _
  (λrest (r:Array Int) s'=>(rest=[v,.ref b]/\r= #[]/\s'=s)∨(rest=[.ref b]/\r= #[knd.hash x.1]/\s'={s with toks:=s.toks+1})∨(rest=[]/\r= #[knd.hash x.1,tupleKeyHash knd x.2]/\s'={s with toks:=s.toks+1+(x.2.length+1)}))
  _ ?_ ?_ _ _ (.inl ⟨rfl,rfl,rfl⟩)
 ·rintro y rest r s' (⟨e,rfl,rfl⟩|⟨e,rfl,rfl⟩|⟨e,_,_⟩)
  ·obtain⟨rfl,rfl⟩:=Bs e
   refine Aa (knd.pyHash h1 ?_)
   exact Ad (.inr (.inl ⟨rfl,rfl,rfl⟩))
  ·obtain⟨rfl,rfl⟩:=Bs e
   refine Aa (wpAny_pyHash_tuple (show A.in1.units<cLine from hu) h2 ?_)
   exact Ad (.inr (.inr ⟨rfl,rfl,rfl⟩))
  ·cases e
 ·rintro r s' (⟨e,_,_⟩|⟨e,_,_⟩|⟨_,rfl,rfl⟩)
  ·cases e
  ·cases e
  ·show wpAny _ _ (retInt (Dl [knd.hash x.1,tupleKeyHash knd x.2])) _ _ _
   refine wpAny_ret_mkInt ?_
   show wpAny _ _ (if(decide (-(2:Int) ^ 63<=Dl [knd.hash x.1,tupleKeyHash knd x.2]) && decide (Dl [knd.hash x.1,tupleKeyHash knd x.2]<2 ^ 63))=true then _ else _) Q E _
   have et:s.toks+1+(x.2.length+1)+1=s.toks+(x.2.length+3):=by omega
   unfold pZ reduceHash at h
   by_cases hr:(decide (-(2:Int) ^ 63<=Dl [knd.hash x.1,tupleKeyHash knd x.2]) && decide (Dl [knd.hash x.1,tupleKeyHash knd x.2]<2 ^ 63))=true
   ·rw [if_pos hr]
    rw [if_pos hr, <-et]at h
    exact Ad h
   ·rw [if_neg hr]
    rw [if_neg hr, <-et]at h
    exact Aa (Ju (Ad h))
theorem aDc {x y:K×List K} {a b:Addr} {P:Fin->Shared->Prop} (hu:A.units<cLine) (hx:bH knd s.heap x a) (hy:bH knd s.heap y b) (h:P (.done (.ret (.bool (decide (x=y))))) s):
  wpAny (model prog w) A (Builtin.«tuple.__eq__» ⟨[.ref a,.ref b],[]⟩) P E s:=by
 have hTb:=hy.typeIs;obtain⟨oa,va,ba,na,hoa,_,hda,h1,h2⟩:=hx;obtain⟨ob,vb,bb,nb,hob,_,hdb,h1',h2'⟩:=hy;show wpAny _ _ (isInstance (.ref b) (.type "tuple")>>=_) _ _ s;refine Aa (Ey hTb Ha ?_);simp only [Bq,An,if_false];refine Aa (Gk hoa hda ?_);refine Aa (Gk hob hdb ?_);refine Aa ?_;refine Dz _
  (λrest r s'=>r.1=none/\s'=s/\((rest=[(va,vb),(.ref ba,.ref bb)])∨(rest=[(.ref ba,.ref bb)]/\x.1=y.1)∨(rest=[]/\x=y)))
  _ ?_ ?_ _ _ ⟨rfl,rfl,.inl rfl⟩
 ·rintro⟨u,v⟩ rest r s' ⟨hr,rfl,(e|⟨e,e1⟩|⟨e,_⟩)⟩
  ·obtain⟨e2,rfl⟩:=Bs e;cases e2;refine Aa (knd.eqBool (a:=x.1) (b:=y.1) h1 h1' ?_);by_cases hk:x.1=y.1
   ·rw [decide_eq_true hk];simp only [Bq,An,if_false];exact Ad ⟨by first|rfl|trivial,by first|rfl|trivial,by first|exact .inr (.inl ⟨rfl,hk⟩)|simp [hk]⟩
   ·rw [decide_eq_false hk];simp only [Gp,if_true];have hf:decide (x=y)=false:=decide_eq_false λz=>hk (by rw [z]);rw [hf]at h;exact Aa (Ad (Ad (Ad h)))
  ·obtain⟨e2,rfl⟩:=Bs e;cases e2;refine Aa (wpAny_eqBool_tuple hu h2 h2' ?_);by_cases hk:x.2=y.2
   ·rw [decide_eq_true hk];simp only [Bq,An,if_false];exact Ad ⟨by first|rfl|trivial,by first|rfl|trivial,by first|exact .inr (.inr ⟨rfl,Pd e1 hk⟩)|simp [e1,hk,Prod.ext_iff]⟩
   ·rw [decide_eq_false hk];simp only [Gp,if_true];have hf:decide (x=y)=false:=decide_eq_false λz=>hk (by rw [z]);rw [hf]at h;exact Aa (Ad (Ad (Ad h)))
  ·cases e
 ·rintro⟨r1,r2⟩ s' ⟨hr,rfl,(e|⟨e,_⟩|⟨_,e⟩)⟩
  ·cases e
  ·cases e
  ·simp only at hr;subst hr;refine Ad ?_;rw [decide_eq_true e]at h;exact h
theorem uX {x y:K×List K} {a b:Addr} {Q:Bool->Shared->Prop} (hu:A.units+1<cLine) (hx:bH knd s.heap x a) (hy:bH knd s.heap y b) (h:Q (decide (x=y)) s):
  wpAny (model prog w) A (eqBool (.ref a) (.ref b)) Q E s:=by
 unfold eqBool
 try with_reducible refine Ca ?_
 show wpAny _ _ (if(Au a==Au b)=true then _ else _) Q E s;by_cases hab:(Au a==Au b)=true
 ·rw [if_pos hab];have e:a=b:=by have:=eq_of_beq hab;injection this
  subst e;obtain rfl:=hx.inj hy;exact Aa (Ju (Ad (by simpa using h)))
 ·rw [if_neg hab];exact Aa (Na (op:= .Eq) hx.typeIs hy.typeIs Sv
   (De Sv hx.typeIs F.entry_tuple_eq (aDc (by show A.units+1<cLine;exact hu) hx hy ⟨_,rfl,(λe=>nomatch e),Cj h⟩) (F.args_tuple_eq_2 _ _)) (by omega))
theorem oM {n:Nat} {ks:List K} {a:Addr} {Q:Bool->Shared->Prop} (hk:IsTupleKey knd s.heap ks a) (h:Q true s):wpAny (model prog w) A (eqIsQuiet (n+1) (.ref a)) Q E s:=by
 have hT:=hk.typeIs;obtain⟨o,items,m,ho,_,hd,hi⟩:=hk;unfold eqIsQuiet;refine Aa (Et hT F.slot_tuple_eq.lookup ?_);show wpAny _ _ (isInstance (.ref a) (.type "tuple")>>=_) _ _ s;refine Aa (Ey hT Ha ?_);simp only [Bq,An,if_false];refine Aa (Fb ho hd ?_);refine Aa ?_;show wpAny _ _ (forIn items _ _) _ _ s;rw [<-Ei];refine Dz _ (λrest r s'=>r.1=none/\s'=s/\∀v∈rest,carriedByValue v=true) _ ?_ ?_ _ _ ⟨rfl,rfl,hi.byValue⟩
 ·rintro v rest r s' ⟨hr,rfl,hall⟩;rw [Sa _ (hall v Af)];refine Aa (Ad ?_);simp only [Bq,An,if_false];exact Ad ⟨rfl,rfl,λu hu'=>hall u (Ae _ hu')⟩
 ·rintro⟨r1,r2⟩ s' ⟨hr,rfl,_⟩;simp only at hr;subst hr;exact Ad h
theorem qX {x:K×List K} {a:Addr} {Q:Bool->Shared->Prop} (hk:bH knd s.heap x a) (h:Q true s):wpAny (model prog w) A (eqIsQuiet 8 (.ref a)) Q E s:=by
 have hT:=hk.typeIs;obtain⟨o,v,b,m,ho,_,hd,h1,h2⟩:=hk;unfold eqIsQuiet;refine Aa (Et hT F.slot_tuple_eq.lookup ?_);show wpAny _ _ (isInstance (.ref a) (.type "tuple")>>=_) _ _ s;refine Aa (Ey hT Ha ?_);simp only [Bq,An,if_false];refine Aa (Fb ho hd ?_);refine Aa ?_;show wpAny _ _ (forIn _ _ _) _ _ s;rw [<-Ei];refine Dz _ (λrest r s'=>r.1=none/\s'=s/\∀u∈rest,u=v∨u= .ref b) _ ?_ ?_ _ _ ⟨rfl,rfl,λu hu=>by simpa using hu⟩
 ·rintro u rest r s' ⟨hr,rfl,hall⟩;rcases hall u Af with rfl|rfl
  ·rw [Sa _ (knd.byValue _ _ h1)];refine Aa (Ad ?_);simp only [Bq,An,if_false];exact Ad ⟨rfl,rfl,λu hu'=>hall u (Ae _ hu')⟩
  ·refine Aa (oM h2 ?_);simp only [Bq,An,if_false];exact Ad ⟨rfl,rfl,λu hu'=>hall u (Ae _ hu')⟩
 ·rintro⟨r1,r2⟩ s' ⟨hr,rfl,_⟩;simp only at hr;subst hr;exact Ad h
end
def gO {prog:Program} {w:World} {K:Type} [DecidableEq K] (knd:KeyKind prog w K):HeapKind prog w (K×List K) where
 is:=bH knd
 hash:=pZ knd
 draws:=λx=>x.2.length+3
 room:=λA=>A.units+1<cLine
 inj:=λhx hy=>hx.inj hy
 keeps:=λx ho hd hs=>x.keeps ho hd hs
 pyHash:=λhu hk h=>vA hu hk h
 eqBool:=λhu hx hy h=>uX hu hx hy h
 quiet:=λhk h=>qX hk h
end PySem
namespace PySem
namespace SetTable
def gQ (mask:Nat):Nat->Nat×Nat->Nat×Nat
 |0,p=>p
 |m+1,p=>gQ mask m (leap mask p.1 p.2)
theorem sG (mask:Nat):∀m p,(gQ mask m p).2=p.2 / 32 ^ m
 |0,p=>by rw [gQ,Nat.pow_zero,Nat.div_one]
 |m+1,p=>by
  rw [gQ,sG mask m];show p.2 / 32 / 32 ^ m=_;rw [Nat.div_div_eq_div_mul,Uh,Nat.mul_comm]
theorem aBj (mask:Nat):∀m k p,gQ mask (m+k) p=gQ mask k (gQ mask m p)
 |0,k,p=>by rw [Jc,gQ]
 |m+1,k,p=>by rw [Ug,gQ,aBj mask m k,gQ]
def five (mask i:Nat):Nat:=(i*5+1) % (mask+1)
def aFg (mask:Nat):Nat->Nat->Nat
 |0,i=>i
 |m+1,i=>aFg mask m (five mask i)
theorem aAp (mask:Nat):∀m i,(gQ mask m (i,0))=(aFg mask m i,0)
 |0,i=>rfl
 |m+1,i=>by
  rw [gQ,aFg];show gQ mask m ((i*5+1+0 / 32) % (mask+1),0 / 32)=_;rw [Nat.zero_div,Nat.add_zero];exact aAp mask m (five mask i)
theorem aFq (mask:Nat):∀m p,(gQ mask (m+1) p).1<=mask
 |0,p=>by
  show(p.1*5+1+p.2 / 32) % (mask+1)<=mask;have:=Kg (p.1*5+1+p.2 / 32) (show 0<mask+1 by omega);omega
 |m+1,p=>by rw [gQ];exact aFq mask m _
def Round (mask:Nat):Prop:=∀i,i<=mask->∀e,e<=mask->∃k,k<=mask/\aFg mask (k+1) i=e
theorem aFu {mask:Nat} (h:∀i:_root_.Fin (mask+1),∀e:_root_.Fin (mask+1),∃k:_root_.Fin (mask+1),aFg mask (k.1+1) i.1=e.1):Round mask:=λi hi e he=>by
 obtain⟨k,hk⟩:=h ⟨i,by omega⟩ ⟨e,by omega⟩;exact⟨k.1,by omega,hk⟩
theorem aT2:Round 7:=aFu (by decide+kernel)
theorem aQ3:Round 31:=aFu (by decide+kernel)
theorem aAk {mask:Nat} (R:Round mask) {e:Nat} (he:e<=mask) (i perturb:Nat) (hp:perturb<2 ^ 64):∃L,1<=L/\L<=mask+14/\(gQ mask L (i,perturb)).1=e:=by
 have h13:(gQ mask 13 (i,perturb)).2=0:=by
  rw [sG];exact Nat.div_eq_of_lt (Bg hp (by decide))
 have hi:=aFq mask 12 (i,perturb);obtain⟨k,hk,e1⟩:=R _ hi e he;refine⟨13+(k+1),by omega,by omega,?_⟩;rw [aBj];have e2:gQ mask 13 (i,perturb)=((gQ mask 13 (i,perturb)).1,0):=Pd rfl h13;rw [e2,aAp];exact e1
variable {t:SetTable} {hashAt:Nat->Int} {h:Int}
theorem aMs (mask i:Nat):runEnd mask i-i<=9:=by unfold runEnd;split<;>omega
theorem aPq {e:Nat} (hd:∀j,t.slot j≠ .dummy) (he:t.slot e= .empty):∀(fuel:Nat) (p:Probe) (L:Nat),1<=L->(gQ t.mask L (p.i,p.perturb)).1=e->p.more+2+10*(L-1)<=fuel->∃m,Hj t hashAt h fuel p=some m:=by
 intro fuel;induction fuel with
 |zero=>intro p L h1 _ h3;omega
 |succ fuel ih=>
  intro p L h1 h2 h3;have step:∃m,Hj t hashAt h fuel (t.advance p)=some m:=by
   unfold advance;by_cases hm:p.more>0
   ·rw [if_pos hm];exact ih _ L h1 h2 (by show p.more-1+2+10*(L-1)<=fuel;omega)
   ·rw [if_neg hm];match L,h1 with
    |1,_=>
     have h4:(leap t.mask p.i p.perturb).1=e:=h2;cases fuel with
     |zero=>omega
     |succ f=>
      show∃m,(match t.slot (leap t.mask p.i p.perturb).1 with| .empty=>_| .dummy=>_| .live i=>_)=some m;rw [h4,he];exact⟨_,rfl⟩
    |L+2,_=>
     have hr:=aMs t.mask (leap t.mask p.i p.perturb).1;exact ih _ (L+1) (by omega) h2 (by show runEnd t.mask (leap t.mask p.i p.perturb).1-(leap t.mask p.i p.perturb).1+2+10*(L+1-1)<=fuel;omega)
  show∃m,(match t.slot p.j with| .empty=>some (.empty p.j p.dummy)| .dummy=>Hj t hashAt h fuel (t.advance {p with dummy:=some p.j})| .live i=>if(hashAt i==h)=true then some (.candidate p.j i (t.advance p))else Hj t hashAt h fuel (t.advance p))=some m;cases hs:t.slot p.j with
  |empty=>exact⟨_,rfl⟩
  |dummy=>exact absurd hs (hd _)
  |live i=>
   by_cases hh:(hashAt i==h)=true
   ·exact⟨_,if_pos hh⟩
   ·obtain⟨m,hm⟩:=step;exact⟨m,by simp only;rw [if_neg hh];exact hm⟩
theorem aFy {e:Nat} (R:Round t.mask) (he:e<=t.mask) (hd:∀j,t.slot j≠ .dummy) (hs:t.slot e= .empty) (p:Probe) (hp:p.perturb<2 ^ 64) (hm:p.more<=9):∃m,t.probe hashAt h p=some m:=by
 obtain⟨L,h1,h2,h3⟩:=aAk R he p.i p.perturb hp;refine aPq hd hs _ p L h1 h3 ?_;unfold turns;omega
def tD (xs:Array Nat):Prop:=∀i k,i<k->k<xs.size->xs.getD i 0<xs.getD k 0
theorem yX {xs:Array Nat} {i a b:Nat} (h:i<xs.size):xs.getD i a=xs.getD i b:=by simp [Em,h]
theorem aOq {xs:Array Nat} {j:Nat} (R:tD xs):∀(fuel lo hi:Nat),lo<=hi->hi<=xs.size->hi-lo<=fuel->(∀i,i<lo->xs.getD i 0<j)->(∀i,hi<=i->i<xs.size->j<=xs.getD i 0)->
  Kk xs j fuel lo hi<=xs.size/\(∀i,i<Kk xs j fuel lo hi->xs.getD i 0<j)/\∀i,Kk xs j fuel lo hi<=i->i<xs.size->j<=xs.getD i 0:=by
 intro fuel;induction fuel with
 |zero=>
  intro lo hi h1 h2 h3 a b;have:lo=hi:=by omega
  subst this;exact⟨h2,a,b⟩
 |succ fuel ih=>
  intro lo hi h1 h2 h3 a b;have key:Kk xs j (fuel+1) lo hi=if lo<hi then(if xs.getD ((lo+hi) / 2) j<j then Kk xs j fuel ((lo+hi) / 2+1) hi else Kk xs j fuel lo ((lo+hi) / 2))else lo:=rfl
  rw [key];by_cases hl:lo<hi
  ·have hm:(lo+hi) / 2<xs.size:=by omega
   rw [if_pos hl];by_cases hx:xs.getD ((lo+hi) / 2) j<j
   ·rw [if_pos hx];refine ih _ _ (by omega) h2 (by omega) (λi hi'=>?_) b;by_cases e:i=(lo+hi) / 2
    ·subst e;rw [yX hm (b:=j)];exact hx
    ·have:=R i ((lo+hi) / 2) (by omega) hm;rw [yX hm (b:=j)]at this;omega
   ·rw [if_neg hx];refine ih _ _ (by omega) (by omega) (by omega) a λi hi' hs=>?_;rw [yX hm (b:=0)]at hx;by_cases e:i=(lo+hi) / 2
    ·subst e;omega
    ·have:=R ((lo+hi) / 2) i (by omega) hs;omega
  ·have:lo=hi:=by omega
   subst this;rw [if_neg hl];exact⟨h2,a,b⟩
theorem gY {xs:Array Nat} (R:tD xs) (j:Nat):below xs j<=xs.size/\(∀i,i<below xs j->xs.getD i 0<j)/\∀i,below xs j<=i->i<xs.size->j<=xs.getD i 0:=
 aOq R _ _ _ (Bb _) (Am _) (by omega) (λi h=>absurd h (Dk i)) λi h1 h2=>by omega
theorem below_at {xs:Array Nat} (R:tD xs) {i:Nat} (h:i<xs.size):below xs (xs.getD i 0)=i:=by
 obtain⟨_,h2,h3⟩:=gY R (xs.getD i 0);rcases Ia (below xs (xs.getD i 0)) i with z|z|z
 ·have:=h3 (below xs (xs.getD i 0)) (Am _) (by omega);have:=R _ i z h;omega
 ·exact z
 ·have:=h2 i z;omega
theorem aNe {xs:Array Nat} {i j:Nat}:xs[i]? =some j↔i<xs.size/\xs.getD i 0=j:=by
 by_cases h:i<xs.size
 ·simp [Em,h]
 ·simp [h]
theorem aBo (R:tD t.place) {i j:Nat} (h:t.place[i]? =some j):t.slot j= .live i:=by
 obtain⟨h1,rfl⟩:=aNe.mp h;unfold slot;dsimp only;rw [below_at R h1,h];simp
theorem aGu (hd:t.dummies= #[]) {j:Nat} (h:∀i:Nat,t.place[i]? ≠some j):t.slot j= .empty:=by
 unfold slot;dsimp only;have h1:(t.place[below t.place j]? ==some j)=false:=beq_eq_false_iff_ne.mpr (h _);rw [h1];have h2:has t.dummies j=false:=by rw [hd];unfold has;simp
 rw [h2];rfl
theorem tG (hd:t.dummies= #[]) (j:Nat):t.slot j= .empty∨∃i:Nat,t.slot j= .live i/\t.place[i]? =some j:=by
 by_cases h:t.place[below t.place j]? =some j
 ·refine .inr ⟨below t.place j,?_,h⟩;unfold slot;dsimp only;rw [h];simp
 ·refine .inl ?_;unfold slot;dsimp only;have h1:(t.place[below t.place j]? ==some j)=false:=beq_eq_false_iff_ne.mpr h;rw [h1];have h2:has t.dummies j=false:=by rw [hd];unfold has;simp
  rw [h2];rfl
theorem oK (hd:t.dummies= #[]) (j:Nat):t.slot j≠ .dummy:=by
 rcases tG hd j with e|⟨i,e,_⟩<;>rw [e]<;>intro z<;>cases z
theorem aG8 (hd:t.dummies= #[]) (hs:t.place.size<=t.mask):∃e,e<=t.mask/\t.slot e= .empty:=by
 refine Hd λno=>?_;have all:∀e,e<=t.mask->∃i:Nat,t.place[i]? =some e:=λe he=>by
  rcases tG hd e with z|⟨i,_,z⟩
  ·exact absurd ⟨e,he,z⟩ no
  ·exact⟨i,z⟩
 have sub:Bp (t.mask+1) ⊆ t.place.toList:=λe he=>by
  obtain⟨i,hi⟩:=all e (by have:=List.mem_range.mp he;omega);obtain⟨h1,h2⟩:=Array.getElem?_eq_some_iff.mp hi;rw [<-h2];simp
 have:=(Ii (n:=t.mask+1)).length_le_of_subset sub;rw [Dd,Ap]at this;omega
theorem aEe (R:Round t.mask) (hd:t.dummies= #[]) (hs:t.place.size<=t.mask) (p:Probe) (hp:p.perturb<2 ^ 64) (hm:p.more<=9):∃m,t.probe hashAt h p=some m:=by
 obtain⟨e,he,h1⟩:=aG8 hd hs;exact aFy R he (oK hd) h1 p hp hm
def adv (mask:Nat) (p:Probe):Probe:=if p.more>0 then{p with j:=p.j+1,more:=p.more-1}else{p with j:=(leap mask p.i p.perturb).1,more:=runEnd mask (leap mask p.i p.perturb).1-(leap mask p.i p.perturb).1,i:=(leap mask p.i p.perturb).1,perturb:=(leap mask p.i p.perturb).2}
def advs (mask:Nat):Nat->Probe->Probe
 |0,p=>p
 |n+1,p=>advs mask n (adv mask p)
theorem rA (mask:Nat):∀m k p,advs mask (m+k) p=advs mask k (advs mask m p)
 |0,k,p=>by rw [Jc,advs]
 |m+1,k,p=>by rw [Ug,advs,rA mask m k,advs]
theorem aBz (mask:Nat) (p:Probe):(adv mask p).dummy=p.dummy:=by unfold adv;split<;>rfl
theorem aRo (fuel:Nat) (p:Probe):Hj t hashAt h (fuel+1) p=match t.slot p.j with| .empty=>some (.empty p.j p.dummy)| .dummy=>Hj t hashAt h fuel (t.advance {p with dummy:=some p.j})| .live i=>if(hashAt i==h)=true then some (.candidate p.j i (t.advance p))else Hj t hashAt h fuel (t.advance p):=rfl
theorem aPw (hd:∀j,t.slot j≠ .dummy):∀(fuel:Nat) (p:Probe) (N:Nat),t.slot (advs t.mask N p).j= .empty->N<fuel->p.dummy=none->
    ∃n,n<=N/\(∀m,m<n->∃i,t.slot (advs t.mask m p).j= .live i/\hashAt i≠h)/\
      ((t.slot (advs t.mask n p).j= .empty/\Hj t hashAt h fuel p=some (.empty (advs t.mask n p).j none))∨
       ∃i,t.slot (advs t.mask n p).j= .live i/\hashAt i=h/\Hj t hashAt h fuel p=some (.candidate (advs t.mask n p).j i (advs t.mask (n+1) p))):=by
  intro fuel;induction fuel with
  |zero=>intro p N _ h2;omega
  |succ fuel ih=>
    intro p N h1 h2 h3;rw [aRo];cases hs:t.slot p.j with
    |empty=>exact⟨0,Bb _,λm hm=>absurd hm (Dk m),.inl ⟨hs,by rw [h3];rfl⟩⟩
    |dummy=>exact absurd hs (hd _)
    |live i=>
      by_cases hh:hashAt i=h
      · exact⟨0,Bb _,λm hm=>absurd hm (Dk m),.inr ⟨i,hs,hh,by dsimp only;rw [if_pos (beq_iff_eq.mpr hh)];rfl⟩⟩
      · cases N with
        |zero=>
          have h1':t.slot p.j= .empty:=h1;rw [hs]at h1';cases h1'
        |succ N=>
          obtain⟨n,a1,a2,a3⟩:=ih (adv t.mask p) N h1 (by omega) (by rw [aBz];exact h3);have hb:¬(hashAt i==h)=true:=λz=>hh (beq_iff_eq.mp z);refine⟨n+1,by omega,λm hm=>?_,?_⟩
          · cases m with
            |zero=>exact⟨i,hs,hh⟩
            |succ m=>exact a2 m (by omega)
          · rcases a3 with ⟨b1,b2⟩|⟨i',b1,b2,b3⟩
            · exact .inl ⟨b1,by dsimp only;rw [if_neg hb];exact b2⟩
            · exact .inr ⟨i',b1,b2,by dsimp only;rw [if_neg hb];exact b3⟩
theorem aOv (hn:∀i,hashAt i≠h) (hd:∀j,t.slot j≠ .dummy):∀(fuel:Nat) (p:Probe) (m:Met),Hj t hashAt h fuel p=some m->∃N,N<fuel/\t.slot (advs t.mask N p).j= .empty:=by
 intro fuel;induction fuel with
 |zero=>intro p m e;cases e
 |succ fuel ih=>
  intro p m e;rw [aRo]at e;cases hs:t.slot p.j with
  |empty=>exact⟨0,Km _,hs⟩
  |dummy=>exact absurd hs (hd _)
  |live i=>
   rw [hs]at e;dsimp only at e;rw [if_neg (λz=>hn i (beq_iff_eq.mp z))]at e;obtain⟨N,h1,h2⟩:=ih _ _ e;exact⟨N+1,by omega,h2⟩
theorem aHd (R:Round t.mask) (hd:t.dummies= #[]) (hs:t.place.size<=t.mask) (p:Probe) (hp:p.perturb<2 ^ 64) (hm:p.more<=9):∃N,N<10*turns t.mask/\t.slot (advs t.mask N p).j= .empty:=by
 obtain⟨m,e⟩:=aEe (hashAt:=λ_=>1) (h:=0) R hd hs p hp hm;exact aOv (hashAt:=λ_=>1) (h:=0) (λ_=>by decide) (oK hd) _ p m e
theorem aFh (t:SetTable) (h:Int):(t.probeStart h).perturb<2 ^ 64/\(t.probeStart h).more<=9:=by
 refine⟨?_,aMs _ _⟩;show bits h<2 ^ 64;unfold bits;have h1:=Jf h (show((2:Int) ^ 64)≠0 by decide);have h2:=Hq h (show(0:Int)<2 ^ 64 by decide);omega
def qH (t:SetTable) (h:Int) (j:Nat):Prop:=∃n,(advs t.mask n (t.probeStart h)).j=j/\∀m,m<n->t.slot (advs t.mask m (t.probeStart h)).j≠ .empty
theorem qH.ahead {j N:Nat} (w:qH t h j) (hj:t.slot j≠ .empty) (hN:t.slot (advs t.mask N (t.probeStart h)).j= .empty):∃n,n<N/\(advs t.mask n (t.probeStart h)).j=j:=by
 obtain⟨n,e,a⟩:=w;rcases Ia n N with z|z|z
 ·exact⟨n,z,e⟩
 ·subst z;rw [e]at hN;exact absurd hN hj
 ·exact absurd hN (a N z)
theorem eF {α:Type} (xs:Array α) (p:Nat) (x:α):(insertAt xs p x).toList=xs.toList.take p++x::xs.toList.drop p:=by
 unfold insertAt;simp [Array.toList_extract];exact Gh (by simp)
theorem uY {xs:Array Nat}:tD xs↔xs.toList.Pairwise (·<·):=by
 rw [Me];constructor
 ·intro R i k hi hk hik;have h2:k<xs.size:=by simpa using hk
  have:=R i k hik h2;have h1:i<xs.size:=by omega
  simpa [Em,h1,h2]using this
 ·intro R i k hik hk;have h1:i<xs.size:=by omega
  have:=R i k (by simpa using h1) (by simpa using hk) hik;simpa [Em,h1,hk]using this
theorem aJu {j:Nat}:(∃i:Nat,t.place[i]? =some j)↔j∈t.place.toList:=by
 rw [List.mem_iff_getElem?];simp
theorem fG (R:tD t.place) (hd:t.dummies= #[]) {j:Nat}:t.slot j= .empty↔j∉t.place.toList:=by
 rw [<-aJu];constructor
 ·rintro e ⟨i,hi⟩;rw [aBo R hi]at e;cases e
 ·intro no;exact aGu hd λi z=>no ⟨i,z⟩
theorem aFr (R:tD t.place) {j:Nat} (hj:j∉t.place.toList):tD (insertAt t.place (below t.place j) j):=by
 obtain⟨hb,h1,h2⟩:=gY R j;rw [uY,eF];have Rl:=uY.mp R;have lo:∀x∈t.place.toList.take (below t.place j),x<j:=λx hx=>by
  obtain⟨i,hi,e⟩:=Fs hx;rw [Ce]at hi;rw [List.getElem_take]at e;have hs:i<t.place.size:=by simp at hi;omega
  have:=h1 i (by omega);rw [<-e];simpa [Em,hs]using this
 have hi':∀x∈t.place.toList.drop (below t.place j),j<x:=λx hx=>by
  have hm:x∈t.place.toList:=Jg hx;obtain⟨i,hi,e⟩:=Fs hx;rw [Gv]at hi;rw [List.getElem_drop]at e;have hs:below t.place j+i<t.place.size:=by simp at hi;omega
  have:=h2 (below t.place j+i) (by omega) hs;have h3:j<=x:=by rw [<-e];simpa [Em,hs]using this
  have h4:j≠x:=λz=>hj (z▸hm);omega
 rw [List.pairwise_append];refine⟨Rl.sublist (Pt _ _),List.pairwise_cons.mpr ⟨hi',Rl.sublist (List.drop_sublist _ _)⟩,λx hx y hy=>?_⟩;have:=lo x hx;rcases List.mem_cons.mp hy with e|m
 ·omega
 ·have:=hi' y m;omega
theorem jJ (hd:t.dummies= #[]) (j:Nat):t.put j=({t with place:=insertAt t.place (below t.place j) j},below t.place j):=by
 unfold put;have h2:has t.dummies j=false:=by rw [hd];unfold has;simp
 rw [h2];rfl
theorem yU {xs:Array Nat} {p j x:Nat}:x∈(insertAt xs p j).toList↔x=j∨x∈xs.toList:=by
 rw [eF,Gd,Bi];constructor
 ·rintro(h|h|h)
  ·exact .inr (Om h)
  ·exact .inl h
  ·exact .inr (Jg h)
 ·rintro(h|h)
  ·exact .inr (.inl h)
  ·rw [<-Gs p xs.toList]at h;rcases List.mem_append.mp h with h|h
   ·exact .inl h
   ·exact .inr (.inr h)
theorem mH {α:Type} (xs:Array α) {p:Nat} (x:α) (h:p<=xs.size):(insertAt xs p x).size=xs.size+1:=by
 rw [<-Ap,eF,Ah,Ag,Ce,Gv,Ap];omega
structure Good (t:SetTable):Prop where
 dum:t.dummies= #[]
 rise:tD t.place
 low:∀j∈t.place.toList,j<=t.mask
 room:t.place.size<=t.mask
 round:Round t.mask
theorem Good.put (G:Good t) {j:Nat} (hj:t.slot j= .empty) (hl:j<=t.mask) (hr:t.place.size+1<=t.mask):Good (t.put j).1:=by
 rw [jJ G.dum];have nj:=(fG G.rise G.dum).mp hj;refine⟨G.dum,aFr G.rise nj,λx hx=>?_,?_,G.round⟩
 ·rcases yU.mp hx with e|m
  ·rw [e];exact hl
  ·exact G.low x m
 ·show(insertAt t.place (below t.place j) j).size<=t.mask;rw [mH _ _ (gY G.rise j).1];exact hr
theorem Good.put_empty (G:Good t) {j:Nat} (hj:t.slot j= .empty) (x:Nat):(t.put j).1.slot x= .empty↔t.slot x= .empty/\x≠j:=by
 have nj:=(fG G.rise G.dum).mp hj;rw [jJ G.dum];rw [fG (t:={t with place:=insertAt t.place (below t.place j) j}) (aFr G.rise nj) G.dum,fG G.rise G.dum];show x∉(insertAt t.place (below t.place j) j).toList↔_;rw [yU,not_or];exact⟨λz=>⟨z.2,z.1⟩,λz=>⟨z.2,z.1⟩⟩
theorem qH.put (G:Good t) {j x:Nat} (hj:t.slot j= .empty) (w:qH t h x):qH (t.put j).1 h x:=by
 obtain⟨n,e,a⟩:=w;have em:(t.put j).1.mask=t.mask:=by rw [jJ G.dum]
 have es:(t.put j).1.probeStart h=t.probeStart h:=by rw [jJ G.dum];rfl
 refine⟨n,by rw [em,es];exact e,λm hm z=>?_⟩;rw [em,es]at z;exact a m hm ((G.put_empty hj _).mp z).1
theorem qH.new (G:Good t) {N:Nat} (hj:t.slot (advs t.mask N (t.probeStart h)).j= .empty) (a:∀m,m<N->t.slot (advs t.mask m (t.probeStart h)).j≠ .empty):qH (t.put (advs t.mask N (t.probeStart h)).j).1 h (advs t.mask N (t.probeStart h)).j:=by
 have em:(t.put (advs t.mask N (t.probeStart h)).j).1.mask=t.mask:=by rw [jJ G.dum]
 have es:(t.put (advs t.mask N (t.probeStart h)).j).1.probeStart h=t.probeStart h:=by rw [jJ G.dum];rfl
 refine⟨N,by rw [em,es],λm hm z=>?_⟩;rw [em,es]at z;exact a m hm ((G.put_empty hj _).mp z).1
end SetTable
end PySem
namespace PySem
open Sem (wp)
section
variable {prog:Program} {w:World} {K:Type} [DecidableEq K] (knd:HeapKind prog w K)
structure jF (s:Shared) (a:Addr) (o:Obj) (es:Array (Int×Value)) (ep:Nat) (t:SetTable) (xs:List (K×Addr)):Prop where
 ho:s.heap.get? a=some o
 hex:o.ExactSet
 hd:o.data= .set es ep t
 he:es.toList=xs.map λx=>(knd.hash x.1,Au x.2)
 good:t.Good
 size:t.place.size=es.size
 keys:∀x∈xs,knd.is s.heap x.1 x.2
 nd:(xs.map (·.1)).Nodup
 way:∀(i j:Nat) (x:K×Addr),t.place[i]? =some j->xs[i]? =some x->SetTable.qH t (knd.hash x.1) j
variable {knd} {A:Around} {E:Value->Shared->Prop} {s:Shared} {a b:Addr} {o:Obj} {es:Array (Int×Value)} {ep:Nat} {t:SetTable} {xs:List (K×Addr)} {k:K}
structure sV (knd:HeapKind prog w K):Prop where
 mono:∀{h h':Heap} {k:K} {c:Addr},knd.is h k c->(∀b o,o.cls= .type "tuple"->h.get? b=some o->h'.get? b=some o)->knd.is h' k c
 byValue:∀{A:Around} {E:Value->Shared->Prop} {s:Shared} {k:K} {c:Addr} {Q:Bool->Shared->Prop},knd.is s.heap k c->Q true s->wpAny (model prog w) A (hashByValue 8 (.ref c)) Q E s
 plain:∀{A:Around} {E:Value->Shared->Prop} {s:Shared} {k:K} {c:Addr} {Q:Bool->Shared->Prop},knd.is s.heap k c->Q false s->wpAny (model prog w) A (ofAClassStatement 8 (.ref c)) Q E s
theorem sV.keep (D:sV knd) {h h':Heap} {k:K} {c d:Addr} {o:Obj} (hx:knd.is h k c) (ho:h.get? d=some o) (hex:o.ExactSet) (sb:Cw d h h'):knd.is h' k c:=D.mono hx λb o' hc e=>by
 have ne:b≠d:=by
  rintro rfl;rw [ho]at e;cases e;rw [hex.1]at hc;exact absurd hc (by decide)
 rw [sb.2 b ne];exact e
theorem xJ (D:sV knd) (hkey:knd.is s.heap k b) {ys:List Value} (hy:∀y∈ys,∃x c,y=Au c/\knd.is s.heap x c) {Q:Bool->Shared->Prop} (h:Q false s):wpAny (model prog w) A (searchCouldBeSeen (.ref b) ys) Q E s:=by
 unfold searchCouldBeSeen;refine Aa ?_;refine Dz _ (λrest r s'=>r.1=none/\s'=s/\∀v∈rest,∃x c,v=Au c/\knd.is s.heap x c) _ ?_ ?_ _ _ ⟨rfl,rfl,hy⟩
 ·rintro v rest r s' ⟨hr,rfl,hall⟩;obtain⟨x,c,rfl,hx⟩:=hall v Af;dsimp only;have nx:∀u∈rest,∃x c,u=Au c/\knd.is s'.heap x c:=λu hu=>hall u (Ae _ hu);split
  ·exact Ad ⟨rfl,rfl,nx⟩
  ·refine Aa (knd.quiet hkey ?_);simp only [Bq,An,if_false];refine Aa (knd.quiet hx ?_);simp only [Bq,An,if_false];refine Aa (D.plain hkey ?_);simp only [An,if_false];refine Aa (D.plain hx ?_);simp only [An,if_false];exact Ad ⟨rfl,rfl,nx⟩
 ·rintro⟨r1,r2⟩ s' ⟨hr,rfl,_⟩;simp only at hr;subst hr;exact Ad h
theorem jF.fits (S:jF knd s a o es ep t xs):t.fits es.size=true:=by
 unfold Po Pp;have h1:=S.size;have h2:=S.good.room;rw [S.good.dum];simp [h1];omega
theorem jF.len (S:jF knd s a o es ep t xs):es.size=xs.length:=by rw [<-Ap,S.he,Ab]
theorem jF.entry (S:jF knd s a o es ep t xs) (i:Nat):es[i]? =(xs[i]?).map λx=>(knd.hash x.1,Au x.2):=by
 rw [<-Bk,S.he,Ay]
theorem jF.even (S:jF knd s a o es ep t xs) (hm:t.mask % 2=1):t.gaveWay=false:=by
 unfold SetTable.gaveWay;rw [hm];rfl
theorem vH (S:jF knd s a o es ep t xs) (hm:t.mask % 2=1) (D:sV knd) (hu:knd.room A) (hkey:knd.is s.heap k b) {N:Nat} (hN:t.slot (SetTable.advs t.mask N (t.probeStart (knd.hash k))).j= .empty) (hF:N<10*Ir t.mask)
  (first:∀m,m<N->t.slot (SetTable.advs t.mask m (t.probeStart (knd.hash k))).j≠ .empty) {Q:SetFound->Shared->Prop} (hold:(∃x∈xs,x.1=k)->Q (.there none) s) (hnew:(∀x∈xs,x.1≠k)->Q (.free (SetTable.advs t.mask N (t.probeStart (knd.hash k))).j false) s):
  ∀(fuel n:Nat) (stand:Option SetTable.Probe),stand.getD (t.probeStart (knd.hash k))=SetTable.advs t.mask n (t.probeStart (knd.hash k))->n<=N->N-n<fuel->(∀m,m<n->∃(i:Nat) (x:K×Addr),t.slot (SetTable.advs t.mask m (t.probeStart (knd.hash k))).j= .live i/\xs[i]? =some x/\x.1≠k)->
   wpAny (model prog w) A (setSearchFrom a (.ref b) (knd.hash k) true fuel stand) Q E s:=by
 intro fuel;induction fuel with
 |zero=>intro n stand _ _ h3;omega
 |succ fuel ih=>
  intro n stand h1 h2 h3 past;have dumA:∀m p,(SetTable.advs t.mask m p).dummy=p.dummy:=by
   intro m;induction m with
   |zero=>intro p;rfl
   |succ m ih=>intro p;rw [SetTable.advs,ih,SetTable.aBz]
  unfold setSearchFrom;refine Aa (Dv S.ho S.hd S.fits ?_);dsimp only;rw [S.even hm];simp only [An,if_false];rw [h1];have comp:∀m,SetTable.advs t.mask m (SetTable.advs t.mask n (t.probeStart (knd.hash k)))=SetTable.advs t.mask (n+m) (t.probeStart (knd.hash k)):=λm=>(SetTable.rA t.mask n m _).symm;have ent:∀i:Nat,(es[i]?.map (·.1)).getD 0=((xs[i]?).map λx=>knd.hash x.1).getD 0:=λi=>by
   rw [S.entry i,Option.map_map];rfl
  have inx:∀(i j:Nat),t.slot j= .live i->∃x,xs[i]? =some x/\t.place[i]? =some j:=λi j hs=>by
   rcases SetTable.tG S.good.dum j with z|⟨i',z1,z2⟩
   ·rw [hs]at z;cases z
   ·rw [hs]at z1;cases z1;have hi:i<t.place.size:=(Array.getElem?_eq_some_iff.mp z2).1;rw [S.size,S.len]at hi;exact⟨xs[i],Al hi,z2⟩
  obtain⟨n',a1,a2,a3⟩:=SetTable.aPw (t:=t) (hashAt:=λi:Nat=>(es[i]?.map (·.1)).getD 0) (h:=knd.hash k) (SetTable.oK S.good.dum) (10*Ir t.mask) (SetTable.advs t.mask n (t.probeStart (knd.hash k))) (N-n) (by rw [comp,show n+(N-n)=N by omega];exact hN) (by omega) (by rw [dumA];rfl);rw [comp]at a3;rcases a3 with ⟨b1,b2⟩|⟨i,b1,b2,b3⟩
  ·have eN:n+n'=N:=by
    rcases Fy (n+n') N with z|z
    ·exact absurd b1 (first _ z)
    ·omega
   have e:t.probe (λi:Nat=>(es[i]?.map (·.1)).getD 0) (knd.hash k) (SetTable.advs t.mask n (t.probeStart (knd.hash k)))=some (.empty (SetTable.advs t.mask (n+n') (t.probeStart (knd.hash k))).j none):=b2
   erw [e]
   dsimp only;rw [eN];refine Ad (hnew λx hx ek=>?_);obtain⟨i,hi⟩:=List.mem_iff_getElem?.mp hx;have his:i<t.place.size:=by rw [S.size,S.len];exact(List.getElem?_eq_some_iff.mp hi).1
   have hpl:t.place[i]? =some t.place[i]:=Az his;have hsl:=SetTable.aBo S.good.rise hpl;have wy:=S.way i _ x hpl hi;rw [ek]at wy;obtain⟨m,hm1,hm2⟩:=wy.ahead (by rw [hsl];intro z;cases z) hN;rcases Fy m n with z|z
   ·obtain⟨i',x',c1,c2,c3⟩:=past m z;rw [hm2,hsl]at c1;cases c1;rw [hi]at c2;cases c2;exact c3 ek
   ·obtain⟨i',c1,c2⟩:=a2 (m-n) (by omega);rw [comp,show n+(m-n)=m by omega,hm2,hsl]at c1;cases c1;rw [ent,hi]at c2;exact c2 (by rw [<-ek];rfl)
  ·obtain⟨x,hx,hpl⟩:=inx i _ b1;have hxm:=Bt hx;have e:t.probe (λi:Nat=>(es[i]?.map (·.1)).getD 0) (knd.hash k) (SetTable.advs t.mask n (t.probeStart (knd.hash k)))=some (.candidate (SetTable.advs t.mask (n+n') (t.probeStart (knd.hash k))).j i (SetTable.advs t.mask (n'+1) (SetTable.advs t.mask n (t.probeStart (knd.hash k))))):=b3
   erw [e]
   dsimp only;cases hl:t.led
   focus
    simp only [Gp,if_true];refine Aa (xJ D hkey (λy hy=>?_) ?_);obtain⟨e,he,rfl⟩:=List.mem_map.mp hy;have he2:=(Array.mem_filter.mp (Array.mem_toList_iff.mp he)).1;rw [<-Array.mem_toList_iff,S.he]at he2;obtain⟨x',hx',rfl⟩:=List.mem_map.mp he2;exact⟨_,_,rfl,S.keys x' hx'⟩;simp only [An,if_false]
   rotate_left
   focus
    simp only [Bq,An,if_false]
   all_goals
    rw [S.entry i,hx];dsimp only [Pr];refine Aa (Ca (knd.eqBool hu (S.keys x hxm) hkey ?_));refine Aa (Dv S.ho S.hd S.fits ?_);by_cases ek:x.1=k
    ·rw [decide_eq_true ek];simp only [Ru,if_true];exact Ad (hold ⟨x,hxm,ek⟩)
    ·rw [decide_eq_false ek];simp only [Gq,An,if_false];have sm:t.sameMemory t.moves t.mask=some true:=by unfold SetTable.sameMemory;simp
     rw [sm];simp only [if_true];rw [b1];dsimp only;rw [S.entry i,hx];dsimp only [Pr];refine Aa (wpAny_isSame_ref_self ?_);simp only [if_true];refine Aa (Ad ?_);dsimp only;have lt:n+n'<N:=by
      rcases Fy (n+n') N with z|z
      ·exact z
      ·have z2:n+n'=N:=by omega
       rw [z2,hN]at b1;cases b1
     refine ih (n+(n'+1)) _ (by show SetTable.advs t.mask (n'+1) _=_;rw [comp]) (by omega) (by omega) λm hm'=>?_;rcases Fy m n with z|z
     ·exact past m z
     ·by_cases z2:m=n+n'
      ·subst z2;exact⟨i,x,b1,hx,ek⟩
      ·obtain⟨i',c1,c2⟩:=a2 (m-n) (by omega);rw [comp,show n+(m-n)=m by omega]at c1;obtain⟨x',hx',_⟩:=inx i' _ c1;refine⟨i',x',c1,hx',λek'=>c2 ?_⟩;rw [ent,hx', <-ek'];rfl
theorem tZ {o:Obj} (es':Array (Int×Value)) (t':SetTable) (hd:o.data= .set es ep t) (h:o.ExactSet):(Fx es' t' o).ExactSet:=by
 rw [Jp es' t' hd];exact h
theorem get_ins {α:Type} {l:List α} {p i:Nat} {y x:α} (hp:p<=l.length) (h:(l.take p++x::l.drop p)[i]? =some y):(i<p/\l[i]? =some y)∨(i=p/\y=x)∨(p<i/\l[i-1]? =some y):=by
 have hlen:(l.take p).length=p:=by rw [Ce];omega
 rcases Ia i p with z|z|z
 ·rw [Dq (by omega),Mr z]at h;exact .inl ⟨z,h⟩
 ·subst z;rw [Cu (by omega),hlen,Oj]at h;exact .inr (.inl ⟨rfl,(Bm h).symm⟩)
 ·rw [Cu (by omega),hlen]at h;obtain⟨d,rfl⟩:∃d,i=p+(d+1):=⟨i-p-1,by omega⟩;rw [show p+(d+1)-p=d+1 by omega,Ic,Pg]at h;exact .inr (.inr ⟨by omega,by rw [show p+(d+1)-1=p+d by omega];exact h⟩)
theorem jF.add (S:jF knd s a o es ep t xs) (hkey:knd.is s.heap k b) (hn:∀x∈xs,x.1≠k) (hkeep:∀h',Cw a s.heap h'->∀x c,knd.is s.heap x c->knd.is h' x c) {N:Nat} (hN:t.slot (SetTable.advs t.mask N (t.probeStart (knd.hash k))).j= .empty)
  (first:∀m,m<N->t.slot (SetTable.advs t.mask m (t.probeStart (knd.hash k))).j≠ .empty) (hl:(SetTable.advs t.mask N (t.probeStart (knd.hash k))).j<=t.mask) (hroom:t.place.size+1<=t.mask) {j p:Nat} (ej:j=(SetTable.advs t.mask N (t.probeStart (knd.hash k))).j) (epp:p=By t.place j):
  jF knd {s with heap:=s.heap.update a (Fx (Ga es p (knd.hash k,.ref b)) (t.put j).1)} a (Fx (Ga es p (knd.hash k,.ref b)) (t.put j).1 o) (Ga es p (knd.hash k,.ref b)) (ep+1) (t.put j).1 (xs.take p++(k,b)::xs.drop p):=by
 subst ej epp;have hb:=(SetTable.gY S.good.rise (SetTable.advs t.mask N (t.probeStart (knd.hash k))).j).1;have hbx:By t.place (SetTable.advs t.mask N (t.probeStart (knd.hash k))).j<=xs.length:=by rw [<-S.len, <-S.size];exact hb
 have hnf:(Fx (Ga es (By t.place (SetTable.advs t.mask N (t.probeStart (knd.hash k))).j) (knd.hash k,.ref b)) (t.put (SetTable.advs t.mask N (t.probeStart (knd.hash k))).j).1 o).isFreed=false:=by
  rw [Jp _ _ S.hd];rfl
 refine⟨Bz _ S.ho hnf,tZ _ _ S.hd S.hex,by rw [Jp _ _ S.hd],?_,S.good.put hN hl hroom,?_,λx hx=>?_,?_,λi j x h1 h2=>?_⟩
 ·rw [SetTable.eF,S.he, <-List.map_take, <-List.map_drop,Bc,Aw]
 ·rw [SetTable.jJ S.good.dum];show(Ga t.place _ _).size=_;rw [SetTable.mH _ _ hb,SetTable.mH _ _ (by rw [<-S.size];exact hb),S.size]
 ·rcases List.mem_append.mp hx with m|m
  ·exact hkeep _ (Bu ..) _ _ (S.keys x (Om m))
  ·rcases List.mem_cons.mp m with e|m
   ·rw [e];exact hkeep _ (Bu ..) _ _ hkey
   ·exact hkeep _ (Bu ..) _ _ (S.keys x (Jg m))
 ·have pm:((xs.take (By t.place (SetTable.advs t.mask N (t.probeStart (knd.hash k))).j)++(k,b)::xs.drop (By t.place (SetTable.advs t.mask N (t.probeStart (knd.hash k))).j)).map (·.1)).Perm (k::xs.map (·.1)):=by
   have:=(Qf (a:=(k,b)) (l₁:=xs.take (By t.place (SetTable.advs t.mask N (t.probeStart (knd.hash k))).j)) (l₂:=xs.drop (By t.place (SetTable.advs t.mask N (t.probeStart (knd.hash k))).j))).map (·.1);rw [Gs]at this;exact this
  rw [pm.nodup_iff,List.nodup_cons];refine⟨λm=>?_,S.nd⟩;obtain⟨x,hx,e⟩:=List.mem_map.mp m;exact hn x hx e
 ·rw [SetTable.jJ S.good.dum]at h1;have h1':(t.place.toList.take (By t.place (SetTable.advs t.mask N (t.probeStart (knd.hash k))).j)++(SetTable.advs t.mask N (t.probeStart (knd.hash k))).j::t.place.toList.drop (By t.place (SetTable.advs t.mask N (t.probeStart (knd.hash k))).j))[i]? =some j:=by
   rw [<-SetTable.eF,Bk];exact h1
  have gp:=get_ins (by rw [Ap];exact hb) h1';have gx:=get_ins hbx h2;rcases gp with ⟨z1,z2⟩|⟨z1,z2⟩|⟨z1,z2⟩
  ·rcases gx with ⟨y1,y2⟩|⟨y1,y2⟩|⟨y1,y2⟩
   ·exact(S.way i j x (by rw [<-Bk];exact z2) y2).put S.good hN
   ·omega
   ·omega
  ·rcases gx with ⟨y1,y2⟩|⟨y1,y2⟩|⟨y1,y2⟩
   ·omega
   ·rw [z2,y2];exact SetTable.qH.new S.good hN first
   ·omega
  ·rcases gx with ⟨y1,y2⟩|⟨y1,y2⟩|⟨y1,y2⟩
   ·omega
   ·omega
   ·exact(S.way (i-1) j x (by rw [<-Bk];exact z2) y2).put S.good hN
end
end PySem
namespace PySem
namespace SetTable
def stP (M:Nat) (i perturb:Nat):Probe:={j:=i,more:=runEnd M i-i,i,perturb,dummy:=none}
def st (M:Nat) (h:Int):Probe:=stP M (bits h % (M+1)) (bits h)
theorem xU (M i perturb:Nat):∀k,k<=runEnd M i-i->(advs M k (stP M i perturb))={stP M i perturb with j:=i+k,more:=runEnd M i-i-k}:=by
 have gen:∀(k:Nat) (p:Probe),k<=p.more->advs M k p={p with j:=p.j+k,more:=p.more-k}:=by
  intro k;induction k with
  |zero=>intro p _;rfl
  |succ k ih=>
   intro p hk;rw [advs];have e:adv M p={p with j:=p.j+1,more:=p.more-1}:=by unfold adv;rw [if_pos (by omega)]
   rw [e,ih _ (by show k<=p.more-1;omega)];have e1:p.j+1+k=p.j+(k+1):=by omega
   have e2:p.more-1-k=p.more-(k+1):=by omega
   show({p with j:=p.j+1+k,more:=p.more-1-k}:Probe)=_;rw [e1,e2]
 intro k hk;exact gen k _ hk
theorem aE8 (M i perturb:Nat):advs M (runEnd M i-i+1) (stP M i perturb)=stP M (leap M i perturb).1 (leap M i perturb).2:=by
 rw [rA,xU M i perturb _ (Am _),Oj,advs,advs];unfold adv;rw [if_neg (by show¬(0>0);omega)];rfl
theorem aOd {M:Nat} {owner:Array (Option Nat)} (hsz:owner.size=M+1):∀(fuel i perturb:Nat) (j:Nat),Ef M owner fuel i perturb=some j->
  owner[j]? =some none/\∃n,(advs M n (stP M i perturb)).j=j/\∀m,m<n->owner[(advs M m (stP M i perturb)).j]? ≠some none:=by
 intro fuel;induction fuel with
 |zero=>intro i perturb j e;cases e
 |succ fuel ih=>
  intro i perturb j e;have key:Ef M owner (fuel+1) i perturb=match (Bp (runEnd M i+1-i)).find? λk=>(owner.getD (i+k) (some 0)).isNone with|some k=>some (i+k)|none=>Ef M owner fuel (leap M i perturb).1 (leap M i perturb).2:=rfl
  rw [key]at e;have none_of:∀x,(owner.getD x (some 0)).isNone=true↔owner[x]? =some none:=λx=>by
   by_cases hx:x<owner.size
   ·simp [Em,hx]
   ·simp [Em,hx]
  have hre:runEnd M i+1-i=runEnd M i-i+1:=by unfold runEnd;split<;>omega
  cases hf:(Bp (runEnd M i+1-i)).find? λk=>(owner.getD (i+k) (some 0)).isNone with
  |some k=>
   rw [hf]at e;cases e;have h1:=List.find?_some hf;have h2:=List.mem_range.mp (List.mem_of_find?_eq_some hf);refine⟨(none_of _).mp h1,k,by rw [xU M i perturb k (by omega)],λm hm=>?_⟩;rw [xU M i perturb m (by omega)];intro z;have z':owner[i+m]? =some none:=z;rw [List.find?_eq_some_iff_append]at hf;obtain⟨_,as,bs,e1,e2⟩:=hf;have hk:as.length=k:=by
    have h3:(Bp (runEnd M i+1-i))[as.length]? =some k:=by rw [e1];simp
    rw [Jm (by have:=congrArg Cd e1;simp at this;omega)]at h3;exact Bm h3
   have h4:m∈as:=by
    have h5:(Bp (runEnd M i+1-i))[m]? =some m:=Jm (by omega);rw [e1,Dq (by omega)]at h5;exact Bt h5
   have:=e2 m h4;rw [(none_of _).mpr z']at this;exact absurd this (by decide)
  |none=>
   rw [hf]at e;obtain⟨b1,n,b2,b3⟩:=ih _ _ _ e;refine⟨b1,runEnd M i-i+1+n,by rw [rA,aE8];exact b2,λm hm=>?_⟩;rcases Fy m (runEnd M i-i+1)with z|z
   ·rw [xU M i perturb m (by omega)];intro y;have y':owner[i+m]? =some none:=y;have:=List.find?_eq_none.mp hf m (List.mem_range.mpr (by omega));exact this ((none_of _).mpr y')
   ·obtain⟨d,rfl⟩:∃d,m=runEnd M i-i+1+d:=⟨m-(runEnd M i-i+1),by omega⟩;rw [rA,aE8];exact b3 d (by omega)
theorem aKm {M:Nat} {owner:Array (Option Nat)} {e:Nat} (he:owner[e]? =some none):∀(fuel i perturb L:Nat),(gQ M L (i,perturb)).1=e->L<fuel->∃j,Ef M owner fuel i perturb=some j:=by
 intro fuel;induction fuel with
 |zero=>intro i perturb L _ h;omega
 |succ fuel ih=>
  intro i perturb L h1 h2;have key:Ef M owner (fuel+1) i perturb=match (Bp (runEnd M i+1-i)).find? λk=>(owner.getD (i+k) (some 0)).isNone with|some k=>some (i+k)|none=>Ef M owner fuel (leap M i perturb).1 (leap M i perturb).2:=rfl
  rw [key];cases hf:(Bp (runEnd M i+1-i)).find? λk=>(owner.getD (i+k) (some 0)).isNone with
  |some k=>exact⟨_,rfl⟩
  |none=>
   cases L with
   |zero=>
    have h1':i=e:=h1;subst h1';have hr:0<runEnd M i+1-i:=by unfold runEnd;split<;>omega
    have:=List.find?_eq_none.mp hf 0 (List.mem_range.mpr hr);have hs:i<owner.size:=(Array.getElem?_eq_some_iff.mp he).1;have h3:owner[i]=none:=(Array.getElem?_eq_some_iff.mp he).2;exact absurd (by simp [Em,hs,h3]) this
   |succ L=>exact ih _ _ L h1 (by omega)
structure Lay (M:Nat) (hs:List Int) (owner:Array (Option Nat)):Prop where
 size:owner.size=M+1
 has:∀i,i<hs.length->∃j:Nat,owner[j]? =some (some i)
 low:∀(j i:Nat),owner[j]? =some (some i)->i<hs.length
 uniq:∀(j j' i:Nat),owner[j]? =some (some i)->owner[j']? =some (some i)->j=j'
 way:∀(j i:Nat) (h:Int),owner[j]? =some (some i)->hs[i]? =some h->∃n,(advs M n (st M h)).j=j/\∀m,m<n->owner[(advs M m (st M h)).j]? ≠some none
theorem Lay.start (M:Nat):Lay M [] (Qm (M+1) none):=by
 have no:∀(j i:Nat),(Qm (M+1) (none:Option Nat))[j]? ≠some (some i):=λj i e=>by
  rw [Array.getElem?_replicate]at e;split at e<;>cases e
 exact⟨by simp,λi h=>absurd h (Dk i),λj i e=>absurd e (no j i),λj j' i e=>absurd e (no j i),λj i h e=>absurd e (no j i)⟩
theorem Lay.empty {M:Nat} {hs:List Int} {owner:Array (Option Nat)} (L:Lay M hs owner) (hl:hs.length<=M):∃e,e<=M/\owner[e]? =some none:=by
 refine Hd λno=>?_;have all:∀j,j<=M->∃i,owner[j]? =some (some i):=λj hj=>by
  have hs:j<owner.size:=by rw [L.size];omega
  cases g:owner[j]with
  |none=>exact absurd ⟨j,hj,by rw [Az hs,g]⟩ no
  |some i=>exact⟨i,by rw [Az hs,g]⟩
 have f:∀j,∃i,j<=M->owner[j]? =some (some i):=λj=>by
  by_cases hj:j<=M
  ·obtain⟨i,hi⟩:=all j hj;exact⟨i,λ_=>hi⟩
  ·exact⟨0,λz=>absurd z hj⟩
 obtain⟨F,hF⟩:=Classical.axiomOfChoice f;have nd:((Bp (M+1)).map F).Nodup:=by
  rw [Uz,Fh];refine(Ii (n:=M+1)).imp_of_mem λ{a b} ha hb hab z=>hab ?_;have h1:=hF a (by have:=List.mem_range.mp ha;omega);have h2:=hF b (by have:=List.mem_range.mp hb;omega);rw [z]at h1;exact L.uniq a b _ h1 h2
 have sub:(Bp (M+1)).map F ⊆ Bp hs.length:=λx hx=>by
  obtain⟨j,hj,rfl⟩:=List.mem_map.mp hx;exact List.mem_range.mpr (L.low j _ (hF j (by have:=List.mem_range.mp hj;omega)))
 have:=nd.length_le_of_subset sub;rw [Ab,Dd,Dd]at this;omega
theorem Lay.step {M:Nat} {hs:List Int} {owner:Array (Option Nat)} (R:Round M) (L:Lay M hs owner) (hl:hs.length<=M) (h:Int):∃j,Ef M owner (turns M) (bits h % (M+1)) (bits h)=some j/\Lay M (hs++[h]) (owner.setIfInBounds j (some hs.length)):=by
 obtain⟨e,he,e1⟩:=L.empty hl;have hb:bits h<2 ^ 64:=by
  unfold bits;have h1:=Jf h (show((2:Int) ^ 64)≠0 by decide);have h2:=Hq h (show(0:Int)<2 ^ 64 by decide);omega
 obtain⟨Lp,_,l2,l3⟩:=aAk R he (bits h % (M+1)) (bits h) hb;obtain⟨j,hj⟩:=aKm e1 (turns M) _ _ Lp l3 (by unfold turns;omega);obtain⟨w1,n,w2,w3⟩:=aOd L.size _ _ _ _ hj;have hjs:j<owner.size:=(Array.getElem?_eq_some_iff.mp w1).1;have at_:∀x,(owner.setIfInBounds j (some hs.length))[x]? =if x=j then some (some hs.length)else owner[x]? :=λx=>by
  rw [Array.getElem?_setIfInBounds];by_cases z:j=x
  ·subst z;simp [hjs]
  ·rw [if_neg z,if_neg (λy=>z y.symm)]
 have occ:∀x,owner[x]? ≠some none->(owner.setIfInBounds j (some hs.length))[x]? ≠some none:=λx z=>by
  rw [at_];split
  ·intro y;cases y
  ·exact z
 refine⟨j,hj,⟨by simp [L.size],λi hi=>?_,λx i g=>?_,λx y i g1 g2=>?_,λx i h' g g'=>?_⟩⟩
 ·rw [Ah,Fd]at hi;by_cases z:i<hs.length
  ·obtain⟨x,hx⟩:=L.has i z;refine⟨x,?_⟩;rw [at_,if_neg (λy=>by subst y;rw [w1]at hx;cases hx)];exact hx
  ·exact⟨j,by rw [at_,if_pos rfl,show i=hs.length by omega]⟩
 ·rw [at_]at g;rw [Ah,Fd];split at g
  ·cases g;omega
  ·have:=L.low x i g;omega
 ·rw [at_]at g1;rw [at_]at g2;split at g1
  ·split at g2
   ·omega
   ·cases g1;exact absurd (L.low y _ g2) (Ea _)
  ·split at g2
   ·cases g2;exact absurd (L.low x _ g1) (Ea _)
   ·exact L.uniq x y i g1 g2
 ·rw [at_]at g;split at g
  ·cases g;rw [Cu (Am _),Oj]at g';cases g';subst x;exact⟨n,w2,λm hm=>occ _ (w3 m hm)⟩
  ·have:=L.low x i g;rw [Dq this]at g';obtain⟨n',a1,a2⟩:=L.way x i h' g g';exact⟨n',a1,λm hm=>occ _ (a2 m hm)⟩
theorem aIa {M:Nat} (R:Round M):∀(l hs:List Int) (owner:Array (Option Nat)),Lay M hs owner->hs.length+l.length<=M+1->∃owner',(l.foldl (init:=some (owner,hs.length)) λacc h=>do
   let(owner,k)<-acc
   let j<-Ef M owner (turns M) (bits h % (M+1)) (bits h)
   pure (owner.setIfInBounds j (some k),k+1))=some (owner',(hs++l).length)/\Lay M (hs++l) owner'
 | [],hs,owner,L,_=>⟨owner,by simp,by simpa using L⟩
 |h::l,hs,owner,L,hl=>by
  rw [Ag]at hl
  obtain⟨j,hj,L'⟩:=L.step R (by omega) h
  obtain⟨o',e1,e2⟩:=aIa R l (hs++[h]) _ L' (by rw [Ah,Fd];omega)
  refine⟨o',?_,by simpa using e2⟩
  rw [Fe]
  have:(do
   let(owner,k)<-some (owner,hs.length)
   let j<-Ef M owner (turns M) (bits h % (M+1)) (bits h)
   pure (owner.setIfInBounds j (some k),k+1):Option (Array (Option Nat)×Nat))=some (owner.setIfInBounds j (some hs.length),hs.length+1):=by
   show(Ef M owner (turns M) (bits h % (M+1)) (bits h)).bind _=_
   rw [hj]
   rfl
  rw [this]
  rw [Ah,Fd]at e1
  rw [e1]
  simp
theorem aAt {M:Nat} (R:Round M) (hashes:Array Int) (hl:hashes.size<=M+1):∃owner,layClean M hashes=some owner/\Lay M hashes.toList owner:=by
 obtain⟨o',e1,e2⟩:=aIa R hashes.toList [] _ (Lay.start M) (by simpa using hl);refine⟨o',?_,by simpa using e2⟩;unfold layClean;rw [<-Array.foldl_toList];have e1':=e1;rw [Bd]at e1';rw [e1'];rfl
def gU (M:Nat) (owner:Array (Option Nat)):List (Nat×Nat):=(Bp (M+1)).filterMap λj=>(owner.getD j none).map (j,·)
theorem lL {M:Nat} {owner:Array (Option Nat)} (hsz:owner.size=M+1) {j i:Nat}:(j,i)∈gU M owner↔owner[j]? =some (some i):=by
 unfold gU;rw [List.mem_filterMap];constructor
 ·rintro⟨x,hx,e⟩;obtain⟨y,hy,e2⟩:=Option.map_eq_some_iff.mp e;cases e2;have hs:j<owner.size:=by rw [hsz];exact List.mem_range.mp hx
  have hy':owner[j]=some i:=by simpa [Em,hs]using hy
  rw [Az hs,hy']
 ·intro e;obtain⟨hs,e2⟩:=Array.getElem?_eq_some_iff.mp e;refine⟨j,List.mem_range.mpr (by omega),?_⟩;have:owner.getD j none=some i:=by simp [Em,hs,e2]
  rw [this];rfl
theorem vW (M:Nat) (owner:Array (Option Nat)):((gU M owner).map (·.1)).Pairwise (·<·):=by
 unfold gU;rw [Fh,List.pairwise_filterMap];refine(List.pairwise_lt_range (n:=M+1)).imp λ{a b} hab x hx y hy=>?_;obtain⟨_,_,rfl⟩:=Option.map_eq_some_iff.mp hx;obtain⟨_,_,rfl⟩:=Option.map_eq_some_iff.mp hy;exact hab
theorem aHl {M:Nat} {hs:List Int} {owner:Array (Option Nat)} (L:Lay M hs owner):((gU M owner).map (·.2)).Perm (Bp hs.length):=by
 have nd:((gU M owner).map (·.2)).Nodup:=by
  rw [Uz,Fh];have h1:=vW M owner;rw [Fh]at h1;refine h1.imp_of_mem λ{a b} ha hb hab z=>?_;have g1:=(lL L.size).mp (show(a.1,a.2)∈_ from ha);have g2:=(lL L.size).mp (show(b.1,b.2)∈_ from hb);rw [z]at g1;have:=L.uniq _ _ _ g1 g2;omega
 refine(List.perm_ext_iff_of_nodup nd Ii).mpr λi=>?_;rw [List.mem_range,List.mem_map];constructor
 ·rintro⟨⟨j,i'⟩,hm,rfl⟩;exact L.low j _ ((lL L.size).mp hm)
 ·intro hi;obtain⟨j,hj⟩:=L.has i hi;exact⟨(j,i),(lL L.size).mpr hj,rfl⟩
theorem aPa (M:Nat) {p:Probe} (h:p.j+p.more<=M):(adv M p).j+(adv M p).more<=M:=by
 unfold adv;split
 ·show p.j+1+(p.more-1)<=M;omega
 ·show(leap M p.i p.perturb).1+(runEnd M (leap M p.i p.perturb).1-(leap M p.i p.perturb).1)<=M;have:(leap M p.i p.perturb).1<=M:=by
   show(p.i*5+1+p.perturb / 32) % (M+1)<=M;have:=Kg (p.i*5+1+p.perturb / 32) (show 0<M+1 by omega);omega
  unfold runEnd;split<;>omega
theorem zH (M:Nat):∀(n:Nat) {p:Probe},p.j+p.more<=M->(advs M n p).j<=M
 |0,_,h=>by rw [advs];omega
 |n+1,_,h=>by rw [advs];exact zH M n (aPa M h)
theorem aL9 (M:Nat) (h:Int):(st M h).j+(st M h).more<=M:=by
 show bits h % (M+1)+(runEnd M (bits h % (M+1))-bits h % (M+1))<=M;have:=Kg (bits h) (show 0<M+1 by omega);unfold runEnd;split<;>omega
theorem aJz {M:Nat} (R:Round M) (finger moves:Nat) (led plain:Bool) (hashes:Array Int) (hl:hashes.size<=M):
  ∃t order,laid M finger moves led plain hashes=some (t,order)/\t.mask=M/\t.led=led/\t.plain=plain/\t.moves=moves/\t.Good/\t.place.size=hashes.size/\order.toList.Perm (Bp hashes.size)/\
   ∀(r j i:Nat) (h:Int),t.place[r]? =some j->order[r]? =some i->hashes[i]? =some h->qH t h j:=by
 obtain⟨owner,e1,L⟩:=aAt R hashes (by omega);have Pm:=aHl L;have Ps:(gU M owner).length=hashes.size:=by
  have:=Pm.length_eq;rw [Ab,Dd,Ap]at this;exact this
 refine⟨{mask:=M,place:=((gU M owner).map (·.1)).toArray,dummies:= #[],finger,led,moves,plain},((gU M owner).map (·.2)).toArray,?_,rfl,rfl,rfl,rfl,?_,?_,?_,?_⟩
 ·unfold laid;rw [e1];rfl
 ·refine⟨rfl,uY.mpr (vW M owner),λj hj=>?_,?_,R⟩
  ·obtain⟨⟨j',i⟩,hm,rfl⟩:=List.mem_map.mp hj;have:=(Array.getElem?_eq_some_iff.mp ((lL L.size).mp hm)).1;show j'<=M;rw [L.size]at this;omega
  ·show((gU M owner).map (·.1)).toArray.size<=M;rw [Ak,Ab,Ps];exact hl
 ·show((gU M owner).map (·.1)).toArray.size=_;rw [Ak,Ab,Ps]
 ·show((gU M owner).map (·.2)).Perm _;rw [Ap]at Pm;exact Pm
 ·intro r j i h h1 h2 h3;have g1:((gU M owner).map (·.1))[r]? =some j:=by simpa using h1
  have g2:((gU M owner).map (·.2))[r]? =some i:=by simpa using h2
  rw [Ay]at g1 g2;obtain⟨x,hx,rfl⟩:=Option.map_eq_some_iff.mp g1;rw [hx]at g2;cases g2;have hm:=(lL L.size).mp (show(x.1,x.2)∈_ from Bt hx);obtain⟨n,w1,w2⟩:=L.way x.1 x.2 h hm (by rw [Bk];exact h3);refine⟨n,w1,λm hm' z=>w2 m hm' ?_⟩;have z1:=(fG (t:={mask:=M,place:=((gU M owner).map (·.1)).toArray,dummies:= #[],finger,led,moves,plain}) (uY.mpr (vW M owner)) rfl).mp z;have low:(advs M m (st M h)).j<=M:=zH M m (aL9 M h);have hs:(advs M m (st M h)).j<owner.size:=by rw [L.size];omega
  cases g:owner[(advs M m (st M h)).j]with
  |none=>rw [Az hs,g]
  |some i'=>
   have g':owner[(advs M m (st M h)).j]? =some (some i'):=by rw [Az hs,g]
   exact absurd (List.mem_map.mpr ⟨((advs M m (st M h)).j,i'),(lL L.size).mpr g',rfl⟩) z1
end SetTable
end PySem
namespace PySem
open Sem (wp)
theorem filterMap_get {α β:Type} {f:α->Option β}:∀{l:List α},(∀i∈l,∃y,f i=some y)->∀r:Nat,(l.filterMap f)[r]? =l[r]?.bind f
 | [],_,r=>by simp
 |a::l,h,r=>by
  obtain⟨y,hy⟩:=h a (Af ..);rw [Ms hy];cases r with
  |zero=>simp [hy]
  |succ r=>
   rw [Ic,Ic];exact filterMap_get (λi hi=>h i (Ae _ hi)) r
theorem pP {α:Type} (l:List α):(Bp l.length).filterMap (λi:Nat=>l[i]?)=l:=by
 apply Kb;intro r;rw [filterMap_get (λi hi=>⟨l[i]'(List.mem_range.mp hi),Al (List.mem_range.mp hi)⟩)];by_cases h:r<l.length
 ·rw [Jm h];rfl
 ·rw [Cm (by rw [Dd];omega),Cm (by omega)];rfl
section
variable {prog:Program} {w:World} {K:Type} [DecidableEq K] {knd:HeapKind prog w K} {A:Around} {E:Value->Shared->Prop} {s:Shared} {a b:Addr} {o:Obj} {es:Array (Int×Value)} {ep:Nat} {t:SetTable} {xs:List (K×Addr)} {k:K}
theorem jF.relaid (S:jF knd s a o es ep t xs) (hkeep:∀h',Cw a s.heap h'->∀x c,knd.is s.heap x c->knd.is h' x c) {wanted:Nat} (R:SetTable.Round (Df wanted-1)) (hl:es.size<=Df wanted-1):
  ∃t' order,t.relaid (es.map (·.1)) wanted=some (t',order)/\(order.filterMap (es[·]?)).size=es.size/\t'.mask=Df wanted-1/\t'.led=t.led/\t'.plain=t.plain/\∃xs':List (K×Addr),xs'.Perm xs/\
   jF knd {s with heap:=s.heap.update a (Fx (order.filterMap (es[·]?)) t')} a (Fx (order.filterMap (es[·]?)) t' o) (order.filterMap (es[·]?)) (ep+1) t' xs':=by
 obtain⟨t',order,e1,e2,e3,e4,e5,G,sz,pm,wy⟩:=SetTable.aJz R t.finger (t.movedTo (Df wanted-1)) t.led t.plain (es.map (·.1)) (by rw [Qq];exact hl);rw [Qq]at sz pm;have hin:∀i∈order.toList,∃y,xs[i]? =some y:=λi hi=>by
  have:=List.mem_range.mp (pm.mem_iff.mp hi);rw [S.len]at this;exact⟨xs[i],Al this⟩
 have el:(order.filterMap (es[·]?)).toList=(order.toList.filterMap λi:Nat=>xs[i]?).map λx=>(knd.hash x.1,Au x.2):=by
  rw [Array.toList_filterMap,Pf];congr 1;funext i;exact S.entry i
 have px:(order.toList.filterMap λi:Nat=>xs[i]?).Perm xs:=by
  have:=pm.filterMap λi:Nat=>xs[i]?;rw [S.len,pP]at this;exact this
 have esz:(order.filterMap (es[·]?)).size=es.size:=by rw [<-Ap,el,Ab,px.length_eq,S.len]
 have hnf:(Fx (order.filterMap (es[·]?)) t' o).isFreed=false:=by
  rw [Jp _ _ S.hd];rfl
 refine⟨t',order,e1,esz,e2,e3,e4,_,px,⟨Bz _ S.ho hnf,tZ _ _ S.hd S.hex,by rw [Jp _ _ S.hd],el,G,by rw [sz,esz],λx hx=>hkeep _ (Bu ..) _ _ (S.keys x (px.mem_iff.mp hx)),?_,λr j x h1 h2=>?_⟩⟩
 ·rw [(px.map (·.1)).nodup_iff];exact S.nd
 ·rw [filterMap_get hin]at h2;obtain⟨i,hi,hx⟩:=Option.bind_eq_some_iff.mp h2;refine wy r j i _ h1 (by rw [<-Bk];exact hi) ?_;rw [Array.getElem?_map,S.entry i,hx];rfl
theorem vR (S:jF knd s a o es ep t xs) (hkeep:∀h',Cw a s.heap h'->∀x c,knd.is s.heap x c->knd.is h' x c) {wanted:Nat} (R:SetTable.Round (Df wanted-1)) (hl:es.size<=Df wanted-1) (hsz:Df wanted<=sizeLine) {Q:Unit->Shared->Prop}
  (h:∀(h':Heap) (o':Obj) (es':Array (Int×Value)) (t':SetTable) (xs':List (K×Addr)),Cw a s.heap h'->xs'.Perm xs->t'.mask=Df wanted-1->t'.led=t.led->t'.plain=t.plain->jF knd {s with heap:=h'} a o' es' (ep+1) t' xs'->Q () {s with heap:=h'}):
  wpAny (model prog w) A (setRelay a wanted) Q E s:=by
 obtain⟨t',order,e1,e2,e3,e4,e5,xs',px,S'⟩:=S.relaid hkeep R hl;unfold setRelay;refine Aa (Dv S.ho S.hd S.fits ?_);dsimp only;rw [if_neg (by omega)];refine Aa ?_;rw [e1];show wpAny _ _ (if(order.filterMap (es[·]?)).size != es.size then _ else pure (order.filterMap (es[·]?),t')) _ _ _;rw [if_neg (by rw [e2];simp)];refine Ad ?_;refine Lh S.ho S.hd (h _ _ _ _ xs' (Bu ..) px e3 e4 e5 S') ?_;rw [e2];omega
end
end PySem
namespace PySem
open Sem (wp)
namespace SetTable
variable {t:SetTable}
theorem aE5 (G:t.Good) (h:Int):∃N,N<10*turns t.mask/\t.slot (advs t.mask N (t.probeStart h)).j= .empty/\∀m,m<N->t.slot (advs t.mask m (t.probeStart h)).j≠ .empty:=by
 obtain⟨N,h1,h2⟩:=aHd G.round G.dum G.room (t.probeStart h) (aFh t h).1 (aFh t h).2;induction N using Ls with
 |_ N ih=>
  by_cases hx:∃m,m<N/\t.slot (advs t.mask m (t.probeStart h)).j= .empty
  ·obtain⟨m,hm,e⟩:=hx;exact ih m hm (by omega) e
  ·exact⟨N,h1,h2,λm hm e=>hx ⟨m,hm,e⟩⟩
def Small (t:SetTable):Prop:=(t.mask=7/\t.place.size<=4)∨(t.mask=31/\t.place.size<=18)
theorem Small.odd (S:t.Small):t.mask % 2=1:=by rcases S with ⟨e,_⟩|⟨e,_⟩<;>rw [e]
end SetTable
section
variable {prog:Program} {w:World} {K:Type} [DecidableEq K] (knd:HeapKind prog w K)
def kY (s:Shared) (a:Addr) (l:Bool) (xs:List (K×Addr)):Prop:=∃o es ep t,jF knd s a o es ep t xs/\t.Small/\t.plain=true/\t.led=l
variable {knd} {A:Around} {E:Value->Shared->Prop} {s:Shared} {a b:Addr} {o:Obj} {es:Array (Int×Value)} {ep:Nat} {t:SetTable} {xs:List (K×Addr)} {k:K} {l:Bool}
theorem kY.at (D:sV knd) {s':Shared} (S:kY knd s a l xs) (h1:∀o,s.heap.get? a=some o->s'.heap.get? a=some o) (h2:∀b o,o.cls= .type "tuple"->s.heap.get? b=some o->s'.heap.get? b=some o):kY knd s' a l xs:=by
 obtain⟨o,es,ep,t,S,r⟩:=S;exact⟨o,es,ep,t,⟨h1 o S.ho,S.hex,S.hd,S.he,S.good,S.size,λx hx=>D.mono (S.keys x hx) h2,S.nd,S.way⟩,r⟩
theorem aG5 (x:Addr) (es:Array (Int×Value)):byScan (.ref x) es=false:=rfl
theorem nY (D:sV knd) (S:kY knd s a l xs) (hn:xs.length<18) (hu:knd.room A) (hkey:knd.is s.heap k b) {Q:Bool->Shared->Prop}
  (hold:(∃x∈xs,x.1=k)->Q false s)
  (hnew:(∀x∈xs,x.1≠k)->∀h' xs',Cw a s.heap h'->xs'.Perm ((k,b)::xs)->kY knd {s with heap:=h'} a l xs'->Q true {s with heap:=h'}):
  wpAny (model prog w) A (setAddHashed a (.ref b) (knd.hash k)) Q E s:=by
 obtain⟨o,es,ep,t,S,sm,pl,rfl⟩:=S;unfold setAddHashed;refine Ca ?_;unfold setAddHashedIn;refine Aa (Dv S.ho S.hd S.fits ?_);dsimp only;rw [aG5];simp only [An,if_false];obtain⟨N,n1,n2,n3⟩:=SetTable.aE5 S.good (knd.hash k);have bigm:10*Ir t.mask<=100000:=by
  unfold Ir;rcases sm with ⟨e,_⟩|⟨e,_⟩<;>rw [e]<;>decide
 refine Aa (vH S sm.odd D hu hkey n2 n1 n3 (λh=>?_) (λh=>?_) 100000 0 none rfl (Bb _) (by omega) λm hm=>absurd hm (Dk m))
 ·exact Ad (hold h)
 ·dsimp only;refine Aa (Dv S.ho S.hd S.fits ?_);dsimp only;have lowj:(SetTable.advs t.mask N (t.probeStart (knd.hash k))).j<=t.mask:=SetTable.zH _ _ (SetTable.aL9 _ _);have hsz:t.place.size+1<=t.mask:=by rcases sm with ⟨e,h⟩|⟨e,h⟩<;>omega
  have S':=S.add hkey h (λh' sb x c hx=>D.keep hx S.ho S.hex sb) n2 n3 lowj hsz rfl rfl;have hb:=(SetTable.gY S.good.rise (SetTable.advs t.mask N (t.probeStart (knd.hash k))).j).1;have psz:(t.put (SetTable.advs t.mask N (t.probeStart (knd.hash k))).j).1.place.size=t.place.size+1:=by
   rw [SetTable.jJ S.good.dum];exact SetTable.mH _ _ hb
  have pmk:(t.put (SetTable.advs t.mask N (t.probeStart (knd.hash k))).j).1.mask=t.mask:=by rw [SetTable.jJ S.good.dum]
  have ppl:(t.put (SetTable.advs t.mask N (t.probeStart (knd.hash k))).j).1.plain=true:=by rw [SetTable.jJ S.good.dum];exact pl
  have pld:(t.put (SetTable.advs t.mask N (t.probeStart (knd.hash k))).j).1.led=t.led:=by rw [SetTable.jJ S.good.dum]
  have p2:(t.put (SetTable.advs t.mask N (t.probeStart (knd.hash k))).j).2=By t.place (SetTable.advs t.mask N (t.probeStart (knd.hash k))).j:=by rw [SetTable.jJ S.good.dum]
  have pm:=(Qf (a:=(k,b)) (l₁:=xs.take (By t.place (SetTable.advs t.mask N (t.probeStart (knd.hash k))).j)) (l₂:=xs.drop (By t.place (SetTable.advs t.mask N (t.probeStart (knd.hash k))).j)));rw [Gs]at pm;have fl:(t.put (SetTable.advs t.mask N (t.probeStart (knd.hash k))).j).1.fill=t.place.size+1:=by
   unfold Pp;rw [psz,S'.good.dum];rfl
  rw [ppl];simp only [if_true];refine Aa (D.byValue hkey ?_);simp only [if_true,p2];have els:=S'.len;have eln:=S.len;have hxl:=pm.length_eq;rw [Ag]at hxl;refine Aa (Lh S.ho S.hd ?_ (by rw [els,hxl];unfold sizeLine;omega));by_cases full:(t.put (SetTable.advs t.mask N (t.probeStart (knd.hash k))).j).1.tooFull=true
  ·rw [full];simp only [Gp,Ru,if_true];have fd:t.mask=7/\t.place.size=4:=by
    unfold Od at full;rw [fl,pmk]at full;have full:=of_decide_eq_true full;have:=S.size;rcases sm with ⟨e,h⟩|⟨e,h⟩<;>rw [e]at full<;>omega
   have e5:es.size=4:=by rw [<-S.size];exact fd.2
   have eg:Df (SetTable.grown (es.size+1))=32:=by rw [e5];decide
   refine Aa (vR S' (λh' sb x c hx=>D.keep hx S'.ho S'.hex sb) (by rw [eg];exact SetTable.aQ3) (by rw [els,hxl,eg, <-eln,e5];decide) (by rw [eg];unfold sizeLine;omega) λh' o' es' t' xs' sb px e1 e2 e3 S2=>?_);refine Ad ?_;refine hnew h h' xs' (Lv (Bu ..) sb) (px.trans pm) ⟨o',es',_,t',S2,.inr ⟨by rw [e1,eg],?_⟩,by rw [e3];exact ppl,by rw [e2];exact pld⟩;rw [S2.size,S2.len,px.length_eq,hxl, <-eln,e5];decide
  ·have full:=Bool.eq_false_iff.mpr full;rw [full];simp only [Gq,An,if_false];refine Ad (hnew h _ _ (Bu ..) pm ⟨_,_,_,_,S',?_,ppl,pld⟩);unfold Od at full;rw [fl,pmk]at full;have full:=of_decide_eq_false full;have sz:=S.size;unfold SetTable.Small;rw [pmk,psz];rcases sm with ⟨e,h⟩|⟨e,h⟩
   ·left
    rw [e]at full;exact⟨e,by omega⟩
   ·right
    exact⟨e,by omega⟩
end
end PySem
namespace PySem
open Sem (wp)
theorem pW (n:Nat) (i:Int) (tk):hashByValue n (.int i tk)=pure true:=by cases n<;>rfl
theorem vG (n:Nat) {v:Value} (h:carriedByValue v=true):ofAClassStatement n v=pure false:=by
 cases v with
 |ref a=>cases h
 |_=>first|rfl|(unfold ofAClassStatement;rfl)
section
variable {prog:Program} {w:World} {K:Type} [DecidableEq K] {knd:KeyKind prog w K} {A:Around} {E:Value->Shared->Prop} {s:Shared}
theorem ItemsAre.ints (hv:∀k v,knd.is k v=true->∃i tk,v=Dc i tk) {x:List K} {vs:List Value} (hx:ItemsAre knd x vs):∀v∈vs,∃i tk,v=Dc i tk:=by
 induction hx with
 |nil=>intro v hv;simp at hv
 |@cons k v' ks vs h1 _ ih=>
  intro v hm;rcases List.mem_cons.mp hm with rfl|hm
  ·exact hv _ _ h1
  ·exact ih v hm
theorem nG (hv:∀k v,knd.is k v=true->∃i tk,v=Dc i tk) {n:Nat} {ks:List K} {a:Addr} {Q:Bool->Shared->Prop} (hk:IsTupleKey knd s.heap ks a) (h:Q true s):wpAny (model prog w) A (hashByValue (n+1) (.ref a)) Q E s:=by
 have hT:=hk.typeIs;obtain⟨o,items,m,ho,_,hd,hi⟩:=hk;unfold hashByValue;refine Aa (Et hT F.slot_tuple_hash.lookup ?_);show wpAny _ _ (seqItems? (.ref a)>>=_) _ _ s;refine Aa (Fb ho hd ?_);refine Aa ?_;show wpAny _ _ (forIn items _ _) _ _ s;rw [<-Ei];refine Dz _ (λrest r s'=>r.1=none/\s'=s/\∀v∈rest,∃i tk,v=Dc i tk) _ ?_ ?_ _ _ ⟨rfl,rfl,hi.ints hv⟩
 ·rintro v rest r s' ⟨hr,rfl,hall⟩;obtain⟨i,tk,rfl⟩:=hall v Af;rw [pW];refine Aa (Ad ?_);simp only [Bq,An,if_false];exact Ad ⟨rfl,rfl,λu hu'=>hall u (Ae _ hu')⟩
 ·rintro⟨r1,r2⟩ s' ⟨hr,rfl,_⟩;simp only at hr;subst hr;exact Ad h
theorem pJ (hv:∀k v,knd.is k v=true->∃i tk,v=Dc i tk) {x:K×List K} {a:Addr} {Q:Bool->Shared->Prop} (hk:bH knd s.heap x a) (h:Q true s):wpAny (model prog w) A (hashByValue 8 (.ref a)) Q E s:=by
 have hT:=hk.typeIs;obtain⟨o,v,b,m,ho,_,hd,h1,h2⟩:=hk;unfold hashByValue;refine Aa (Et hT F.slot_tuple_hash.lookup ?_);show wpAny _ _ (seqItems? (.ref a)>>=_) _ _ s;refine Aa (Fb ho hd ?_);refine Aa ?_;show wpAny _ _ (forIn _ _ _) _ _ s;rw [<-Ei];refine Dz _ (λrest r s'=>r.1=none/\s'=s/\∀u∈rest,u=v∨u= .ref b) _ ?_ ?_ _ _ ⟨rfl,rfl,λu hu=>by simpa using hu⟩
 ·rintro u rest r s' ⟨hr,rfl,hall⟩;rcases hall u Af with rfl|rfl
  ·obtain⟨i,tk,rfl⟩:=hv _ _ h1;rw [pW];refine Aa (Ad ?_);simp only [Bq,An,if_false];exact Ad ⟨rfl,rfl,λu hu'=>hall u (Ae _ hu')⟩
  ·refine Aa (nG hv h2 ?_);simp only [Bq,An,if_false];exact Ad ⟨rfl,rfl,λu hu'=>hall u (Ae _ hu')⟩
 ·rintro⟨r1,r2⟩ s' ⟨hr,rfl,_⟩;simp only at hr;subst hr;exact Ad h
theorem qW {n:Nat} {ks:List K} {a:Addr} {Q:Bool->Shared->Prop} (hk:IsTupleKey knd s.heap ks a) (h:Q false s):wpAny (model prog w) A (ofAClassStatement (n+1) (.ref a)) Q E s:=by
 have hT:=hk.typeIs;obtain⟨o,items,m,ho,_,hd,hi⟩:=hk;unfold ofAClassStatement;refine Aa (Ly hT ?_);dsimp only;simp only [beq_self_eq_true,if_true];refine Aa (Ad ?_);simp only [Bq,An,if_false];refine Aa (Fb ho hd ?_);dsimp only;refine Aa ?_;rw [<-Ei];refine Dz _ (λrest r s'=>r.1=none/\s'=s/\∀v∈rest,carriedByValue v=true) _ ?_ ?_ _ _ ⟨rfl,rfl,hi.byValue⟩
 ·rintro v rest r s' ⟨hr,rfl,hall⟩;rw [vG _ (hall v Af)];refine Aa (Ad ?_);simp only [An,if_false];exact Ad ⟨rfl,rfl,λu hu'=>hall u (Ae _ hu')⟩
 ·rintro⟨r1,r2⟩ s' ⟨hr,rfl,_⟩;simp only at hr;subst hr;exact Ad h
theorem rY {x:K×List K} {a:Addr} {Q:Bool->Shared->Prop} (hk:bH knd s.heap x a) (h:Q false s):wpAny (model prog w) A (ofAClassStatement 8 (.ref a)) Q E s:=by
 have hT:=hk.typeIs;obtain⟨o,v,b,m,ho,_,hd,h1,h2⟩:=hk;unfold ofAClassStatement;refine Aa (Ly hT ?_);dsimp only;simp only [beq_self_eq_true,if_true];refine Aa (Ad ?_);simp only [Bq,An,if_false];refine Aa (Fb ho hd ?_);dsimp only;refine Aa ?_;rw [<-Ei];refine Dz _ (λrest r s'=>r.1=none/\s'=s/\∀u∈rest,u=v∨u= .ref b) _ ?_ ?_ _ _ ⟨rfl,rfl,λu hu=>by simpa using hu⟩
 ·rintro u rest r s' ⟨hr,rfl,hall⟩;rcases hall u Af with rfl|rfl
  ·rw [vG _ (knd.byValue _ _ h1)];refine Aa (Ad ?_);simp only [An,if_false];exact Ad ⟨rfl,rfl,λu hu'=>hall u (Ae _ hu')⟩
  ·refine Aa (qW h2 ?_);simp only [An,if_false];exact Ad ⟨rfl,rfl,λu hu'=>hall u (Ae _ hu')⟩
 ·rintro⟨r1,r2⟩ s' ⟨hr,rfl,_⟩;simp only at hr;subst hr;exact Ad h
theorem IsTupleKey.monoS {h h':Heap} {ks:List K} {a:Addr} (x:IsTupleKey knd h ks a) (hs:∀b o,o.cls= .type "tuple"->h.get? b=some o->h'.get? b=some o):IsTupleKey knd h' ks a:=by
 obtain⟨o',items,n,ho',hc,hd',hi⟩:=x;exact⟨o',items,n,hs _ _ hc ho',hc,hd',hi⟩
theorem bH.monoS {h h':Heap} {x:K×List K} {a:Addr} (hx:bH knd h x a) (hs:∀b o,o.cls= .type "tuple"->h.get? b=some o->h'.get? b=some o):bH knd h' x a:=by
 obtain⟨o',v,b,n,ho',hc,hd',h1,h2⟩:=hx;exact⟨o',v,b,n,hs _ _ hc ho',hc,hd',h1,h2.monoS hs⟩
theorem aNb (hv:∀k v,knd.is k v=true->∃i tk,v=Dc i tk):sV (gO knd) where
 mono:=λx hs=>bH.monoS x hs
 byValue:=λx h=>pJ hv x h
 plain:=λx h=>rY x h
end
end PySem
namespace PySem
open Sem (wp)
namespace F
theorem cV:Slot "set_iterator" "__next__" "set_iterator.__next__":=
 .of (owner:="set_iterator") (n:="__next__") (by rw [Uu,Qc];kernel_rfl) (by decide+kernel) (by decide+kernel) (by decide+kernel)
  (by first|exact .inl (by decide+kernel)|exact .inr (by decide+kernel)) (by rw [Oa];kernel_rfl)
theorem iQ:Slot "set_iterator" "__iter__" "set_iterator.__iter__":=
 .of (owner:="set_iterator") (n:="__iter__") (by rw [Uu,Qc];kernel_rfl) (by decide+kernel) (by decide+kernel) (by decide+kernel)
  (by first|exact .inl (by decide+kernel)|exact .inr (by decide+kernel)) (by rw [Oa];kernel_rfl)
theorem oE:entryFor table "set_iterator.__next__"=some Builtin.«set_iterator.__next__»:=entryFor_of_tree (by kernel_rfl)
theorem nP:entryFor table "set_iterator.__iter__"=some Builtin.«dict_keyiterator.__iter__»:=
 entryFor_alias (id':="dict_keyiterator.__iter__") (by kernel_rfl) (by first|rfl|decide+kernel) (by decide+kernel) (by kernel_rfl)
theorem aAi:entryFor table "set.__iter__"=some Builtin.«frozenset.__iter__»:=
 entryFor_alias (id':="frozenset.__iter__") (by kernel_rfl) (by first|rfl|decide+kernel) (by decide+kernel) (by kernel_rfl)
theorem lW:Manifest.owners.lookup (String.ofList ['r','o','t','a','r','e','t','i','_','t','e','s'].reverse)=some Manifest.sig_set_iterator:=by kernel_rfl
theorem nC (a:Value):argsOk "set_iterator.__next__" ⟨[a],[]⟩:=by
 unfold argsOk;rw [signature?_of (id:="set_iterator.__next__") (n:=['_','_','t','x','e','n','_','_']) (o:=['r','o','t','a','r','e','t','i','_','t','e','s']) (by kernel_rfl) lW];kernel_rfl
theorem mY (a:Value):argsOk "set_iterator.__iter__" ⟨[a],[]⟩:=by
 unfold argsOk;rw [signature?_of (id:="set_iterator.__iter__") (n:=['_','_','r','e','t','i','_','_']) (o:=['r','o','t','a','r','e','t','i','_','t','e','s']) (by kernel_rfl) lW];kernel_rfl
end F
theorem eZ {α:Type}:∀{l:List α} {n:Nat} (h:n<l.length),(l[n]::l.eraseIdx n).Perm l
 | [],_,h=>absurd h (Dk _)
 |a::l,0,_=>Gf _
 |a::l,n+1,h=>by
  have h':n<l.length:=Nq h;show(l[n]::a::l.eraseIdx n).Perm (a::l);exact(Kh _ _ _).trans ((eZ (Nq h)).cons a)
theorem aAo {α:Type} (next:Nat->Nat) (xs:Array α):(pickOrder next xs).toList.Perm xs.toList:=by
 have go:∀(fuel k:Nat) (left:List α) (out:Array α),left.length=fuel->(Lk next fuel k left out).toList.Perm (out.toList++left):=by
  intro fuel;induction fuel with
  |zero=>
   intro k left out h;have:left=[]:=List.length_eq_zero_iff.mp h;subst this;simp [Lk]
  |succ fuel ih=>
   intro k left out h;have hlt:next k % left.length<left.length:=Kg _ (by omega);rw [Lk,Al hlt];dsimp only;refine(ih _ _ _ (by rw [List.length_eraseIdx_of_lt hlt];omega)).trans ?_;rw [Array.toList_push,Bj];refine List.Perm.append_left _ ?_;exact eZ hlt
 exact go xs.size 0 xs.toList #[] (by simp)
section
variable {prog:Program} {w:World} {A:Around} {E:Value->Shared->Prop} {s:Shared}
def gH (w:World) (S:Addr) (es:Array (Int×Value)) (ep:Nat):List Value:=if w.params.followText "set-order"=true then(pickOrder (w.params.setOrder S ep) es).toList.map (·.2)else es.toList.map (·.2)
theorem jX (w:World) (S:Addr) (es:Array (Int×Value)) (ep:Nat):(gH w S es ep).Perm (es.toList.map (·.2)):=by
 unfold gH;split
 ·exact(aAo _ _).map _
 ·exact Gf _
def aAd (w:World) (t:SetTable) (slot i:Nat):Prop:=w.params.followText "set-order"=true∨By t.place slot=i
theorem aF3 {xs:Array Nat} (R:SetTable.tD xs) {i:Nat} (h:i<xs.size):By xs (xs.getD i 0+1)=i+1:=by
 obtain⟨h1,h2,h3⟩:=SetTable.gY R (xs.getD i 0+1);rcases Ia (By xs (xs.getD i 0+1)) (i+1)with z|z|z
 ·have:=h3 i (by omega) h;omega
 ·exact z
 ·have:=h2 (i+1) z;have:=R i (i+1) (by omega) (by omega);omega
theorem aAw {S:Addr} {o:Obj} {es:Array (Int×Value)} {ep:Nat} {t:SetTable} {slot i:Nat} {Q:Option (Value×Nat)->Shared->Prop} (ho:s.heap.get? S=some o) (hd:o.data= .set es ep t) (hf:t.fits es.size=true) (hr:SetTable.tD t.place) (hpl:t.plain=true) (hl:t.led= !w.params.followText "set-order")
  (hs:aAd w t slot i) (h1:∀v slot',(gH w S es ep)[i]? =some v->aAd w t slot' (i+1)->Q (some (v,slot')) s) (h2:es.size<=i->Q none s):wpAny (model prog w) A (setNext S slot i ep) Q E s:=by
 have psz:t.place.size=es.size:=by
  simp only [Po,Fp,beq_iff_eq,decide_eq_true_eq]at hf;exact hf.1
 unfold setNext setsByText;refine Aa (Dv ho hd hf ?_);dsimp only;refine Aa (Aa (Hi (Ad ?_)));dsimp only [model];have olen:(gH w S es ep).length=es.size:=by rw [(jX w S es ep).length_eq,Ab,Ap]
 cases hb:w.params.followText "set-order"
 ·simp only [An,if_false];have hs:By t.place slot=i:=by
   rcases hs with z|z
   ·rw [hb]at z;cases z
   ·exact z
  show wpAny _ _ (if(!t.plain && decide (es.size>1))=true then _ else _) _ _ _;rw [hpl];simp only [Bq,Hr,An,if_false];show wpAny _ _ ((if(!t.led && !es.isEmpty)=true then _ else _)>>=_) _ _ _;rw [hl,hb];simp only [Gp,Bq,Hr,An,if_false];refine Aa (Ad ?_);rw [hs];have eo:(gH w S es ep)[i]? =(es[i]?).map (·.2):=by
   unfold gH;rw [hb];simp
  by_cases hi:i<es.size
  ·have hp:i<t.place.size:=by omega
   rw [Az hi,Az hp];refine Ad (h1 _ _ (by rw [eo,Az hi];rfl) (.inr ?_));have:=aF3 hr hp;simpa [Em,hp]using this
  ·rw [My (by omega)];exact Ad (h2 (by omega))
 ·simp only [if_true];rw [if_neg (by simp)];unfold setWalk setsByText;refine Aa (Aa (Dv ho hd hf ?_));dsimp only;refine Aa (Aa (Hi (Ad ?_)));dsimp only [model];rw [hb];simp only [if_true];refine Aa (Hi ?_);refine Ad ?_;dsimp only [model];have eo:(gH w S es ep)[i]? =((pickOrder (w.params.setOrder S ep) es)[i]?).map (·.2):=by
   unfold gH;rw [hb];simp
  cases hg:(pickOrder (w.params.setOrder S ep) es)[i]? with
  |none=>
   rw [hg]at eo;have:=List.getElem?_eq_none_iff.mp eo;exact Ad (h2 (by omega))
  |some e=>
   rw [hg]at eo;exact Ad (h1 _ _ eo (.inl hb))
def nQ (h:Heap) (I S:Addr) (slot i n ep:Nat):Prop:=∃o,h.get? I=some o/\o.cls= .type "set_iterator"/\o.data= .fields #[.int slot 0,.int i 0,.ref S,.int n 0,.int ep 0]
theorem nQ.typeIs {I S:Addr} {slot i n ep:Nat} (h:nQ s.heap I S slot i n ep):s.TypeIs (.ref I) "set_iterator":=let⟨o,ho,hc,_⟩:=h;⟨o,ho,hc⟩
variable {I S:Addr} {o:Obj} {es:Array (Int×Value)} {ep:Nat} {t:SetTable} {slot i:Nat}
theorem nU {Q:Option Value->Shared->Prop} (hh:A.handled=none) (hit:nQ s.heap I S slot i es.size ep) (ho:s.heap.get? S=some o) (hd:o.data= .set es ep t) (hf:t.fits es.size=true) (hr:SetTable.tD t.place) (hpl:t.plain=true) (hl:t.led= !w.params.followText "set-order")
  (hs:aAd w t slot i) (h1:∀v slot' h',(gH w S es ep)[i]? =some v->aAd w t slot' (i+1)->nQ h' I S slot' (i+1) es.size ep->Cw I s.heap h'->Q (some v) {s with heap:=h'}) (h2:es.size<=i->∀h',Uo I s.heap h'->Q none {s with heap:=h'}):
  wpAny (model prog w) A (pyNext (.ref I)) Q E s:=by
 obtain⟨oi,hoi,hci,hdi⟩:=id hit;unfold pyNext;refine Aa (Ow (Iz (name:=As "__next__") hit.typeIs F.cV
  (De F.cV hit.typeIs F.oE ?_ (F.nC _))))
 unfold Builtin.«set_iterator.__next__»;refine Aa (m:=slotArgs "__next__" 0 _) (Ad ?_);refine Aa (Nx hoi hdi ?_);dsimp only;refine Aa (Qr ho hd hf ?_);rw [if_neg (by simp)];simp only [Ib];refine Aa (aAw ho hd hf hr hpl hl hs (λv slot' e ok=>?_) λhge=>?_)
 ·dsimp only;refine Aa (Ie hoi hdi (by simp) ?_);have hoi2:=Bz (Nj (·.setIfInBounds 0 (rawInt slot'))) hoi (Jb (Eu hdi _));have hdi2:=Eu hdi (·.setIfInBounds 0 (rawInt slot'));refine Aa (Ie hoi2 hdi2 (by simp) ?_);refine Ad ⟨_,rfl,Ad (h1 v slot' _ e ok ⟨_,Bz _ hoi2 (Jb (Eu hdi2 _)),(Ke ..).trans ((Ke ..).trans hci),by rw [Eu hdi2];simp [rawInt]⟩ (Lv (Bu ..) (Bu ..)))⟩
 ·dsimp only;refine Aa (Ie hoi hdi (by simp) ?_);show wpAny _ _ (newExc (.type "StopIteration") []>>=_) _ _ _;refine Aa ?_;simp only [newExc,newTuple];refine Aa (Cv ?_ (by size_fits));refine Aa (m:=firstArgMember _ _) (Nb (a:=Cg) (by first|rfl|(simp only [firstArgMember];rfl)) ?_);refine Cv ?_ (by size_fits);simp only [raiseNew];refine Aa (wpAny_handled ?_);rw [show A.in1.handled=none from hh];refine Aa (Ad (wpAny_throw ?_));refine Aa (Ey (T:="StopIteration") (b:=true) ⟨_,Ar _ rfl,rfl⟩ isSubtype_stop ?_);exact Ad (h2 hge _ (((Bu ..).extBut.push _).push _))
theorem Walks.set (hh:A.handled=none) (hne:S≠I) (o:Obj) (hd:o.data= .set es ep t) (hf:t.fits es.size=true) (hr:SetTable.tD t.place) (hpl:t.plain=true) (hl:t.led= !w.params.followText "set-order"):
  Walks prog w A I [I,S] [I] es.size (λi v=>(gH w S es ep)[i]? =some v) (λi h=>(∃slot,nQ h I S slot i es.size ep/\aAd w t slot i)/\h.get? S=some o) where
 sub:=λb hb=>by simp at hb;simp [hb]
 frame:=λ_ _ _ st hk=>by
  obtain⟨⟨slot,⟨oi,h1,h2⟩,h3⟩,h4⟩:=st;exact⟨⟨slot,⟨oi,hk I (by simp) _ h1,h2⟩,h3⟩,hk S (by simp) _ h4⟩
 item:=λi s Q E hi st hQ=>by
  obtain⟨⟨slot,h1,h3⟩,h4⟩:=st;refine nU hh h1 h4 hd hf hr hpl hl h3 (λv slot' h' e ok it' sb=>?_) λhge=>absurd hi (by omega);exact hQ _ h' s.toks e ⟨⟨slot',it',ok⟩,(sb.2 S hne).trans h4⟩ λb o hb e=>sb.extBut b o (λh=>hb (by simp [h])) e
 done:=λs Q E st hQ=>by
  obtain⟨⟨slot,h1,h3⟩,h4⟩:=st;refine nU hh h1 h4 hd hf hr hpl hl h3 (λv slot' h' e ok it' sb=>?_) λhge h' he'=>hQ h' s.toks λb o hb e=>he' b o (λh=>hb (by simp [h])) e;have olen:(gH w S es ep).length=es.size:=by rw [(jX w S es ep).length_eq,Ab,Ap]
  rw [Cm (by omega)]at e;cases e
 self:=λ_ _ _ _ st hQ=>by
  obtain⟨⟨slot,h1,h3⟩,h4⟩:=st;refine Li h1.typeIs F.iQ (De F.iQ h1.typeIs F.nP ?_ (F.mY _));show wpAny _ _ (ret (.ref I)) _ _ _;exact Ad ⟨_,rfl,"set_iterator",_,h1.typeIs,F.cV.lookup,hQ⟩
end
end PySem
namespace PySem
open Sem (wp)
namespace F
theorem aCv:isSubtype (.type "set") (.type "set")=pure true:=by rw [Oa];kernel_rfl
end F
section
variable {prog:Program} {w:World} {A:Around} {E:Value->Shared->Prop} {s:Shared} {I S:Addr} {o:Obj} {es:Array (Int×Value)} {ep:Nat} {t:SetTable}
theorem wH {Q:Value->Shared->Prop} (ho:s.heap.get? S=some o) (hex:o.ExactSet) (hd:o.data= .set es ep t) (hf:t.fits es.size=true) (hpl:t.plain=true)
  (hQ:Q (.ref s.heap.objs.size) {s with heap:=s.heap.push {cls:= .type "set_iterator",data:= .fields #[.int 0 0,.int 0 0,.ref S,.int es.size 0,.int ep 0]}}):wpAny (model prog w) A (pyIter (.ref S)) Q E s:=by
 have hT:s.TypeIs (.ref S) "set":=⟨o,ho,hex.1⟩;refine Li hT Sw (De Sw hT F.aAi ?_ (F.args_set_iter_1 _));unfold Builtin.«frozenset.__iter__»;refine Aa (m:=Qj "__iter__" _) (Ad ?_);unfold Qk;refine Aa (Aa (Qr ho hd hf (Ad ?_)));unfold setDrawn setsByText;refine Aa (Aa (Dv ho hd hf ?_));dsimp only;refine Aa (Aa (Hi (Ad ?_)));show wpAny _ _ (pure (!(model prog w).w.params.followText "set-order" && (!t.plain && decide (es.size>1)))) _ _ _;rw [hpl];simp only [Bq,Hr,Gq];refine Ad ?_;simp only [An,if_false];refine Aa (Ad ?_);refine Aa (wpAny_setEpoch_of ho hd hf ?_);unfold newFields;refine Aa (Cv (Ad ⟨_,rfl,"set_iterator",_,⟨_,Ar _ rfl,rfl⟩,F.cV.lookup,?_⟩));simpa [rawInt]using hQ
theorem mD {Q:List Value->Shared->Prop} (hh:A.handled=none) (ho:s.heap.get? S=some o) (hex:o.ExactSet) (hd:o.data= .set es ep t) (hf:t.fits es.size=true) (hr:SetTable.tD t.place) (hpl:t.plain=true) (hl:t.led= !w.params.followText "set-order") (hn:es.size<=sizeLine)
  (hQ:∀h' tk,s.heap.objs.size<h'.objs.size->(∀b o,s.heap.get? b=some o->h'.get? b=some o)->Q (gH w S es ep) {s with heap:=h',toks:=tk}):wpAny (model prog w) A (collect (.ref S)) Q E s:=by
 have hSlt:S<s.heap.objs.size:=Ao ho;unfold collect;refine Aa (Nv (Da F.entry_proto_collect ?_));rw [Cc F.plain_proto_collect _];show wpAny _ A.in1 (newList []>>=λl=>again (.builtin "list.__iadd__" ⟨[l,.ref S],[]⟩)) _ _ s;refine Aa (Cv ?_);refine Ad ⟨Ed Rh _,Da F.entry_list_iadd ?_⟩;rw [Cc Rh _];have ho1:(s.heap.push {cls:= .type "list",data:= .seq ([]:List Value).toArray}).get? S=some o:=Ai _ ho;have hT1:Ma {s with heap:=s.heap.push {cls:= .type "list",data:= .seq ([]:List Value).toArray}} (.ref S) "set":=⟨o,ho1,hex.1⟩;have hS₁:(s.heap.push {cls:= .type "list",data:= .seq ([]:List Value).toArray}).get? s.heap.objs.size=some {cls:= .type "list",data:= .seq ([]:List Value).toArray}:=Ar _ rfl;have hne:s.heap.objs.size≠S:=Ho hSlt;have h1:Jy (.ref s.heap.objs.size) (.ref S)=false:=by simp [Jy,hne]
 show wpAny _ A.in1 (Gj (.ref s.heap.objs.size) (.ref S) (.ref s.heap.objs.size)) _ _ _;unfold Gj;refine Aa (Ly hT1 ?_);rw [if_neg (by rw [h1];decide)];refine Aa (wH ho1 hex hd hf hpl ?_);have esz:(s.heap.push {cls:= .type "list",data:= .seq ([]:List Value).toArray}).objs.size=s.heap.objs.size+1:=Dj ..;rw [esz];generalize hH2:(s.heap.push {cls:= .type "list",data:= .seq ([]:List Value).toArray}).push {cls:= .type "set_iterator",data:= .fields #[.int 0 0,.int 0 0,.ref S,.int es.size 0,.int ep 0]}=H2;have keep2:∀b o,s.heap.get? b=some o->H2.get? b=some o:=λb o e=>by rw [<-hH2];exact Ai _ (Ai _ e)
 have ho2:H2.get? S=some o:=keep2 _ _ ho;have hL2:H2.get? s.heap.objs.size=some {cls:= .type "list",data:= .seq ([]:List Value).toArray}:=by rw [<-hH2];exact Ai _ hS₁
 have hI2:H2.get? (s.heap.objs.size+1)=some {cls:= .type "set_iterator",data:= .fields #[.int 0 0,.int 0 0,.ref S,.int es.size 0,.int ep 0]}:=by rw [<-hH2, <-esz];exact Ar _ rfl
 have hT2:Ma {s with heap:=H2} (.ref S) "set":=⟨o,ho2,hex.1⟩;refine Aa (Ca ?_);unfold Us;refine Aa (Et hT2 F.slot_set_len.lookup ?_)
 (generalize hid:("set.__len__":String)=id0;(fail_if_success (clear hid id0));wp_delta;rw [show splitId id0=some ("set","__len__")from by subst hid;decide+kernel];subst hid)
 refine Aa (Ey (b:=true) hT2 F.aCv ?_);simp only [Bq,An,if_false];rw [if_pos (by decide+kernel)];refine Aa (Ly hT2 ?_);refine Ad ?_;rw [if_pos (by decide+kernel)];show wpAny _ A.in1 (rule "list.extend.makes-room">>=λ_=>Ur (.ref s.heap.objs.size)>>=λ_=>
  again (.builtin "list.extend.loop" ⟨[.ref s.heap.objs.size,.ref (s.heap.objs.size+1),.ref s.heap.objs.size],[]⟩)) _ _ _
 refine Aa (Ju ?_);refine Aa ?_;show wpAny _ A.in1 (updateSeq s.heap.objs.size (·.push .none)>>=λ_=>updateSeq s.heap.objs.size (·.pop)) _ _ _;refine Aa (Hs hL2 rfl ?_);have hS₂:=Bz (Dw (·.push Cg)) hL2 rfl;refine Hs hS₂ rfl ?_;have hS₃:=Bz (Dw (·.pop)) hS₂ rfl;have oth:∀b o,b≠s.heap.objs.size->H2.get? b=some o->((H2.update s.heap.objs.size (Dw (·.push Cg))).update s.heap.objs.size (Dw (·.pop))).get? b=some o:=
  λb o hb e=>(Cy _ _ (Di hb)).trans ((Cy _ _ (Di hb)).trans e)
 have hneI:S≠s.heap.objs.size+1:=Ax (Eb hSlt);have W:=(Walks.set (prog:=prog) (A:=A.in1) (I:=s.heap.objs.size+1) (S:=S) (by simp [hh]) hneI o hd hf hr hpl hl).toS;have hSf:s.heap.objs.size∉[s.heap.objs.size+1,S]:=by
  simp only [Bi,Gc,Be,or_false,not_or];exact⟨Ax (Dx _),hne⟩
 refine Ad ⟨Ed F.plain_extend_loop _,codeAny_extend_loopS W hn _ hSf _ es.size 0 _ _ _ rfl (Bb _)
  ⟨⟨0,⟨_,oth _ _ (Ho (Dx _)) hI2,rfl,rfl⟩,.inr ?_⟩,oth _ _ hne.symm ho2⟩ hS₃ (ItemsOf.nil _) λs' acc' c' hm hS' hacc=>?_⟩
 ·have:=(SetTable.gY hr 0).2.1;rcases Ew (By t.place 0)with z|z
  ·exact z
  ·exact absurd (this 0 z) (Dk _)
 ·show wpAny _ A (load s.heap.objs.size>>=_) _ _ s';refine Aa (Oq hS' ?_);obtain⟨h',g',d',tk',os'⟩:=s';have eg:g'=s.gens:=hm.gens;have ed:d'=s.drawn:=hm.drawn;have eo:os'=s.os:=hm.os;subst eg;subst ed;subst eo;have ea:acc'.toList=gH w S es ep:=by
   apply Kb;intro j;have olen:(gH w S es ep).length=es.size:=by rw [(jX w S es ep).length_eq,Ab,Ap]
   by_cases hj:j<acc'.size
   ·rw [Bk,Az hj];exact(hacc.2 j _ (Az hj)).symm
   ·rw [Cm (by rw [Ap];omega),Cm (by rw [olen, <-hacc.1];omega)]
  refine Ad ?_;rw [ea];refine hQ h' tk' (Ao hS') λb o e=>?_;have hb:b<s.heap.objs.size:=Ao e;exact hm.heap b o (by simp only [Bi,Gc,Be,or_false,not_or];exact⟨Ax hb,Ax (Eb hb)⟩) (oth b o (Ax hb) (keep2 b o e))
end
end PySem
namespace PySem.W
open PyProof.Rows
def KasT.Way {α:Type} (lt:Nat->Nat->Bool) (P:Nat->Prop):KasT α->(α->Prop)->Prop
 | .ret a,Q=>Q a
 | .ask i j k,Q=>P i/\P j/\(k (lt i j)).Way lt P Q
variable {lt:Nat->Nat->Bool} {P:Nat->Prop}
theorem KasT.way_bind {α β:Type} {f:α->KasT β} {Q:β->Prop}:∀(t:KasT α),t.Way lt P (λa=>(f a).Way lt P Q)->(t.bind f).Way lt P Q
 | .ret _,h=>h
 | .ask i j k,h=>⟨h.1,h.2.1,KasT.way_bind (k (lt i j)) h.2.2⟩
theorem KasT.way_mono {α:Type} {Q Q':α->Prop} (hq:∀a,Q a->Q' a):∀(t:KasT α),t.Way lt P Q->t.Way lt P Q'
 | .ret _,h=>hq _ h
 | .ask i j k,h=>⟨h.1,h.2.1,KasT.way_mono hq (k (lt i j)) h.2.2⟩
theorem KasT.way_wp {α:Type} {cmp:Nat->Nat->(Bool->Shared->Prop)->Shared->Prop} {s:Shared} (hc:∀i j C,P i->P j->C (lt i j) s->cmp i j C s) {Q:α->Prop} {G:α->Shared->Prop} (hg:∀a,Q a->G a s):∀(t:KasT α),t.Way lt P Q->t.kasWp cmp G s
 | .ret _,h=>hg _ h
 | .ask i j k,h=>hc i j _ h.1 h.2.1 (KasT.way_wp hc hg (k (lt i j)) h.2.2)
structure pG (n:Nat) (lt:Nat->Nat->Bool):Prop where
 tot:∀i j,i<n->j<n->i≠j->lt i j=true∨lt j i=true
 asym:∀i j,lt i j=true->lt j i=false
 trans:∀i j k,lt i j=true->lt j k=true->lt i k=true
def vAt (p:Array Nat) (i:Nat):Nat:=p.getD i 0
def mC (n:Nat) (p:Array Nat):Prop:=p.toList.Perm (Bp n)
variable {n:Nat} {p:Array Nat}
theorem mC.size (h:mC n p):p.size=n:=by have:=h.length_eq;rw [Dd,Ap]at this;exact this
theorem jO {p:Array Nat} {i:Nat}:vAt p i=(p[i]?).getD 0:=by
 unfold vAt Em;by_cases h:i<p.size
 ·simp [h]
 ·simp [h]
theorem mC.low (h:mC n p) (hn:0<n) (i:Nat):vAt p i<n:=by
 rw [jO];cases e:p[i]? with
 |none=>exact hn
 |some x=>
  have:x∈p.toList:=Bt (by rw [Bk];exact e);exact List.mem_range.mp (h.mem_iff.mp this)
theorem mC.inj (h:mC n p) {i j:Nat} (hi:i<n) (hj:j<n) (e:i≠j):vAt p i≠vAt p j:=by
 have nd:p.toList.Nodup:=h.nodup_iff.mpr Ii;have si:i<p.toList.length:=by rw [Ap,h.size];exact hi
 have sj:j<p.toList.length:=by rw [Ap,h.size];exact hj
 intro z;have h1:vAt p i=p.toList[i]:=by rw [jO, <-Bk,Al si];rfl
 have h2:vAt p j=p.toList[j]:=by rw [jO, <-Bk,Al sj];rfl
 rw [h1,h2]at z;exact e ((Kq nd).mp z)
theorem mC.perm {q:Array Nat} (h:mC n p) (e:q.Perm p):mC n q:=(Array.perm_iff_toList_perm.mp e).trans h
def oH (lt:Nat->Nat->Bool) (p:Array Nat) (k:Nat):Prop:=∀i j,i<j->j<k->lt (vAt p i) (vAt p j)=true
def aBv (lt:Nat->Nat->Bool) (p:Array Nat) (k:Nat):Prop:=∀i j,i<j->j<k->lt (vAt p j) (vAt p i)=true
theorem oH.more (S:pG n lt) {k:Nat} (h:oH lt p k) (hk:1<=k) (e:lt (vAt p (k-1)) (vAt p k)=true):oH lt p (k+1):=λi j hi hj=>by
 by_cases z:j<k
 ·exact h i j hi z
 ·obtain rfl:j=k:=by omega
  by_cases y:i=j-1
  ·subst y;exact e
  ·exact S.trans _ _ _ (h i (j-1) (by omega) (by omega)) e
theorem aBv.more (S:pG n lt) {k:Nat} (h:aBv lt p k) (hk:1<=k) (e:lt (vAt p k) (vAt p (k-1))=true):aBv lt p (k+1):=λi j hi hj=>by
 by_cases z:j<k
 ·exact h i j hi z
 ·obtain rfl:j=k:=by omega
  by_cases y:i=j-1
  ·subst y;exact e
  ·exact S.trans _ _ _ e (h i (j-1) (by omega) (by omega))
theorem aCm (S:pG n lt) (hn:0<n) (T:mC n p):∀(f k:Nat),1<=k->k+f=n->oH lt p k->(kas_asc p f k).Way lt (·<n) λm=>oH lt p m/\k<=m/\m<=n/\(m=n∨lt (vAt p m) (vAt p (m-1))=true)
 |0,k,h1,h2,h3=>⟨h3,Am _,by omega,.inl (by omega)⟩
 |f+1,k,h1,h2,h3=>by
  refine⟨T.low hn k,T.low hn (k-1),?_⟩;show KasT.Way lt (·<n) (if lt (vAt p k) (vAt p (k-1))=true then _ else _) _;by_cases c:lt (vAt p k) (vAt p (k-1))=true
  ·rw [if_pos c];exact⟨h3,Am _,by omega,.inr c⟩
  ·rw [if_neg c];have c':=(S.tot _ _ (T.low hn k) (T.low hn (k-1)) (T.inj (by omega) (by omega) (by omega))).resolve_left c;exact KasT.way_mono (λm z=>⟨z.1,by omega,z.2.2⟩) _ (aCm S hn T f (k+1) (by omega) (by omega) (h3.more S h1 c'))
theorem aEd (S:pG n lt) (hn:0<n) (T:mC n p):∀(f k:Nat),1<=k->k+f=n->aBv lt p k->(kas_desc f p k 0).Way lt (·<n) λr=>r.1=p/\r.2.2=0/\aBv lt p r.2.1/\k<=r.2.1/\r.2.1<=n
 |0,k,h1,h2,h3=>⟨rfl,rfl,h3,Am _,by show k<=n;omega⟩
 |f+1,k,h1,h2,h3=>by
  refine⟨T.low hn k,T.low hn (k-1),?_⟩;show KasT.Way lt (·<n) (if lt (vAt p k) (vAt p (k-1))=true then _ else _) _;by_cases c:lt (vAt p k) (vAt p (k-1))=true
  ·rw [if_pos c,if_neg (by omega)];exact KasT.way_mono (λm z=>⟨z.1,z.2.1,z.2.2.1,by omega,z.2.2.2.2⟩) _ (aEd S hn T f (k+1) (by omega) (by omega) (h3.more S h1 c))
  ·rw [if_neg c];refine⟨T.low hn (k-1),T.low hn k,?_⟩;have c':=(S.tot _ _ (T.low hn k) (T.low hn (k-1)) (T.inj (by omega) (by omega) (by omega))).resolve_left c;show KasT.Way lt (·<n) (if lt (vAt p (k-1)) (vAt p k)=true then _ else _) _;rw [if_pos c'];exact⟨rfl,rfl,h3,Am _,by show k<=n;omega⟩
theorem aK9 {m:Nat} (hm:m<=p.size) (i:Nat):vAt (kas_rev p 0 m) i=if i<m then vAt p (m-1-i)else vAt p i:=by
 rw [jO,kas_rev,getElem?_mirror_all hm];by_cases h:i<m
 ·rw [if_pos ⟨Bb _,h⟩,if_pos h,jO,Jc]
 ·rw [if_neg (λz=>h z.2),if_neg h,jO]
theorem aKd (S:pG n lt) (hn:0<n) (T:mC n p):(kas_count n p).Way lt (·<n) λr=>mC n r.2/\oH lt r.2 r.1/\1<=r.1/\r.1<=n:=by
 refine KasT.way_bind _ (KasT.way_mono (λm z=>?_) _ (aCm S hn T (n-1) 1 (Am _) (by omega) λi j h1 h2=>by omega));obtain⟨z1,z2,z3,z4⟩:=z;by_cases e:m=n
 ·rw [if_pos (beq_iff_eq.mpr e)];exact⟨T,z1,z2,z3⟩
 ·rw [if_neg (λy=>e (beq_iff_eq.mp y))];have z4:=z4.resolve_left e;by_cases g:m>1
  ·rw [if_pos g];refine⟨T.low hn 0,T.low hn (m-1),?_⟩;have c:lt (p.getD 0 0) (p.getD (m-1) 0)=true:=z1 0 (m-1) (by omega) (by omega);rw [c];dsimp only;rw [if_pos rfl];exact⟨T,z1,z2,z3⟩
  ·rw [if_neg g];obtain rfl:m=1:=by omega
   refine KasT.way_bind _ (KasT.way_mono (λr y=>?_) _ (aEd S hn T (n-(1+1)) (1+1) (by omega) (by omega) λi j h1 h2=>?_))
   ·obtain⟨q,k,w⟩:=r;obtain⟨y1,y2,y3,y4,y5⟩:=y;have y1:q=p:=y1;have y2:w=0:=y2;subst y1 y2;show KasT.Way lt (·<n) (if 0>0 then _ else _) _;rw [if_neg (by omega)];have y3:aBv lt q k:=y3;have y4:2<=k:=y4;have y5:k<=n:=y5;have T':mC n (kas_rev q 0 k):=T.perm (mirror_perm ..);have hs:k<=q.size:=by rw [T.size];exact y5
    refine KasT.way_bind _ (KasT.way_mono (λm' x=>?_) _ (aCm S hn T' (n-k) k (by omega) (by omega) λi j h1 h2=>?_))
    ·exact⟨T',x.1,by have:=x.2.1;show 1<=m';omega,x.2.2.1⟩
    ·rw [aK9 hs,aK9 hs,if_pos (by omega),if_pos h2];exact y3 _ _ (by omega) (by omega)
   ·obtain rfl:i=0:=by omega
    obtain rfl:j=1:=by omega
    exact z4
theorem wA (S:pG n lt) (hn:0<n) (T:mC n p) {k:Nat} (hk:k<n) (R:oH lt p k):∀(f l r:Nat),l<=r->r<=k->r-l<=f->(∀i,i<l->lt (vAt p i) (vAt p k)=true)->(∀i,r<=i->i<k->lt (vAt p k) (vAt p i)=true)->
  (kas_place p k f l r).Way lt (·<n) λm=>m<=k/\(∀i,i<m->lt (vAt p i) (vAt p k)=true)/\∀i,m<=i->i<k->lt (vAt p k) (vAt p i)=true
 |0,l,r,h1,h2,h3,a,b=>by
  obtain rfl:l=r:=by omega
  exact⟨h2,a,b⟩
 |f+1,l,r,h1,h2,h3,a,b=>by
  show KasT.Way lt (·<n) (if l≥r then _ else _) _;by_cases e:l≥r
  ·rw [if_pos e];obtain rfl:l=r:=by omega
   exact⟨h2,a,b⟩
  ·rw [if_neg e];refine⟨T.low hn k,T.low hn _,?_⟩;show KasT.Way lt (·<n) (if lt (vAt p k) (vAt p ((l+r) / 2))=true then _ else _) _;by_cases c:lt (vAt p k) (vAt p ((l+r) / 2))=true
   ·rw [if_pos c];refine wA S hn T hk R f l _ (by omega) (by omega) (by omega) a λi g1 g2=>?_;by_cases y:i=(l+r) / 2
    ·subst y;exact c
    ·exact S.trans _ _ _ c (R _ i (by omega) g2)
   ·rw [if_neg c];have c':=(S.tot _ _ (T.low hn k) (T.low hn ((l+r) / 2)) (T.inj hk (by omega) (by omega))).resolve_left c;refine wA S hn T hk R f _ r (by omega) h2 (by omega) (λi g=>?_) b;by_cases y:i=(l+r) / 2
    ·subst y;exact c'
    ·exact S.trans _ _ _ (R i _ (by omega) (by omega)) c'
theorem aO3 {k l:Nat} (hk:k<p.size) (hl:l<=k) (i:Nat):vAt (bubble p k (k-l)) i=if i=l then vAt p k else if l<i/\i<=k then vAt p (i-1)else vAt p i:=by
 rw [jO,getElem?_bubble hk _ (by omega),show k-(k-l)=l by omega];split
 ·rw [jO]
 ·split<;>rw [jO]
theorem aIu (S : pG n lt) (hn : 0 < n) : ∀ (f : Nat) (p : Array Nat) (k : Nat), mC n p → k + f = n → oH lt p k → (kas_bin f p k).Way lt (· < n) fun q => mC n q ∧ oH lt q n
  | 0, p, k, T, h, R => ⟨T, by obtain rfl : k = n := by omega
                               exact R⟩
  | f + 1, p, k, T, h, R => by
    refine KasT.way_bind _ (KasT.way_mono (fun l z => ?_) _ (wA S hn T (k := k) (by omega) R k 0 k (Bb _) (Am _) (by omega) (fun i g => by omega) fun i g1 g2 => by omega))
    obtain ⟨z1, z2, z3⟩ := z
    have hs : k < p.size := by rw [T.size]; omega
    refine aIu S hn f _ (k + 1) (T.perm (bubble_perm ..)) (by omega) fun i j h1 h2 => ?_
    rw [aO3 hs z1, aO3 hs z1]
    by_cases a1 : i = l
    · subst a1
      rw [if_pos rfl, if_neg (by omega), if_pos ⟨h1, by omega⟩]
      exact z3 (j - 1) (by omega) (by omega)
    · rw [if_neg a1]
      by_cases a2 : l < i ∧ i ≤ k
      · rw [if_pos a2, if_neg (by omega), if_pos ⟨by omega, by omega⟩]
        exact R _ _ (by omega) (by omega)
      · rw [if_neg a2]
        by_cases b1 : j = l
        · rw [if_pos b1]
          exact z2 i (by omega)
        · rw [if_neg b1]
          by_cases b2 : l < j ∧ j ≤ k
          · rw [if_pos b2]
            by_cases e : i = j - 1
            · omega
            · exact R _ _ (by omega) (by omega)
          · rw [if_neg b2]
            exact R _ _ h1 (by omega)
theorem aMd (S:pG n lt) (hn:0<n):(kas_sort n).Way lt (·<n) λq=>mC n q/\oH lt q n:=by
 have T:mC n (Sr (Bp n)):=Gf _;refine KasT.way_bind _ (KasT.way_mono (λr z=>?_) _ (aKd S hn T));obtain⟨m,q⟩:=r;obtain⟨z1,z2,z3,z4⟩:=z;have z1:mC n q:=z1;have z2:oH lt q m:=z2;have z3:1<=m:=z3;have z4:m<=n:=z4;show KasT.Way lt (·<n) (if m<n then kas_bin (n-max m 1) q (max m 1)else _) _;by_cases e:m<n
 ·rw [if_pos e,show max m 1=m by omega];exact aIu S hn _ _ _ z1 (by omega) z2
 ·rw [if_neg e];obtain rfl:m=n:=by omega
  exact⟨z1,z2⟩
end PySem.W
namespace PySem
open Sem (wp)
open PyProof.Rows (listItems_at)
open SeqAt
def aYs (A:Around) (s:Shared) (y x:Value) (b:Bool):Prop:=
 ∀(prog:Program) (w:World) (E:Value->Shared->Prop) (Q:Value->Shared->Prop),Q (.bool b) s->wpAny (model prog w) A (richCompare .Lt y x) Q E s
def LtN (n:Nat) (s:Shared) (y x:Value) (b:Bool):Prop:=∀A:Around,A.units<=n->aYs A s y x b
theorem LtN.ints (n:Nat) (s:Shared) (a b:Int) (t u):LtN n s (.int a t) (.int b u) (decide (a<b)):=λA _ prog w E Q h=>La h
section
variable {s:Shared} {a b:Addr} {xs ys:Array Value} {n:Nat}
end
end PySem
namespace PySem
open Sem (wp)
def jR:List Int->List Int->Bool
 | [],[]=>false
 | [],_::_=>true
 |_::_,[]=>false
 |x::xs,y::ys=>if x=y then jR xs ys else decide (x<y)
theorem uC:∀x,jR x x=false
 | []=>rfl
 |x::xs=>by rw [jR,if_pos rfl];exact uC xs
theorem aFj:∀x y,x≠y->jR x y=true∨jR y x=true
 | [],[],h=>absurd rfl h
 | [],_::_,_=> .inl rfl
 |_::_,[],_=> .inr rfl
 |x::xs,y::ys,h=>by
  unfold jR;by_cases e:x=y
  ·subst e;rw [if_pos rfl,if_pos rfl];exact aFj xs ys λz=>h (by rw [z])
  ·rw [if_neg e,if_neg (Di e),decide_eq_true_iff,decide_eq_true_iff];omega
theorem sX:∀x y z,jR x y=true->jR y z=true->jR x z=true
 | [],[],_,h,_=>absurd h (by decide)
 | [],_::_,[],_,h=>absurd h (by simp [jR])
 | [],_::_,_::_,_,_=>rfl
 |_::_,[],_,h,_=>absurd h (by simp [jR])
 |_::_,_::_,[],_,h=>absurd h (by simp [jR])
 |x::xs,y::ys,z::zs,h1,h2=>by
  unfold jR at h1 h2⊢;by_cases e1:x=y
  ·subst e1;rw [if_pos rfl]at h1;by_cases e2:x=z
   ·subst e2;rw [if_pos rfl]at h2⊢;exact sX xs ys zs h1 h2
   ·rw [if_neg e2]at h2⊢;exact h2
  ·rw [if_neg e1,decide_eq_true_iff]at h1;by_cases e2:y=z
   ·subst e2;rw [if_neg e1,decide_eq_true_iff];exact h1
   ·rw [if_neg e2,decide_eq_true_iff]at h2;rw [if_neg (by omega),decide_eq_true_iff];omega
theorem aBp (x y:List Int) (h:jR x y=true):jR y x=false:=by
 cases e:jR y x with
 |false=>rfl
 |true=>
  have:=sX x y x h e;rw [uC]at this;cases this
end PySem
namespace PySem
open Sem (wp)
open SeqAt
section
variable {prog:Program} {w:World} {s:Shared} {n:Nat}
theorem LtN.tups {a b:Addr} {x y:List Int} (ha:IsTupleKey (intKind prog w) s.heap x a) (hb:IsTupleKey (intKind prog w) s.heap y b) (hn:n+4<cLine):LtN n s (.ref a) (.ref b) (jR x y):=by
 obtain⟨oa,ia,na,hoa,ca,da,ha⟩:=ha;obtain⟨ob,ib,nb,hob,cb,db,hb⟩:=hb;have Ta:s.TypeIs (.ref a) "tuple":=⟨oa,hoa,ca⟩;have Tb:s.TypeIs (.ref b) "tuple":=⟨ob,hob,cb⟩;intro A hA prog' w' E Q hQ;refine Na (op:= .Lt) Ta Tb F.slot_tuple_lt (Os (Qo F.slot_tuple_lt.plain F.entry_tuple_lt (F.slot_tuple_lt.check _ _ _ _ _ _ _ _ Ta (F.args_tuple_lt_2 _ _) ?_))) (by omega);show wpAny _ _ (isInstance (.ref b) (.type "tuple")>>=_) _ _ s;refine Aa (Ey Tb Ha ?_);simp only [Bq,An,if_false];refine Aa (Gk hoa da ?_);refine Aa (Gk hob db ?_);refine Aa (Cq (Q:=λr s'=>s'=s/\(match r.1 with|some v=>v= .done (.ret (.bool (jR x y)))|none=>jR x y=decide (x.length<y.length))) ?_ (λr s' h=>?_) λ_ _ z=>z)
 ·clear hQ hoa hob da db ca cb Ta Tb;generalize ia.toList=us at ha⊢;generalize ib.toList=vs at hb⊢;induction ha generalizing y vs with
  |nil=>
   rw [List.zip_nil_left,Ra];refine Ad ⟨rfl,?_⟩;cases hb<;>rfl
  |@cons i u x us h1 t1 ih=>
   cases hb with
   |nil=>
    rw [List.zip_nil_right,Ra];exact Ad ⟨rfl,rfl⟩
   |@cons j v y vs h2 t2=>
    obtain⟨tu,rfl⟩:=Do h1;obtain⟨tv,rfl⟩:=Do h2;rw [Gb,Le];refine Aa (Aa (Mi ?_));by_cases ij:i=j
    ·subst ij;rw [beq_self_eq_true];simp only [Bq,An,if_false];refine Ad ?_;dsimp only;have:=ih vs t2;have e1:jR (i::x) (i::y)=jR x y:=by rw [jR,if_pos rfl]
     have e2:decide ((i::x).length<(i::y).length)=decide (x.length<y.length):=by simp
     rw [e1,e2];exact this
    ·rw [beq_eq_false_iff_ne.mpr ij];have e1:jR (i::x) (j::y)=decide (i<j):=by rw [jR,if_neg ij]
     rw [e1];simp only [Gp,if_true];refine Aa (Ju (Aa (LtN.ints (n+3) s i j tu tv A.in1 (by show A.units+1<=n+3;omega) prog' w' _ _ ?_)));exact Aa (Ad (Ad (Ad ⟨rfl,rfl⟩)))
 ·obtain⟨rfl,h⟩:=h;obtain⟨r,u⟩:=r;cases r with
  |some v=>
   have h:v=_:=h;subst h;exact Ad ⟨(λz=>nomatch z),hQ⟩
  |none=>
   have h:jR x y=_:=h;rw [ha.length,hb.length,Ap,Ap]at h;refine Ad ⟨(λz=>nomatch z),?_⟩;rw [h]at hQ;exact hQ
end
end PySem
namespace PySem
open Sem (wp)
section
variable {prog:Program} {w:World} {K:Type} [DecidableEq K] {knd:HeapKind prog w K} {A:Around}
structure Met (val:Nat->K) (adr:Nat->Addr) (i:Nat) (xs:List (K×Addr)):Prop where
 from':∀x∈xs,∃j,j<i/\x=(val j,adr j)
 all:∀j,j<i->∃x∈xs,x.1=val j
 len:xs.length<=i
theorem nF {R:Result->Shared->Prop} {I:Addr} {fp wr:List Addr} {G:Array GenState->Array GenState->Prop} {n:Nat} {P:Nat->Value->Prop} {St:Nat->Shared->Prop}
  (D:sV knd) (W:WalksS prog w A.in1 I fp wr G n P St) (S:Addr) (hSf:S∉fp) (hu:knd.room A.in1) (l:Bool)
  (val:Nat->K) (adr:Nat->Addr) (hval:∀i v,P i v->v= .ref (adr i)) (hn:∀i xs,i<n->Met val adr i xs->(xs.map (·.1)).Nodup->xs.length<18) (hnt:∀i s,St i s->∀b∈wr,∀o,s.heap.get? b=some o->o.cls≠ .type "tuple"):
  ∀(k i:Nat) (s:Shared) (xs:List (K×Addr)),n-i=k->i<=n->St i s->(∀j,j<n->knd.is s.heap (val j) (adr j))->
   kY knd s S l xs->Met val adr i xs->
   (∀s' xs',Moved (S::wr) G s s'->kY knd s' S l xs'->Met val adr n xs'->(∀b o,o.cls= .type "tuple"->s.heap.get? b=some o->s'.heap.get? b=some o)->R (.ok (.ret .none)) s')->
   codeAny (model prog w) A (.builtin "set.update.loop" ⟨[.ref S,.ref I],[]⟩) R s:=by
 have hSw:S∉wr:=λh=>hSf (W.sub _ h);have hsub:∀b∈wr,b∈S::wr:=λb hb=>Ae _ hb;intro k;induction k with
 |zero=>
  intro i s xs hk hi hst hkey hS hm0 hR;have hin:i=n:=by omega
  subst hin;refine Da Dt ?_;rw [Cc Br _];show wpAny _ A.in1 (pyNext (.ref I)>>=_) _ _ s;refine Aa (W.done s _ _ hst λs' hm=>?_);have ht:∀b o,o.cls= .type "tuple"->s.heap.get? b=some o->s'.heap.get? b=some o:=λb o hc e=>hm.heap b o (λhb=>hnt _ _ hst b hb o e hc) e;show wpAny _ A.in1 (ret Cg) _ _ s';exact Ad (hR s' xs (hm.mono hsub) (hS.at D (λo e=>hm.heap S o hSw e) ht) hm0 ht)
 |succ k ih=>
  intro i s xs hk hi hst hkey hS hm0 hR;have hlt:i<n:=by omega
  refine Da Dt ?_;rw [Cc Br _];show wpAny _ A.in1 (pyNext (.ref I)>>=_) _ _ s;refine Aa (W.item i s _ _ hlt hst λv s' hP hst' hm=>?_);obtain rfl:=hval i v hP;have ht:∀b o,o.cls= .type "tuple"->s.heap.get? b=some o->s'.heap.get? b=some o:=λb o hc e=>hm.heap b o (λhb=>hnt _ _ hst b hb o e hc) e;have hS':=hS.at D (λo e=>hm.heap S o hSw e) ht;have hk':∀j,j<n->knd.is s'.heap (val j) (adr j):=λj hj=>D.mono (hkey j hj) ht;show wpAny _ A.in1 (holding [Au (adr i)] (setAdd S (.ref (adr i)))>>=_) _ _ s';refine Aa (Ca ?_);unfold setAdd;refine Ca ?_;refine Aa (knd.pyHash (k:=val i) hu (hk' i hlt) ?_);have hS2:kY knd {s' with toks:=s'.toks+knd.draws (val i)} S l xs:=hS'.at D (λ_ e=>e) λ_ _ _ e=>e;refine nY D hS2 (hn i xs hlt hm0 (by obtain⟨_,_,_,_,z,_⟩:=hS2;exact z.nd)) hu (hk' i hlt) (λhold=>?_) (λhnew h' xs' hsb pm S3=>?_)
  ·refine Ad ⟨Ed Br _,ih (i+1) _ xs (by omega) hlt (W.frame _ s' _ _ hst' (Im _ _) λb hb o e=>e) hk' hS2 ⟨λx hx=>?_,λj hj=>?_,by have:=hm0.len;omega⟩ λs'' xs'' hm'' S'' M'' ht''=>?_⟩
   ·obtain⟨j,h1,h2⟩:=hm0.from' x hx;exact⟨j,by omega,h2⟩
   ·by_cases e:j=i
    ·subst e;exact hold
    ·exact hm0.all j (by omega)
   ·exact hR s'' xs'' (Ol W.gtrans ((hm.mono hsub).then_heap (Im _ _) λb o hb e=>e) hm'') S'' M'' λb o hc e=>ht'' b o hc (ht b o hc e)
  ·have hSt:∀b o,o.cls= .type "tuple"->s'.heap.get? b=some o->h'.get? b=some o:=λb o hc e=>by
    have ne:b≠S:=by
     rintro rfl;obtain⟨o2,_,_,_,z,_⟩:=hS';rw [z.ho]at e;cases e;rw [z.hex.1]at hc;exact absurd hc (by decide)
    rw [hsb.2 b ne];exact e
   refine Ad ⟨Ed Br _,ih (i+1) _ xs' (by omega) hlt (W.frame _ s' _ _ hst' (Im _ _) λb hb o e=>?_) (λj hj=>D.mono (hk' j hj) hSt) S3 ⟨λx hx=>?_,λj hj=>?_,by have:=hm0.len;rw [pm.length_eq,Ag];omega⟩ λs'' xs'' hm'' S'' M'' ht''=>?_⟩
   ·rw [hsb.2 b (λh:b=S=>hSf (by rw [<-h];exact hb))];exact e
   ·rcases List.mem_cons.mp (pm.mem_iff.mp hx)with e|m
    ·exact⟨i,by omega,e⟩
    ·obtain⟨j,h1,h2⟩:=hm0.from' x m;exact⟨j,by omega,h2⟩
   ·by_cases e:j=i
    ·subst e;exact⟨_,pm.mem_iff.mpr Af,rfl⟩
    ·obtain⟨x,hx,ex⟩:=hm0.all j (by omega);exact⟨x,pm.mem_iff.mpr (Ae _ hx),ex⟩
   ·refine hR s'' xs'' (Ol W.gtrans ((hm.mono hsub).then_heap (Im _ _) λb o hb e=>?_) hm'') S'' M'' λb o hc e=>ht'' b o hc (hSt b o hc (ht b o hc e));rw [hsb.2 b (λh:b=S=>hb (by rw [h];exact Af))];exact e
end
section
variable {prog:Program} {w:World} {A:Around} {E:Value->Shared->Prop} {s:Shared}
theorem aA1 (a:Value) {Q₁:Value->Shared->Prop}
  (h:Q₁ (.ref s.heap.objs.size) {s with heap:=s.heap.push {cls:= .type "set",dict:=none,data:= .set #[] 0 (.fresh 0 0 (!w.params.followText "set-order"))}}):
  codeAny (model prog w) A (.call (.builtin "set.__new__") ⟨[.type "set",a],[]⟩) (wants Q₁ E) s:=by
 refine Uv ?_;show wpAny _ A.in1 (do checkBuiltinCall "set.__new__" ⟨[.type "set",a],[]⟩;again (.builtin "set.__new__" ⟨[.type "set",a],[]⟩)) _ _ s;refine Aa (Nb (F.newCall_set_1 a) (Ad ⟨Ed Sx _,Da F.entry_set_new ?_⟩));rw [Cc Sx _];unfold Builtin.«set.__new__» Ql;have hsub:=sub_set_self;obtain⟨hp,g,d,tk,os⟩:=s;dsimp only
 wp_walk
 refine Hi (Ad ?_);dsimp only;simp only [newObj];refine Aa (wpAny_alloc (Ad ?_));exact Ad h
end
section
variable {prog:Program} {w:World} {K:Type} [DecidableEq K] {knd:HeapKind prog w K} {A:Around} {E:Value->Shared->Prop} {s:Shared}
theorem kY.fresh (s:Shared) {a:Addr} (l:Bool) (h:s.heap.get? a=some {cls:= .type "set",dict:=none,data:= .set #[] 0 (.fresh 0 0 l)}):kY knd s a l []:=
 ⟨_, #[],0,_,⟨h,⟨rfl,rfl,rfl⟩,rfl,rfl,⟨rfl,λi k h1 h2=>absurd h2 (Dk _),λj hj=>(nomatch hj),Bb _,SetTable.aT2⟩,rfl,λx hx=>(nomatch hx),Mf,λi j x h1 h2=>(nomatch h2)⟩,.inl ⟨rfl,Bb _⟩,rfl,rfl⟩
def aUn (prog:Program) (w:World) (n:Nat) (P:Nat->Value->Prop) (u:Nat) (s:Shared) (S:Addr) (led:Bool) (Z:Shared->Prop):Prop:=
 ∀{A:Around} {R:Result->Shared->Prop} {I:Addr} {fp wr:List Addr} {G:Array GenState->Array GenState->Prop} {St:Nat->Shared->Prop} (s1:Shared),WalksS prog w A.in1 I fp wr G n P St->S∉fp->A.in1.units<=u+8->
  (∀i s,St i s->∀b∈wr,∀o,s.heap.get? b=some o->o.cls≠ .type "tuple")->St 0 s1->(∀b o,s.heap.get? b=some o->s1.heap.get? b=some o)->s1.heap.get? S=some {cls:= .type "set",dict:=none,data:= .set #[] 0 (.fresh 0 0 led)}->
  (∀s',Moved (S::wr) G s1 s'->Z s'->R (.ok (.ret .none)) s')->codeAny (model prog w) A (.builtin "set.update.loop" ⟨[.ref S,.ref I],[]⟩) R s1
theorem uT {l:Addr} {items:Array Value} {Q:Value->Shared->Prop} (Z:Shared->Prop) (hh:A.handled=none) (hl:s.heap.IsList l items)
  (L:aUn prog w items.size (λi v=>items[i]? =some v) A.units s s.heap.objs.size (!w.params.followText "set-order") Z)
  (h:∀(h':Heap) (tk:Nat),Z {s with heap:=h',toks:=tk}->(∀b o,b<s.heap.objs.size->s.heap.get? b=some o->h'.get? b=some o)->Q (.ref s.heap.objs.size) {s with heap:=h',toks:=tk}):
  wpAny (model prog w) A (call (.type "set") [.ref l]) Q E s:=by
 obtain⟨c,tl,hmro⟩:=F.called_set.mro;have hmade:=F.called_set.made;have hsub:=F.called_set.sub;refine Os (Uv ?_);show wpAny _ _ (callAny (.type "set") _) _ _ _;refine Ad ⟨Code.quiet_builtin _ (by decide+kernel),Da F.entry_type_call ?_⟩;rw [Around.under_plain (weight_type_call_type "set" [.ref l] []) rfl];have h1:=F.called_set.notType;have h2:=F.called_set.canCreate;have hct:=F.typeCall_set_1 (.ref l)
 repeat (any_goals (first|assumption|wp_step))
 generalize hled:(!w.params.followText "set-order")=led at L;refine Hb (aA1 (.ref l) (E:=E) (Q₁:=λobj s₁=>obj= .ref s.heap.objs.size/\s₁={s with heap:=s.heap.push {cls:= .type "set",dict:=none,data:= .set #[] 0 (.fresh 0 0 led)}}) ⟨rfl,by rw [hled]⟩) λr s₁ hr=>?_;cases r with
 |error e=>exact hr
 |ok fl=>
  cases fl with
  |ret obj=>
   obtain⟨rfl,rfl⟩:=hr;have hS:(s.heap.push {cls:= .type "set",dict:=none,data:= .set #[] 0 (.fresh 0 0 led)}).get? s.heap.objs.size=some {cls:= .type "set",dict:=none,data:= .set #[] 0 (.fresh 0 0 led)}:=Ar _ rfl;have hT:Ma {s with heap:=s.heap.push {cls:= .type "set",dict:=none,data:= .set #[] 0 (.fresh 0 0 led)}} (.ref s.heap.objs.size) "set":=⟨_,hS,rfl⟩;have hli:=F.called_set.init.lookup;have hbi:=F.called_set.init.bind (.ref s.heap.objs.size)
   repeat (any_goals (first|assumption|wp_step))
   refine Hb (Qo (R:=wants (λr s₂=>r= .none/\∃h' tk,s₂={s with heap:=h',toks:=tk}/\Z {s with heap:=h',toks:=tk}/\
     (∀b o,b<s.heap.objs.size->s.heap.get? b=some o->h'.get? b=some o)) E) F.called_set.init.plain F.entry_set_init (check_set_init_1 hT ?_)) λr₂ s₂ hr₂=>?_
   ·obtain⟨ol,hol,hcl,nl,hdl⟩:=hl;obtain⟨ocls,odict,odata,oslots⟩:=ol;simp only at hcl hdl;subst hcl;subst hdl;have hol':(s.heap.push {cls:= .type "set",dict:=none,data:= .set #[] 0 (.fresh 0 0 led)}).get? l=some {cls:= .type "list",dict:=odict,data:= .seq items nl,slots:=oslots}:=Ai _ hol;have hsls:=F.sub_list_set;have hslf:=F.sub_list_frozenset;have hne:(Ht "list"==Ht "dict")=false:=by decide
    have hl1:(s.heap.push {cls:= .type "set",dict:=none,data:= .set #[] 0 (.fresh 0 0 led)}).IsList l items:=⟨_,hol',rfl,nl,rfl⟩;unfold Builtin.«set.__init__» noKeywords Qi;generalize hPI:pyIter=PI
    wp_walk
    subst hPI;refine Io hl1 ?_;refine Aa (Nv ?_);have hlS:l<s.heap.objs.size:=Ao hol;have hh3:A.in1.in1.in1.handled=none:=by simp [hh]
    have hneI:l≠(s.heap.push {cls:= .type "set",dict:=none,data:= .set #[] 0 (.fresh 0 0 led)}).objs.size:=by
     rw [Dj];exact Ax (Eb hlS)
    have hSf:s.heap.objs.size∉[(s.heap.push {cls:= .type "set",dict:=none,data:= .set #[] 0 (.fresh 0 0 led)}).objs.size,l]:=by
     rw [Dj];simp only [Bi,Gc,Be,or_false,not_or];exact⟨Ax (Dx _),Ho hlS⟩
    have keep2:∀b o,s.heap.get? b=some o->((s.heap.push {cls:= .type "set",dict:=none,data:= .set #[] 0 (.fresh 0 0 led)}).push {cls:= .type "list_iterator",data:= .fields #[.ref l,.int 0 0]}).get? b=some o:=λb o e=>Ai _ (Ai _ e);refine L _ ((Lz hh3 _ l hneI items).toS) hSf (by simp [Around.in1]) ?hnt ⟨⟨_,Ar _ rfl,rfl,rfl⟩,(hl1.push _)⟩ keep2 (Ai _ hS) ?hR
    case hnt=>
     rintro i s2 ⟨⟨o2,g1,g2,_⟩,_⟩ b hb o e hc;have hb:=List.mem_singleton.mp hb;subst hb;rw [g1]at e;cases e;rw [g2]at hc;exact absurd hc (by decide)
    case hR=>
     intro s' hm hS';obtain⟨h',g',d',tk',os'⟩:=s';have eg:g'=s.gens:=hm.gens;have ed:d'=s.drawn:=hm.drawn;have eo:os'=s.os:=hm.os;subst eg;subst ed;subst eo;show wpAny _ _ _ _ _ _;refine Ad ?_;show wpAny _ _ (ret Cg) _ _ _;refine Ad ⟨rfl,h',tk',rfl,hS',λb o hb e=>?_⟩;have hb1:b≠s.heap.objs.size:=Ax hb;have hb2:b≠(s.heap.push {cls:= .type "set",dict:=none,data:= .set #[] 0 (.fresh 0 0 led)}).objs.size:=by
      rw [Dj];exact Ax (Eb hb)
     exact hm.heap b o (by simp only [Bi,Gc,Be,or_false,not_or];exact⟨hb1,hb2⟩) (keep2 b o e)
   ·cases r₂ with
    |error e=>exact hr₂
    |ok fl₂=>
     cases fl₂ with
     |ret r=>
      obtain⟨rfl,h',tk,rfl,hS',hk'⟩:=hr₂
      repeat (any_goals (first|assumption|wp_step))
      exact h _ _ hS' hk'
     |_=>exact hr₂.elim
  |_=>exact hr.elim
theorem aAl {l:Addr} {items:Array Value} {val:Nat->K} {adr:Nat->Addr} {Q:Value->Shared->Prop} (D:sV knd) (hu:∀A':Around,A'.units<=A.units+8->knd.room A')
  (hh:A.handled=none) (hl:s.heap.IsList l items) (hi:∀(i:Nat) (v:Value),items[i]? =some v->v=Au (adr i)) (hk:∀j,j<items.size->knd.is s.heap (val j) (adr j)) (hb:∀i xs,i<items.size->Met val adr i xs->(xs.map (·.1)).Nodup->xs.length<18)
  (h:∀(h':Heap) (tk:Nat) (xs:List (K×Addr)),kY knd {s with heap:=h',toks:=tk} s.heap.objs.size (!w.params.followText "set-order") xs->Met val adr items.size xs->
   (∀b o,b<s.heap.objs.size->s.heap.get? b=some o->h'.get? b=some o)->Q (.ref s.heap.objs.size) {s with heap:=h',toks:=tk}):
  wpAny (model prog w) A (call (.type "set") [.ref l]) Q E s:=
 uT (λs'=>∃xs,kY knd s' s.heap.objs.size (!w.params.followText "set-order") xs/\Met val adr items.size xs) hh hl
  (λs1 W hSf hA hnt st kp hS hR=>nF D W s.heap.objs.size hSf (hu _ hA) _ val adr hi hb hnt (items.size-0) 0 s1 [] (by omega) (Bb _) st (λj hj=>D.mono (hk j hj) λb o _ e=>kp b o e) (kY.fresh _ _ hS) ⟨λx hx=>(nomatch hx),λj hj=>absurd hj (Dk _),Bb _⟩ λs' xs' hm S M _=>hR s' hm ⟨xs',S,M⟩)
  λh' tk ⟨xs,S,M⟩ kp=>h h' tk xs S M kp
end
end PySem
namespace PySem
open Sem (wp)
open PyProof.Rows PySem.W
section
variable {prog:Program} {w:World} {A:Around} {E:Value->Shared->Prop} {s:Shared}
end
structure aFa {prog:Program} {w:World} {α:Type} [DecidableEq α] (knd:HeapKind prog w α) (ok:α->Prop) (lt:α->α->Bool):Prop where
 set:sV knd
 tot:∀x y,x≠y->lt x y=true∨lt y x=true
 asym:∀x y,lt x y=true->lt y x=false
 trans:∀x y z,lt x y=true->lt y z=true->lt x z=true
 first:∀{h:Heap} {k:α} {a:Addr},ok k->knd.is h k a->∃o items n i tk,h.get? a=some o/\o.cls= .type "tuple"/\o.data= .seq items n/\items[0]? =some (Dc i tk)
 cmp:∀{A:Around} {E:Value->Shared->Prop} {b:Bool} {s:Shared} {x y:α} {p q:Addr} {Q:Bool->Shared->Prop},A.units+10<cLine->knd.is s.heap x p->knd.is s.heap y q->Q (lt x y) s->wpAny (model prog w) A (keyLt' (tuples' b) (.ref p) (.ref q)) Q E s
section
variable {prog:Program} {w:World} {A:Around} {E:Value->Shared->Prop} {s:Shared} {α:Type} [DecidableEq α] [Inhabited α] {knd:HeapKind prog w α} {ok:α->Prop} {lt:α->α->Bool}
def aAg (knd:HeapKind prog w α) (ok:α->Prop) (h:Heap) (xs:List (α×Addr)):Prop:=∀x∈xs,ok x.1/\knd.is h x.1 x.2
theorem aAg.mono (O:aFa knd ok lt) {h h':Heap} {xs:List (α×Addr)} (T:aAg knd ok h xs) (hs:∀b o,o.cls= .type "tuple"->h.get? b=some o->h'.get? b=some o):aAg knd ok h' xs:=λx hx=>⟨(T x hx).1,O.set.mono (T x hx).2 hs⟩
theorem aAg.kat (O:aFa knd ok lt) {h:Heap}:∀{xs:List (α×Addr)},aAg knd ok h xs->∃fs:List Value,fs.length=xs.length/\(∀v∈fs,∃i tk,v=Dc i tk)/\KatTups h (xs.map λx=>Au x.2) fs
 | [],_=>⟨[],rfl,λv hv=>(nomatch hv),KatTups.nil⟩
 |x::xs,T=>by
  obtain⟨fs,f1,f2,f3⟩:=aAg.kat O (xs:=xs) λy hy=>T y (Ae _ hy);obtain⟨o,items,n,i,tk,ho,hc,hd,hf⟩:=O.first (T x Af).1 (T x Af).2;refine⟨.int i tk::fs,by rw [Ag,Ag,f1],λv hv=>?_,KatTups.cons ho hc hd hf f3⟩;rcases List.mem_cons.mp hv with rfl|hv
  ·exact⟨_,_,rfl⟩
  ·exact f2 v hv
theorem aCe {α:Type} {xs:List α} {p:List Nat} (hp:p.Perm (Bp xs.length)):(p.filterMap λi:Nat=>xs[i]?).Perm xs:=by
 have:=hp.filterMap λi:Nat=>xs[i]?;rw [pP]at this;exact this
theorem qZ (O:aFa knd ok lt) (hu:A.units+20<cLine) {a:Addr} {xs:List (α×Addr)} {n:Nat} {P:Fin->Shared->Prop} (ho:s.heap.get? a=some (seqObj "list" (xs.map λx=>Au x.2).toArray n))
  (T:aAg knd ok s.heap xs) (nd:(xs.map (·.1)).Nodup) (h64:xs.length<64)
  (h:∀ys:List (α×Addr),ys.Perm xs->ys.Pairwise (λx y=>lt x.1 y.1=true)->P (.done (.ret .none)) {s with heap:=sortedHeap s.heap a (xs.map λx=>Au x.2) (ys.map λx=>Au x.2).toArray}):
  wpAny (model prog w) A (Builtin.«list.sort» ⟨[.ref a],[]⟩) P E s:=by
 rw [list_sort_plain];have ha:a<s.heap.objs.size:=Ao ho;generalize hvs:(xs.map λx=>Au x.2)=vs at ho h;have vl:vs.length=xs.length:=by rw [<-hvs,Ab]
 refine Aa (listItems_at ho rfl ?_);refine Aa (Pb ho rfl ?_ (by rw [Ak,Cr];omega) (Bb _));obtain⟨e1,ho1⟩:∃e1,(s.heap.update a (Dw λ_=> #[])).get? a=some (seqObj "list" #[] e1):=⟨_,get?_update_seq ho (λ_=> #[])⟩;refine Aa (Qt ho1 rfl ?_);refine Aa (wpAny_newTuple ?_ (by show vs.length<=_;rw [Cr];omega));refine Aa (Ku ?_ (Bb _));refine Ca ?_;have kp:∀b o,b≠a->s.heap.get? b=some o->(((s.heap.update a (Dw λ_=> #[])).push (seqObj "tuple" vs.toArray 0)).push (seqObj "list" #[] 0)).get? b=some o:=λb o hb e=>
  Ai _ (Ai _ ((Cy _ _ (Di hb)).trans e))
 have ho6:(((s.heap.update a (Dw λ_=> #[])).push (seqObj "tuple" vs.toArray 0)).push (seqObj "list" #[] 0)).get? a=some (seqObj "list" #[] e1):=Ai _ (Ai _ ho1);show wpAny (model prog w) A _ P E {s with heap:=((s.heap.update a (Dw λ_=> #[])).push (seqObj "tuple" vs.toArray 0)).push (seqObj "list" #[] 0)};dsimp only;generalize hH:((s.heap.update a (Dw λ_=> #[])).push (seqObj "tuple" vs.toArray 0)).push (seqObj "list" #[] 0)=H at ho6 kp;have T6:aAg knd ok H xs:=T.mono O λb o hc e=>kp b o (λz=>by subst z;rw [ho]at e;cases e;exact absurd (show Ht "list"=Ht "tuple" from hc) (by decide)) e;have fin:∀out:Array Value,sortedHeap s.heap a vs out=H.update a (Dw λ_=>out):=λout=>by rw [<-hH];rfl
 by_cases h2:vs.toArray.size<2
 ·rw [if_pos h2,if_pos h2];refine Aa (Ad ?_);rw [StateT.run_pure];refine Aa (Ad ?_);dsimp only;refine Aa (Qt ho6 rfl ?_);have ev:(pairsOf vs).map (·.2)=vs.toArray:=by
   apply Array.toList_inj.mp;rw [Array.toList_map,pairsOf_toList];exact List.map_snd_zip (Am _)
  have hz:((pairsOf vs).map (·.2)).size<=sizeLine+1:=by rw [ev,Ak,Cr];omega
  refine Aa (Pb ho6 rfl ?_ (Bb _) hz);simp only [bne_self_eq_false,An,if_false];refine Ad ?_;have q:=h xs (Gf _) (by
   rw [Ak,vl]at h2;match xs,h2 with
   | [],_=>exact .nil
   | [x],_=>exact Mw _ _)
  rw [fin,hvs]at q;have q':P (.done (.ret .none)) {s with heap:=H.update a (Dw λ_=>(pairsOf vs).map (·.2))}:=by rw [ev];exact q
  exact q'
 ·rw [if_neg h2,if_neg h2];rw [Ak]at h2;obtain⟨fs,f1,f2,f3⟩:=aAg.kat O T6;rw [hvs]at f3;refine Aa (kat_kind (T:=Ht "int") f3 (by omega) (λv hv=>?_) rfl ?_)
  ·obtain⟨i,tk,rfl⟩:=f2 v hv;exact Looks.of_pure rfl
  ·have keyd:∀i,i<xs.length->xs[i]? =some (xs.getD i (default,0))/\vs.getD i Cg= .ref (xs.getD i (default,0)).2:=λi hi=>by
    rw [<-hvs];simp [Hh,hi]
   have S:pG xs.length λi j=>lt (xs.getD i (default,0)).1 (xs.getD j (default,0)).1:=by
    refine⟨λi j hi hj ne=>O.tot _ _ λz=>ne ?_,λi j=>O.asym _ _,λi j k=>O.trans _ _ _⟩;have li:i<(xs.map (·.1)).length:=by rw [Ab];exact hi
    have lj:j<(xs.map (·.1)).length:=by rw [Ab];exact hj
    refine(Kq (h₀:=li) (h₁:=lj) nd).mp ?_;simpa [Hh,hi,hj]using z
   have wy:=aMd S (by omega);rw [<-vl]at wy;refine Aa (Cq (kat_run (ks:=vs) (vs:=vs) (Q:=λst' s'=>s'={s with heap:=H}/\∃p:Array Nat,p.size=vs.length/\arrOf st'=p.map (kas_item (vs.toArray.zip vs.toArray))/\failedOf st'=none/\mC vs.length p/\oH (λi j=>lt (xs.getD i (default,0)).1 (xs.getD j (default,0)).1) p vs.length)
    (G:=λp s'=>s'={s with heap:=H}/\mC vs.length p/\oH (λi j=>lt (xs.getD i (default,0)).1 (xs.getD j (default,0)).1) p vs.length) rfl (by omega) (by omega) (λp st' s' a1 a2 a3 a4=>⟨a4.1,p,a1,a2,a3,a4.2⟩)
    (KasT.way_wp (λi j C hi hj hC=>?_) (λp hp=>⟨rfl,hp⟩) _ wy)) ?_ λ_ _ e=>e)
   ·have hi:i<vs.length:=hi;have hj:j<vs.length:=hj;rw [vl]at hi hj;show wpAny _ _ (keyLt' _ (vs.getD i Cg) (vs.getD j Cg)) _ _ _;obtain⟨a1,a2⟩:=keyd i hi;obtain⟨b1,b2⟩:=keyd j hj;rw [a2,b2];exact O.cmp (by omega) (T6 _ (Bt a1)).2 (T6 _ (Bt b1)).2 hC
   ·rintro⟨⟨⟩,st'⟩ s' ⟨rfl,p,hp,har,hf,hT,hR⟩;dsimp only;have hout:=kat_snds rfl har;have pm:p.toList.Perm (Bp xs.length):=by rw [<-vl];exact hT
    have ey:(p.toList.map λi=>vs.getD i Cg)=(p.toList.filterMap λi:Nat=>xs[i]?).map λx=>Au x.2:=by
     rw [Pf];have:∀l:List Nat,(∀i∈l,i<xs.length)->(l.map λi=>vs.getD i Cg)=l.filterMap λi:Nat=>(xs[i]?).map λx=>Au x.2:=by
      intro l;induction l with
      |nil=>intro _;rfl
      |cons i l ih=>
       intro hl;obtain⟨a1,a2⟩:=keyd i (hl i Af);rw [Aw,Ft,a1,ih λj hj=>hl j (Ae _ hj),a2];rfl
     exact this _ λi hi=>List.mem_range.mp (pm.mem_iff.mp hi)
    have hsz:(Sr (p.toList.map λi=>vs.getD i Cg)).size<=sizeLine+1:=by rw [Ak,Ab,Ap,hp,Cr];omega
    refine Aa (Qt ho6 rfl ?_);rw [hout];refine Aa (Pb ho6 rfl ?_ (Bb _) hsz);rw [hf];simp only [bne_self_eq_false,An,if_false];refine Ad ?_;have q:=h (p.toList.filterMap λi:Nat=>xs[i]?) (aCe pm) (by
     rw [Me];intro i j hi hj hij;have pl:p.toList.length=xs.length:=by rw [pm.length_eq,Dd]
     have fl:=(aCe pm).length_eq;have gt:∀r,(hr:r<(p.toList.filterMap λi:Nat=>xs[i]?).length)->(p.toList.filterMap λi:Nat=>xs[i]?)[r]=xs.getD (vAt p r) (default,0):=λr hr=>by
      have hr':r<p.toList.length:=by omega
      have e1:=filterMap_get (f:=λi:Nat=>xs[i]?) (l:=p.toList) (λi hi=>⟨_,Al (List.mem_range.mp (pm.mem_iff.mp hi))⟩) r;rw [Al hr,Al hr']at e1;have e2:vAt p r=p.toList[r]:=by rw [jO, <-Bk,Al hr'];rfl
      rw [e2];have lt:p.toList[r]<xs.length:=List.mem_range.mp (pm.mem_iff.mp (Cp hr'));have e3:(some p.toList[r]).bind (λi:Nat=>xs[i]?)=some (xs.getD p.toList[r] (default,0)):=(keyd _ lt).1;rw [e3]at e1;exact Bm e1
     rw [gt i hi,gt j hj];exact hR i j hij (by omega))
    rw [fin, <-ey]at q;exact q
theorem aGo (O:aFa knd ok lt) (hu:A.units+30<cLine) {S:Addr} {xs:List (α×Addr)} {Q:Value->Shared->Prop} (hh:A.handled=none) (I:kY knd s S (!w.params.followText "set-order") xs) (ne:∀x∈xs,ok x.1) (h64:xs.length<64)
  (h:∀(h':Heap) (tk:Nat) (l:Addr) (e:Nat) (ys:List (α×Addr)),ys.Perm xs->ys.Pairwise (λx y=>lt x.1 y.1=true)->s.heap.objs.size<=l->h'.get? l=some (seqObj "list" (ys.map λx=>Au x.2).toArray e)->
   (∀b o,s.heap.get? b=some o->h'.get? b=some o)->Q (.ref l) {s with heap:=h',toks:=tk}):
  wpAny (model prog w) A (call (.builtin "sorted") [.ref S]) Q E s:=by
 obtain⟨o,es,ep,t,I,sm,pl,ld⟩:=I;refine Hn Qu Pz Qa (Qd _) ?_;unfold Builtin.«sorted»;refine Aa (m:=checkCount "sorted" 1 1 _) (Ad ?_);have esz:es.size<64:=by rw [I.len];exact h64
 refine Aa (mD (by simpa using hh) I.ho I.hex I.hd I.fits I.good.rise pl ld (by rw [Cr];omega) λh1 tk1 s1 k1=>?_);have op:=jX w S es ep;have eo:es.toList.map (·.2)=xs.map λx=>Au x.2:=by rw [I.he,Bl];rfl
 rw [eo]at op;obtain⟨zs,pz,ez⟩:∃zs:List (α×Addr),zs.Perm xs/\gH w S es ep=zs.map λx=>Au x.2:=by
  have:∀{l:List Value} {xs:List (α×Addr)},l.Perm (xs.map λx=>Au x.2)->∃zs:List (α×Addr),zs.Perm xs/\l=zs.map λx=>Au x.2:=λ{l xs} hp=>by
   generalize hm:(xs.map λx=>Au x.2)=m at hp;induction hp generalizing xs with
   |nil=>exact⟨xs,Gf _,hm.symm⟩
   |cons a p ih=>
    match xs,hm with
    |x::xs,hm=>
     obtain⟨e1,e2⟩:=Bs hm;obtain⟨zs,z1,z2⟩:=ih e2;exact⟨x::zs,z1.cons x,by rw [z2, <-e1];rfl⟩
   |swap a b l=>
    match xs,hm with
    |x::y::xs,hm=>
     obtain⟨e1,e2⟩:=Bs hm;obtain⟨e2,e3⟩:=Bs e2;exact⟨y::x::xs,Kh _ _ _,by rw [<-e1, <-e2, <-e3];rfl⟩
   |trans p1 p2 ih1 ih2=>
    obtain⟨zs,z1,z2⟩:=ih2 hm;obtain⟨us,u1,u2⟩:=ih1 z2.symm;exact⟨us,u1.trans z1,u2⟩
  exact this op
 rw [ez];have zl:zs.length=xs.length:=pz.length_eq;refine Aa (Ku ?_ (by rw [Ab,Cr];omega));have hoL:(h1.push (seqObj "list" (zs.map λx=>Au x.2).toArray 0)).get? h1.objs.size=some (seqObj "list" (zs.map λx=>Au x.2).toArray 0):=Ar _ rfl;have T1:aAg knd ok (h1.push (seqObj "list" (zs.map λx=>Au x.2).toArray 0)) zs:=λx hx=>⟨ne x (pz.mem_iff.mp hx),O.set.mono (I.keys x (pz.mem_iff.mp hx)) λb o _ e=>Ai _ (k1 b o e)⟩;refine Aa (Ca (De slot_list_sort ⟨_,hoL,rfl⟩ entry_list_sort (qZ O (by first|omega|(show A.units+1+20<cLine;omega)|(show A.units+2+20<cLine;omega)|(show A.units+3+20<cLine;omega)) hoL T1 (by rw [(pz.map (·.1)).nodup_iff];exact I.nd) (by omega) λys py hy=>⟨_,rfl,?_⟩) (Ob _)));refine Ad ⟨_,rfl,?_⟩;obtain⟨e,he⟩:=Ox (out:=(ys.map λx=>Au x.2).toArray) hoL;refine h _ tk1 _ e ys (py.trans pz) hy (Es s1) he λb o q=>?_;have hb:b<h1.objs.size:=Ao (k1 b o q);rw [Ny (Ax hb) (by rw [Dj];exact Eb hb)];exact Ai _ (k1 b o q)
end
section
variable {prog:Program} {w:World}
def lQ (x y:Int×List Int):Bool:=if x.1=y.1 then jR x.2 y.2 else decide (x.1<y.1)
theorem aHq (hv:∀k v,(intKind prog w).is k v=true->∃i tk,v=Dc i tk):aFa (gO (intKind prog w)) (λ_=>True) lQ where
 set:=aNb hv
 tot:=λx y ne=>by
  unfold lQ;by_cases e:x.1=y.1
  ·rw [if_pos e,if_pos e.symm];exact aFj _ _ λz=>ne (Pd e z)
  ·rw [if_neg e,if_neg (Di e),decide_eq_true_iff,decide_eq_true_iff];omega
 asym:=λx y h=>by
  unfold lQ at h⊢;by_cases e:x.1=y.1
  ·rw [if_pos e]at h;rw [if_pos e.symm];exact aBp _ _ h
  ·rw [if_neg e,decide_eq_true_iff]at h;rw [if_neg (Di e),decide_eq_false_iff_not];omega
 trans:=λx y z h1 h2=>by
  unfold lQ at h1 h2⊢;by_cases e1:x.1=y.1
  ·rw [if_pos e1]at h1;by_cases e2:y.1=z.1
   ·rw [if_pos e2]at h2;rw [if_pos (e1.trans e2)];exact sX _ _ _ h1 h2
   ·rw [if_neg e2,decide_eq_true_iff]at h2;rw [if_neg (by omega),decide_eq_true_iff];omega
  ·rw [if_neg e1,decide_eq_true_iff]at h1;by_cases e2:y.1=z.1
   ·rw [if_neg (by omega),decide_eq_true_iff];omega
   ·rw [if_neg e2,decide_eq_true_iff]at h2;rw [if_neg (by omega),decide_eq_true_iff];omega
 first:=λ_ hk=>by
  obtain⟨o,v,b,n,ho,hc,hd,h1,_⟩:=hk;obtain⟨tk,rfl⟩:=Do h1;exact⟨o,_,n,_,tk,ho,hc,hd,rfl⟩
 cmp:=λ{A E b s x y p q Q} hu hx hy h=>by
  obtain⟨ox,v,px,nx,h1,h2,h3,h4,h5⟩:=hx;obtain⟨oy,v',py,ny,g1,g2,g3,g4,g5⟩:=hy;obtain⟨tu,rfl⟩:=Do h4;obtain⟨tv,rfl⟩:=Do g4;refine kat_lt h1 h3 g1 g3 ?_;show KatLex prog w A b _ Q [(_,_),(_,_)] 0 s;refine kat_cons (Mi ?_);unfold lQ at h;by_cases e:x.1=y.1
  ·rw [if_pos e]at h;rw [beq_iff_eq.mpr e];refine kat_yes (kat_cons ((tupleKind (intKind prog w)).eqBool (show A.units<cLine by omega) h5 g5 ?_));by_cases e2:x.2=y.2
   ·rw [decide_eq_true e2];refine kat_yes (kat_nil ?_);rw [e2,uC]at h;exact h
   ·rw [decide_eq_false e2];refine kat_no ?_;rw [show(b && (0+1==0))=false by cases b<;>rfl];exact kat_one _ _ (LtN.tups (n:=A.units) h5 g5 (by omega) A (Am _) prog w _ _ h)
  ·rw [if_neg e]at h;rw [beq_eq_false_iff_ne.mpr e];refine kat_no ?_;rw [show(b && (0==0))=b by cases b<;>rfl];cases b with
   |true=>exact oneLt_int h
   |false=>exact kat_one _ _ (La (Q:=PySem.W.BoolBack Q) h)
end
end PySem
namespace PySem
open Sem (wp)
def vV (l:Bool) (zs:List Nat):SetTable:={mask:=7,place:=zs.toArray,dummies:= #[],finger:=0,led:=l,moves:=0,plain:=true}
def gA (zs:List Nat) (tk:Nat->Tok):Array (Int×Value):=(zs.map λz:Nat=>((z:Int),Dc (z:Int) (tk z))).toArray
def fC:List (List Nat):=[[],[1],[2],[3],[1,2],[1,3],[2,3],[1,2,3]]
def pL (x:Nat) (zs:List Nat):List Nat:=[1,2,3].filter λz=>decide (z=x∨z∈zs)
theorem uU (x:Nat) (zs:List Nat):pL x zs∈fC:=by
 unfold pL;by_cases h1:1=x∨1∈zs<;>by_cases h2:2=x∨2∈zs<;>by_cases h3:3=x∨3∈zs<;>simp [List.filter,h1,h2,h3,fC]
theorem aOr {x z:Nat} {zs:List Nat} (hz:zs∈fC) (hx:x∈[1,2,3]):z∈pL x zs↔z=x∨z∈zs:=by
 unfold pL;rw [List.mem_filter,decide_eq_true_iff];refine⟨λh=>h.2,λh=>⟨?_,h⟩⟩;rcases h with rfl|h
 ·exact hx
 ·simp only [fC,Bi,Be,or_false]at hz;rcases hz with rfl|rfl|rfl|rfl|rfl|rfl|rfl|rfl<;>simp at h⊢ <;>omega
theorem aY2 {l:Bool} {zs:List Nat} {x:Nat} {tk:Nat->Tok} {t:Tok} (hz:zs∈fC) (hx:x∈[1,2,3]) (hn:x∉zs):
  layNew (vV l zs) (gA zs tk) (x:Int) (.int x t)=(gA (pL x zs) (λz=>if z=x then t else tk z),vV l (pL x zs),false,false):=by
 simp only [fC,Bi,Be,or_false]at hz hx;rcases hz with rfl|rfl|rfl|rfl|rfl|rfl|rfl|rfl<;>rcases hx with rfl|rfl|rfl<;>first|(exact absurd (by decide) hn)|(cases l<;>kernel_rfl)
section
variable {prog:Program} {w:World} {A:Around} {E:Value->Shared->Prop} {s:Shared}
def aF7 (s:Shared) (a:Addr) (l:Bool) (zs:List Nat):Prop:=∃o ep tk,s.heap.get? a=some o/\o.ExactSet/\o.data= .set (gA zs tk) ep (vV l zs)/\zs∈fC
theorem aM2 (zs:List Nat) (tk:Nat->Tok):(gA zs tk).size=zs.length:=by simp [gA]
theorem aUu:∀zs∈fC,zs.length<=3:=by decide
theorem aNy {l:Bool} {zs:List Nat} {tk:Nat->Tok} (hz:zs∈fC):(vV l zs).fits (gA zs tk).size=true:=by
 simp only [fC,Bi,Be,or_false]at hz;rcases hz with rfl|rfl|rfl|rfl|rfl|rfl|rfl|rfl<;>rfl
theorem aMw {x:Nat} (hx:x∈[1,2,3]):(intKind prog w).hash (x:Int)=(x:Int):=by
 simp only [Bi,Be,or_false]at hx;rcases hx with rfl|rfl|rfl<;>rfl
theorem aTu {zs:List Nat} {tk:Nat->Tok} (hz:zs∈fC):ElemsOf (intKind prog w) (gA zs tk).toList:=by
 intro e he;obtain⟨z,hm,rfl⟩:=List.mem_map.mp (show e∈zs.map _ from he);have:z∈[1,2,3]:=by
  simp only [fC,Bi,Be,or_false]at hz;rcases hz with rfl|rfl|rfl|rfl|rfl|rfl|rfl|rfl<;>simp at hm⊢ <;>omega
 exact⟨⟨(z:Int),Ll _ _ _ _,(aMw this).symm⟩,rfl⟩
theorem aA3 {a:Addr} {l:Bool} {zs:List Nat} {x:Nat} {t:Tok} {Q:Bool->Shared->Prop} (hx:x∈[1,2,3]) (S:aF7 s a l zs) (h:∀(b:Bool) h',Cw a s.heap h'->aF7 {s with heap:=h'} a l (pL x zs)->Q b {s with heap:=h'}):
  wpAny (model prog w) A (setAddHashed a (.int x t) (x:Int)) Q E s:=by
 obtain⟨o,ep,tk,ho,hex,hd,hz⟩:=S;have hel:=aTu (prog:=prog) (w:=w) (tk:=tk) hz;have hsz:(gA zs tk).size<=3:=by rw [aM2];exact aUu zs hz
 unfold setAddHashed setAddHashedIn;refine Ca (Aa (Dv ho hd (aNy hz) ?_));dsimp only;rw [byScan_of (knd:=intKind prog w) rfl (by unfold scanBound;omega) hel];simp only [↓reduceIte];unfold setAddByScan;refine Aa ?_;refine Aa (Ju ?_);have hkey:(intKind prog w).is (x:Int) (.int x t)=true:=Ll _ _ _ _;have e1:wpAny (model prog w) A (setScan a (.int x t) (x:Int) true (gA zs tk)) (λr s'=>s'=s/\r=(match (gA zs tk).toList.findIdx? (λe=>(intKind prog w).is (x:Int) e.2)with|some j=> .found (0+j)|none=> .absent)) E s:=by
  have:=wpAny_setScan_of (knd:=intKind prog w) (adding:=true) (A:=A) (E:=E) (Q:=λr s'=>s'=s/\r=(match (gA zs tk).toList.findIdx? (λe=>(intKind prog w).is (x:Int) e.2)with|some j=> .found (0+j)|none=> .absent)) hkey ho hd (aNy hz) hel ⟨rfl,rfl⟩;rw [aMw hx]at this;exact this
 refine Aa (Cq e1 (λr s' hr=>?_) λ_ _ z=>z);obtain⟨rfl,rfl⟩:=hr;have mem:(∃e∈(gA zs tk).toList,(intKind prog w).is (x:Int) e.2=true)↔x∈zs:=by
  constructor
  ·rintro⟨e,he,hk⟩;obtain⟨z,hm,rfl⟩:=List.mem_map.mp (show e∈zs.map _ from he);have:(x:Int)=(z:Int):=(intKind prog w).inj _ _ _ hk (Ll _ _ _ _);have:x=z:=by omega
   rw [this];exact hm
  ·intro hm;exact⟨_,List.mem_map.mpr ⟨x,hm,rfl⟩,Ll _ _ _ _⟩
 cases hr:List.findIdx? (λe=>(intKind prog w).is (x:Int) e.2) (gA zs tk).toList with
 |some j=>
  dsimp only;obtain⟨hj,hpj,_⟩:=List.findIdx?_eq_some_iff_getElem.mp hr;have hin:=mem.mp ⟨_,Cp hj,hpj⟩;refine Ad (Ad ?_);have same:pL x zs=zs:=by
   simp only [fC,Bi,Be,or_false]at hz hx;rcases hz with rfl|rfl|rfl|rfl|rfl|rfl|rfl|rfl<;>rcases hx with rfl|rfl|rfl<;>first|(exact absurd hin (by decide))|rfl
  have:=h false s'.heap (Um a s'.heap) (by rw [same];exact⟨o,ep,tk,ho,hex,hd,hz⟩);exact this
 |none=>
  dsimp only;have hn:x∉zs:=λhm=>by
   obtain⟨e,he,hp⟩:=mem.mpr hm;have:=List.findIdx?_eq_none_iff.mp hr e he;rw [hp]at this;exact Bool.noConfusion this
  rw [aY2 hz hx hn];dsimp only;refine Aa (Ad ?_);rw [if_pos (show(vV l (pL x zs)).plain=true from rfl)];refine Aa ?_;rw [hashByValue_scannable 8 (show(Dc x t).scannable=true from rfl)];refine Ad ?_;rw [if_pos (show plainKind (Dc x t)=true from rfl)];have hsz2:(gA (pL x zs) (λz=>if z=x then t else tk z)).size<=3:=by rw [aM2];exact aUu _ (uU x zs)
  refine Aa (Lh ho hd ?_ (by rw [Cr];omega));have nf:(!false && (vV l (pL x zs)).tooFull)=false:=by
   have:=uU x zs;generalize pL x zs=ys at this;simp only [fC,Bi,Be,or_false]at this;rcases this with rfl|rfl|rfl|rfl|rfl|rfl|rfl|rfl<;>rfl
  rw [nf];simp only [An,if_false];refine Ad (Ad ?_);have hg:(s'.heap.update a (Fx (gA (pL x zs) (λz=>if z=x then t else tk z)) (vV l (pL x zs)))).get? a=some {o with data:= .set (gA (pL x zs) (λz=>if z=x then t else tk z)) (ep+1) (vV l (pL x zs))}:=by
   have:=Bz (Fx (gA (pL x zs) (λz=>if z=x then t else tk z)) (vV l (pL x zs))) ho (by rw [Jp _ _ hd];rfl);rw [Jp _ _ hd]at this;exact this
  exact h true _ (Bu s'.heap a (Fx _ _)) ⟨_,_,_,hg,hex,rfl,uU x zs⟩
def vP (val:Nat->Nat):Nat->List Nat
 |0=>[]
 |i+1=>pL (val i) (vP val i)
theorem aEy (val:Nat->Nat):∀i,vP val i∈fC
 |0=>by simp [vP,fC]
 |i+1=>uU _ _
theorem aE6 {val:Nat->Nat} {n:Nat} (hv:∀i,i<n->val i∈[1,2,3]):∀i,i<=n->∀z,z∈vP val i↔ ∃j,j<i/\val j=z
 |0,_,z=>by simp [vP]
 |i+1,h,z=>by
  rw [vP,aOr (aEy val i) (hv i (by omega)),aE6 hv i (by omega) z];constructor
  ·rintro(rfl|⟨j,h1,h2⟩)
   ·exact⟨i,by omega,rfl⟩
   ·exact⟨j,by omega,h2⟩
  ·rintro⟨j,h1,h2⟩;by_cases e:j=i
   ·subst e;exact .inl h2.symm
   ·exact .inr ⟨j,by omega,h2⟩
theorem nA {R:Result->Shared->Prop} {I:Addr} {fp wr:List Addr} {G:Array GenState->Array GenState->Prop} {n:Nat} {P:Nat->Value->Prop} {St:Nat->Shared->Prop}
  (W:WalksS prog w A.in1 I fp wr G n P St) (S:Addr) (hSf:S∉fp) (l:Bool)
  (val:Nat->Nat) (hval:∀i v,P i v->∃t,v= .int (val i) t) (h3:∀i,i<n->val i∈[1,2,3]):
  ∀(k i:Nat) (s:Shared),n-i=k->i<=n->St i s->aF7 s S l (vP val i)->
   (∀s',Moved (S::wr) G s s'->aF7 s' S l (vP val n)->R (.ok (.ret .none)) s')->
   codeAny (model prog w) A (.builtin "set.update.loop" ⟨[.ref S,.ref I],[]⟩) R s:=by
 have hSw:S∉wr:=λh=>hSf (W.sub _ h);have hsub:∀b∈wr,b∈S::wr:=λb hb=>Ae _ hb;intro k;induction k with
 |zero=>
  intro i s hk hi hst hS hR;have hin:i=n:=by omega
  subst hin;refine Da Dt ?_;rw [Cc Br _];show wpAny _ A.in1 (pyNext (.ref I)>>=_) _ _ s;refine Aa (W.done s _ _ hst λs' hm=>?_);show wpAny _ A.in1 (ret Cg) _ _ s';exact Ad (hR s' (hm.mono hsub) (by
   obtain⟨o,ep,tk,ho,rest⟩:=hS;exact⟨o,ep,tk,hm.heap S _ hSw ho,rest⟩))
 |succ k ih=>
  intro i s hk hi hst hS hR;have hlt:i<n:=by omega
  refine Da Dt ?_;rw [Cc Br _];show wpAny _ A.in1 (pyNext (.ref I)>>=_) _ _ s;refine Aa (W.item i s _ _ hlt hst λv s' hP hst' hm=>?_);obtain⟨t,rfl⟩:=hval i v hP;have hS':aF7 {s' with toks:=s'.toks+1} S l (vP val i):=by
   obtain⟨o,ep,tk,ho,rest⟩:=hS;exact⟨o,ep,tk,hm.heap S _ hSw ho,rest⟩
  show wpAny _ A.in1 (holding [Dc (val i) t] (setAdd S (.int (val i) t))>>=_) _ _ s';refine Aa (Ca ?_);unfold setAdd;refine Ca ?_;refine Aa ((intKind prog w).pyHash (k:=(val i:Int)) (Ll _ _ _ _) ?_);rw [aMw (h3 i hlt)];refine aA3 (s:={s' with toks:=s'.toks+1}) (h3 i hlt) hS' λb h' hsb hS2=>?_;refine Ad ⟨Ed Br _,ih (i+1) _ (by omega) hlt (W.frame _ s' _ _ hst' (Fu _) λb hb o e=>?_) hS2 λs'' hm'' hS''=>?_⟩
  ·rw [hsb.2 b (λh:b=S=>hSf (by rw [<-h];exact hb))];exact e
  ·refine hR s'' (Ol W.gtrans ((hm.mono hsub).then_heap (Fu _) λb o hb e=>?_) hm'') hS'';rw [hsb.2 b (λh:b=S=>hb (by rw [h];exact Af))];exact e
theorem aAc {l:Addr} {items:Array Value} {val:Nat->Nat} {Q:Value->Shared->Prop} (hh:A.handled=none) (hl:s.heap.IsList l items) (hi:∀(i:Nat) (v:Value),items[i]? =some v->∃t,v= .int (val i) t) (h3:∀j,j<items.size->val j∈[1,2,3])
  (h:∀(h':Heap) (tk:Nat),aF7 {s with heap:=h',toks:=tk} s.heap.objs.size (!w.params.followText "set-order") (vP val items.size)->(∀b o,b<s.heap.objs.size->s.heap.get? b=some o->h'.get? b=some o)->Q (.ref s.heap.objs.size) {s with heap:=h',toks:=tk}):
  wpAny (model prog w) A (call (.type "set") [.ref l]) Q E s:=
 uT (λs'=>aF7 s' s.heap.objs.size (!w.params.followText "set-order") (vP val items.size)) hh hl
  (λs1 W hSf hA hnt st kp hS hR=>nA W s.heap.objs.size hSf _ val hi h3 (items.size-0) 0 s1 (by omega) (Bb _) st ⟨_,0,λ_=>0,hS,⟨rfl,rfl,rfl⟩,rfl,by simp [vP,fC]⟩ λs' hm S=>hR s' hm S)
  λh' tk S kp=>h h' tk S kp
end
end PySem
namespace PySem
open Sem (wp)
def xM (h:Heap) (d:Addr) (es:Array DictEntry) (ep:Nat):Prop:=∃o,h.get? d=some o/\o.ExactDict/\o.data= .dict es ep
theorem xM.at_ {h h':Heap} {d:Addr} {es:Array DictEntry} {ep:Nat} (x:xM h d es ep) (e:∀o,h.get? d=some o->h'.get? d=some o):xM h' d es ep:=let⟨o,ho,r⟩:=x;⟨o,e _ ho,r⟩
theorem xM.lt {h:Heap} {d:Addr} {es:Array DictEntry} {ep:Nat} (x:xM h d es ep):d<h.objs.size:=let⟨_,ho,_⟩:=x;Ao ho
section
variable {prog:Program} {w:World} {A:Around} {E:Value->Shared->Prop} {s:Shared} {d it:Addr} {es:Array DictEntry} {ep i:Nat}
theorem xM.ty (x:xM s.heap d es ep):s.TypeIs (.ref d) "dict":=let⟨o,ho,c,_⟩:=x;⟨o,ho,c.1⟩
theorem aK8 {Q:Value->Shared->Prop} (lo:(d==sysModules)=false) (x:xM s.heap d es ep)
  (q:Q (.ref s.heap.objs.size) {s with heap:=s.heap.push {cls:= .type "dict_keyiterator",data:= .fields #[.ref d,.int 0 0,.int es.size 0,.int ep 0]}}):wpAny (model prog w) A (pyIter (.ref d)) Q E s:=by
 obtain⟨o,ho,c,dd⟩:=id x;refine Li x.ty Rq (De Rq x.ty F.entry_dict_iter ?_ (F.args_dict_iter_1 _));unfold Builtin.«dict.__iter__» Ut;refine Aa (Aa (wpAny_notOrdered_dict x.ty (Ad ?_)));show wpAny _ _ (Kt d>>=_) _ _ s;unfold Kt;rw [if_neg (by rw [lo];exact Aj)];refine Aa (Ad (Aa (Lj ho dd (Aa (Nf ho dd ?_)))));refine Aa (Cv (Ad ⟨_,rfl,"dict_keyiterator",_,⟨_,Ar _ rfl,rfl⟩,F.slot_dict_keyiterator_next.lookup,?_⟩));simpa [rawInt]using q
theorem aNz {Q:Option Value->Shared->Prop} (y:s.heap.IsKeyIter it d i es.size ep) (x:xM s.heap d es ep) (hi:i<es.size)
  (q:∀g,g.IsKeyIter it d (i+1) es.size ep->Cw it s.heap g->Q (some es[i].key) {s with heap:=g}):wpAny (model prog w) A (pyNext (.ref it)) Q E s:=by
 obtain⟨o,ho,hc,hd⟩:=id y
 obtain⟨od,h1,_,h2⟩:=x
 have own:Ik "dict_keyiterator"=false:=by decide
 unfold pyNext
 refine Aa (Ow (Iz (name:=As "__next__") y.typeIs Ff (De Ff y.typeIs Lw ?_ (Lf _))))
 refine Aa (Ad (Aa (Aa ?_)))
 first|refine Aa (Ex y.typeIs (Ad ?_))|refine Aa (Gg y.typeIs (Ad ?_))
 refine Aa (Nx ho hd ?_)
 simp only [own,An,if_false]
 show wpAny _ _ (if(Au d==Cg)=true then _ else _) _ _ s
 rw [if_neg (show¬((Au d==Cg)=true)from Aj)]
 refine Aa (Ad (Aa (Lj h1 h2 ?_)))
 rw [if_neg (by simp)]
 refine Aa (Ad (Aa (Nf h1 h2 ?_)))
 rw [if_neg (by simp)]
 refine Ad ?_
 simp only [show¬((i:Int)<0)from by omega,if_false,Ib,Az hi]
 refine Aa ?_
 first|refine Aa (Ex y.typeIs (Ad ?_))|refine Aa (Gg y.typeIs (Ad ?_))
 refine Aa (Px y.typeIs ?_)
 show wpAny _ _ (setField (.ref it) 1 (rawInt ((i:Int)+1))>>=_) _ _ s
 refine Aa (Ie ho hd (by simp) ?_)
 have y':(s.heap.update it (Nj (·.setIfInBounds 1 (rawInt ((i:Int)+1))))).IsKeyIter it d (i+1) es.size ep:=
  ⟨_,Bz _ ho (Jb (Eu hd _)),(Ke ..).trans hc,by rw [Eu hd];simp [rawInt]⟩
 refine Aa (Ca (Aa (Px (s:={s with heap:=s.heap.update it (Nj (·.setIfInBounds 1 (rawInt ((i:Int)+1))))}) y'.typeIs ?_)))
 show wpAny _ _ (pure es[i].key) _ _ _
 exact Ad (Ad ⟨_,rfl,Ad (q _ y' (Bu ..))⟩)
theorem aPh {Q:Option Value->Shared->Prop} (hh:A.handled=none) (y:s.heap.IsKeyIter it d es.size es.size ep) (x:xM s.heap d es ep) (q:∀g,Uo it s.heap g->Q none {s with heap:=g}):wpAny (model prog w) A (pyNext (.ref it)) Q E s:=by
 obtain⟨o,ho,hc,hd⟩:=id y
 obtain⟨od,h1,_,h2⟩:=x
 have own:Ik "dict_keyiterator"=false:=by decide
 unfold pyNext
 refine Aa (Ow (Iz (name:=As "__next__") y.typeIs Ff (De Ff y.typeIs Lw ?_ (Lf _))))
 refine Aa (Ad (Aa (Aa ?_)))
 first|refine Aa (Ex y.typeIs (Ad ?_))|refine Aa (Gg y.typeIs (Ad ?_))
 refine Aa (Nx ho hd ?_)
 simp only [own,An,if_false]
 show wpAny _ _ (if(Au d==Cg)=true then _ else _) _ _ s
 rw [if_neg (show¬((Au d==Cg)=true)from Aj)]
 refine Aa (Ad (Aa (Lj h1 h2 ?_)))
 rw [if_neg (by simp)]
 refine Aa (Ad (Aa (Nf h1 h2 ?_)))
 rw [if_neg (by simp)]
 refine Ad ?_
 simp only [show¬((es.size:Int)<0)from by omega,if_false,Ib,My (Am _)]
 refine Aa ?_
 first|refine Aa (Ex y.typeIs (Ad ?_))|refine Aa (Gg y.typeIs (Ad ?_))
 show wpAny _ _ (setField (.ref it) 0 .none>>=_) _ _ s
 refine Aa (Ie ho hd (by simp) ?_)
 show wpAny _ _ (newExc (.type "StopIteration") []>>=_) _ _ _
 simp only [newExc,newTuple]
 refine Aa (Aa (Cv ?_ (by size_fits)))
 refine Aa (m:=firstArgMember _ _) (Nb (a:=Cg) (by first|rfl|(simp only [firstArgMember];rfl)) ?_)
 refine Cv ?_ (by size_fits)
 simp only [raiseNew]
 refine Aa (wpAny_handled ?_)
 rw [show A.in1.handled=none from hh]
 refine Aa (Ad (wpAny_throw ?_))
 refine Aa (Ey (T:="StopIteration") (b:=true) ⟨_,Ar _ rfl,rfl⟩ isSubtype_stop ?_)
 exact Ad (q _ (((Bu ..).extBut.push _).push _))
theorem aKe (hh:A.handled=none) (I d:Addr) (ne:d≠I) (es:Array DictEntry) (ep:Nat):Walks prog w A I [I,d] [I] es.size (λi v=>∃e,es[i]? =some e/\v=e.key) (λi h=>h.IsKeyIter I d i es.size ep/\xM h d es ep) where
 sub:=λb hb=>by simp at hb;simp [hb]
 frame:=λ_ _ _ st hk=>⟨st.1.at λo e=>hk I (by simp) o e,st.2.at_ λo e=>hk d (by simp) o e⟩
 item:=λi s Q E hi st hQ=>aNz st.1 st.2 hi λg y' sb=>hQ _ g s.toks ⟨_,Az hi,rfl⟩ ⟨y',st.2.at_ λo e=>sb.extBut d o ne e⟩ λb o hb e=>sb.extBut b o (λh=>hb (by simp [h])) e
 done:=λs Q E st hQ=>aPh hh st.1 st.2 λg he=>hQ g s.toks λb o hb e=>he b o (λh=>hb (by simp [h])) e
 self:=λ_ _ _ _ st hQ=>wpAny_pyIter_keyiter st.1 hQ
theorem aQn (lo:(d==sysModules)=false):Pq prog w "dict" d d es.size (λi v=>∃e,es[i]? =some e/\v=e.key) (λh=>xM h d es ep) where
 type:=λ_ hm=>hm.ty
 there:=λ_ hm=>⟨hm.lt,hm.lt⟩
 keep:=λ_ _ hm hk=>hm.at_ λo e=>hk d (.inl rfl) o e
 notList:=by decide
 notTuple:=by decide
 hint:=λ_ _ _ _ hm hq=>PySem.W.kdl_hint_dict hm.ty hq
 iter:=λ_ _ hh hm=>⟨_,_,(λ_ _ hq=>aK8 lo hm hq),aKe hh _ d (Ax hm.lt) es ep,⟨⟨_,Ar _ rfl,rfl,rfl⟩,hm.at_ λ_ e=>Ai _ e⟩⟩
end
end PySem
namespace L2
open PySem PySem.Spec PyProof.Rows
section
variable {prog:Program} {w:World} {A:Around} {R:Result->Shared->Prop} {s:Shared}
theorem aDf {elt target iter:Expr} {scope:Scope} {pos:Pos} {it acc:Value} {env:Env} (I:Nat->Shared->Prop)
  (turn:∀n s,I n s->wpAny (model prog w) A (pyNext it) (λr s₁=>match r with
   |none=>R (.ok .next) s₁
   |some v=>wpAny (model prog w) A (letOwnedTupleGo target it v) (λ_ s₁'=>wpAny (model prog w) A (assign target env v) (λ_ s₂=>wpAny (model prog w) A (eval elt env) (λx s₃=>
     wpAny (model prog w) A (call (.builtin "list.append") [acc,x]) (λ_ s₄=>∃m,m<n/\I m s₄) (λ_ _=>False) s₃) (λ_ _=>False) s₂) (λ_ _=>False) s₁') (λ_ _=>False) s₁) (λ_ _=>False) s)
  (n:Nat) (h:I n s):
  codeAny (model prog w) A (.compLoop (.ListComp elt [⟨target,iter,[],0⟩] scope pos) 0 it acc env) R s:=by
 refine codeAny_loop rfl I (λn s hI=>?_) n h;show wpAny _ _ ((compTurn (.ListComp elt [⟨target,iter,[],0⟩] scope pos) 0 it acc env).onRaise (λx=>do noteFrame x env;theTreesLotGoes x)) _ _ s;refine wpAny_noted ?_;rw [compTurn_list1];refine Aa (Iy (Aa (Cq (turn n s hI) (λr s₁ h₁=>?_) λ_ _ h'=>h'.elim)));cases r with
 |none=>exact Ad h₁
 |some v=>
  refine Aa (Cq h₁ (λ_ s₁' h₁'=>?_) λ_ _ h'=>h'.elim);exact Aa (Cq h₁' (λ_ s₂ h₂=>Aa (Aa (Cq h₂ (λx s₃ h₃=>Aa (Cq h₃
   (λ_ s₄ h₄=>Ad (Ad ⟨rfl,h₄⟩)) λ_ _ h'=>h'.elim)) λ_ _ h'=>h'.elim))) λ_ _ h'=>h'.elim)
end
theorem gG {env:Env} (hk:env.scope.kind= .function):∀{names:List (Str×NameKind)} {x:Str},names.lookup x=some .free->env.kindOf x=some .cell->
  (names.map λ(n,k)=>if(k==Dn && env.scope.kind== .function && env.kindOf n==some .cell)then(n,Gr)else(n,k)).lookup x=some .cell
 | [],_,h,_=>by simp at h
 |(n,k)::r,x,h,hc=>by
  have ih:=@gG env hk r x;show Fc x ((if(k==Dn && env.scope.kind== .function && env.kindOf n==some .cell)=true then(n,Gr)else(n,k))::_)=_;cases hx:x==n with
  |true=>
   have e:x=n:=eq_of_beq hx;subst e;simp only [Bn,hx]at h;cases h;rw [if_pos (by rw [hk,hc];rfl)];simp [Bn]
  |false=>
   simp only [Bn,hx]at h;by_cases hcc:(k==Dn && env.scope.kind== .function && env.kindOf n==some .cell)=true
   ·rw [if_pos hcc];simp only [Bn,hx];exact ih h hc
   ·rw [if_neg hcc];simp only [Bn,hx];exact ih h hc
theorem iC {env:Env}:∀{names:List (Str×NameKind)} {x:Str},((names.map λ(n,k)=>if(k==Dn && env.scope.kind== .function && env.kindOf n==some .cell)then(n,Gr)else(n,k)).lookup x=some .cell∨
  (names.map λ(n,k)=>if(k==Dn && env.scope.kind== .function && env.kindOf n==some .cell)then(n,Gr)else(n,k)).lookup x=some .free)->names.lookup x=some .free∨names.lookup x=some .cell
 | [],_,h=>by simp at h
 |(n,k)::r,x,h=>by
  have ih:=@iC env r x
  replace h:Fc x ((if(k==Dn && env.scope.kind== .function && env.kindOf n==some .cell)=true then(n,Gr)else(n,k))::_)=_∨Fc x ((if(k==Dn && env.scope.kind== .function && env.kindOf n==some .cell)=true then(n,Gr)else(n,k))::_)=_:=h
  cases hx:x==n with
  |true=>
   simp only [Bn,hx];by_cases hcc:(k==Dn && env.scope.kind== .function && env.kindOf n==some .cell)=true
   ·have:k= .free:=by
     have:=(Fp _ _▸(Fp _ _▸hcc).1).1;exact eq_of_beq this
    exact .inl (by rw [this])
   ·rw [if_neg hcc]at h;simp only [Bn,hx]at h;rcases h with h|h
    ·exact .inr h
    ·exact .inl h
  |false=>
   simp only [Bn,hx];by_cases hcc:(k==Dn && env.scope.kind== .function && env.kindOf n==some .cell)=true
   ·rw [if_pos hcc]at h;simp only [Bn,hx]at h;exact ih h
   ·rw [if_neg hcc]at h;simp only [Bn,hx]at h;exact ih h
theorem qJ {a b c:Nat} (h1:a<b) (h2:b<=c):a≠c:=Ax (Bg h1 h2)
abbrev bV (X:Cx) (Nc:List Str) (scope:Scope) (cl:List (Str×Addr)) (C:Addr) (s2:Shared) (H2:Hp) (fp:List Addr):Cx:=
 {prog:=X.prog,w:=X.w,K:=X.K,mg:=X.mg,base:=X.base,A:=X.A,N:=Nc,s₀:=s2,H₀:=H2,env:=compEnvC scope cl C X.env,outer:=X.stack,stack:=X.stack,ex:=fp,fn:=λ_=>false,calm:=X.calm,pn:=[],xe:=λ_ _=>False}
abbrev eO (own:List Str) (cap:List (Str×Nat)):List Str:=own++cap.map (·.1)
def jQ (no:Nat) (cap:List (Str×Nat)) (σ:St):St:=Jj no none++cap.map λp=>(σ[p.2]?).join
structure iG (X:Cx) (scope:Scope) (cap:List (Str×Nat)) (cl:List (Str×Addr)):Prop where
 clos:closureFor scope X.env=pure cl
 kind:scope.kind= .function
 nocell:∀y∈scope.names,y.2≠ .cell
 names:∀y∈scope.names,y.2= .local->scope.names.lookup y.1=some .local
 sub:∀x c,cl.lookup x=some c->X.env.cells.lookup x=some c
 has:∀x,scope.names.lookup x=some .free->∃c,cl.lookup x=some c
 cap:∀p∈cap,X.N[p.2]? =some p.1/\scope.names.lookup p.1=some .free/\X.env.scope.names.lookup p.1=some .cell
def aSo (J:It) (D:Addr) (g:TG) (te:TE) (Q:VK) (σ:St) (H:Hp):Prop:=∃W:Nat->Nat->St->Hp->Prop,
 (∃m,W 0 m σ H)/\∀i m σc H2,W i m σc H2->
  (J.stop i H2/\Q (.ref D) H2)∨(J.go i H2/\∀x H3,J.yld i H2 x H3->g x σc H3 λσ4 H4=>te σ4 H4 λy H5=>∃ys,H5 D=some (.lst ys)/\ys.length<sizeLine/\∃m',m'<m/\W (i+1) m' σ4 (upd H5 D (.lst (ys++[y]))))
def aBg (no:Nat) (cap:List (Str×Nat)) (wi:TI) (g:TG) (te:TE):TE:=λσ H Q=>wi σ H λJ H1=>∀D,H1 D=none->aSo J D g te Q (jQ no cap σ) (upd H1 D (.lst []))
section
variable {X:Cx} {pins:List (Addr×Obj)} {σ:St} {s2:Shared} {H2:Hp}
theorem aCa {no:Nat} {cap:List (Str×Nat)} {own:List Str} (hno:own.length=no) {i:Nat} {x:Str} {v:V} (h1:(eO own cap)[i]? =some x) (h2:(jQ no cap σ)[i]? =some (some v)):
  ∃p∈cap,p.1=x/\σ[p.2]? =some (some v):=by
 subst hno;unfold jQ at h2;by_cases hi:i<own.length
 ·rw [Dq (by simpa using hi),Dy]at h2;rw [if_pos hi]at h2;cases h2
 ·rw [Cu (by simpa using hi)]at h2;unfold eO at h1;rw [Cu (by simpa using hi)]at h1;rw [Ej,Ay]at h2;rw [Ay]at h1;cases e:cap[i-own.length]? with
  |none=>rw [e]at h1;cases h1
  |some p=>
   rw [e]at h1 h2;refine⟨p,Bt e,Bm h1,?_⟩;have q:(σ[p.2]?).join=some v:=Bm h2;cases e2:σ[p.2]? with
   |none=>rw [e2]at q;cases q
   |some o=>rw [e2]at q;exact congrArg some q
theorem yP {elt iter tg:Expr} {scope:Scope} {own:List Str} {cap:List (Str×Nat)} {cl:List (Str×Addr)} {pos:Pos} {J:It} {fp:List Addr} {it:Addr} {tn:Nat->Heap->Prop} {g:TG} {te:TE} {Q:VK}
  (S:iG X scope cap cl) (hc:X.calm=true) (I:Inv X pins σ H2 s2) (T:Turn X.prog X.w X.K tg J fp it tn) (st:tn 0 s2.heap) (hf:∀b∈fp,aA5 X pins H2 b)
  (hg:∀C s2 H2 fp,PG (bV X (eO own cap) scope cl C s2 H2 fp) tg g) (he:∀C s2 H2 fp,PE (bV X (eO own cap) scope cl C s2 H2 fp) elt te)
  (W:Nat->Nat->St->Hp->Prop) (w0:∃m,W 0 m (jQ own.length cap σ) (upd H2 s2.heap.objs.size (.lst [])))
  (turn:∀i m σc H3,W i m σc H3->(J.stop i H3/\Q (.ref s2.heap.objs.size) H3)∨(J.go i H3/\∀x H4,J.yld i H3 x H4->g x σc H4 λσ5 H5=>te σ5 H5 λy H6=>∃ys,H6 s2.heap.objs.size=some (.lst ys)/\ys.length<sizeLine/\∃m',m'<m/\W (i+1) m' σ5 (upd H6 s2.heap.objs.size (.lst (ys++[y])))))
  {RR:Value->Addr->Result->Shared->Prop}
  (hRR:∀C H' s' m,s2.heap.objs.size<=C->s'.heap.Ns C m->H' C=none->Inv X pins σ H' s'->(∀h',Cw C s'.heap h'->Inv X pins σ H' {s' with heap:=h'})->Q (.ref s2.heap.objs.size) H'->RR (.ref s2.heap.objs.size) C (.ok .next) s')
  {E:Value->Shared->Prop}:
  wpAny (model X.prog X.w) X.A (newList []) (λacc s₃=>wpAny (model X.prog X.w) X.A (newFunctionEnv scope X.env.globals cl [] X.env.qual none .none (some X.env)) (λcenv s₄=>
   codeAny (model X.prog X.w) X.A (.compStart (.ListComp elt [⟨tg,iter,[],0⟩] scope pos) 0 (.ref it) acc {cenv with scope:=relabel scope X.env}) (RR acc cenv.locals) s₄) E s₃) E s2:=by
 refine Cv (Qn S.nocell (by intro y hy;simp at hy) (λh₁ hns₁ hsb₁=>?_) S.kind);dsimp only at hns₁ hsb₁⊢;generalize hH2:s2.heap.push {cls:= .type "list",dict:=none,data:= .seq ([]:List Value).toArray}=G2 at hns₁ hsb₁⊢;have hC:G2.objs.size=s2.heap.objs.size+1:=by rw [<-hH2,Dj]
 have hDC:s2.heap.objs.size≠G2.objs.size:=by rw [hC];exact Ax (Dx _)
 have hCle:s2.heap.objs.size<=G2.objs.size:=by rw [hC];exact Fu _
 have below:∀b,b<s2.heap.objs.size->b≠G2.objs.size/\b≠s2.heap.objs.size:=λb hb=>⟨by rw [hC];exact Ax (Eb hb),Ax hb⟩;have old:∀b o,s2.heap.get? b=some o->h₁.get? b=some o:=λb o e=>hsb₁.extBut b o (below b (Ao e)).1 (Ai _ (hH2▸Ai _ e));have hacc:h₁.get? s2.heap.objs.size=some {cls:= .type "list",dict:=none,data:= .seq ([]:List Value).toArray}:=hsb₁.extBut _ _ hDC (Ai _ (hH2▸Ar _ rfl));have hfps:∀b∈fp,b<s2.heap.objs.size:=λb hb=>by
  obtain⟨o,e,_⟩:=T.obj _ _ st b hb;exact Ao e
 have hfree:∀b,s2.heap.objs.size<=b->H2 b=none:=λb hb=>I.hok.fresh hb;generalize hX:bV X (eO own cap) scope cl G2.objs.size s2 H2 fp=X';have hOk:X'.Ok:=by
  subst hX;refine⟨I.ok.mod,S.kind,I.ok.glob,I.ok.blt,hCle,λx y c e1 e2=>I.ok.inj x y c (S.sub x c e1) (S.sub y c e2),λx hx=>?_,λx c z=>absurd (show false=true from z) Aj,I.ok.hd,I.ok.frames,.inl rfl,
   λb hb=>⟨(below b (hfps b hb)).1,λx c e=>(hf b hb).2.2.2.2.1 x c (S.sub x c e)⟩,I.bs,Co I.ok.bsz I.sz,λb o e hb=>?_,λb hb z=>?_,I.stack,I.stkFree⟩
  ·rcases iC (env:=X.env) (names:=scope.names) (x:=x) hx with h|h
   ·exact S.has x h
   ·exact absurd rfl (S.nocell _ (Cz h))
  ·rcases (hf b hb).2.2.2.1 with z|z
   ·exact I.ok.noex b o e z
   ·exact absurd (Bg (Ao e) (Co I.ok.bsz z)) (Ea _)
  ·rcases List.mem_cons.mp (I.stkSub b z)with z|z
   ·exact(hf b hb).2.1 z
   ·exact(hf b hb).2.2.1 z
 have hI0:Inv X' [] (jQ own.length cap σ) (upd H2 s2.heap.objs.size (.lst [])) {s2 with heap:=h₁,toks:=s2.toks+([]:List (Str×Value)).length}:=by
  subst hX;refine⟨hOk,rfl,I.bare,Un.laid old (Am _) (hfree _ (Am _)),⟨_,hns₁,λi x v e1 e2 e3=>?_⟩,λx c e=>?_,?_,λx c e=>?_,λp hp=>absurd (show p∈([]:List (Addr×Obj))from hp) (by simp),?_,?_⟩
  ·obtain⟨p,hp,rfl,hσ⟩:=aCa rfl e1 e2;obtain⟨c1,c2,c3⟩:=S.cap p hp;obtain⟨m,hn,hl⟩:=I.loc;obtain⟨u,r,l⟩:=hl p.2 p.1 v c1 hσ (.inr (.inl c3));refine⟨u,r,.inr ⟨.inl (gG I.ok.kind c2 c3),?_⟩⟩;obtain⟨c,hcl⟩:=S.has _ c2;refine⟨c,hcl,?_⟩;rcases l with ⟨k,_⟩|⟨_,c',e,z⟩
   ·have k':X.env.scope.names.lookup p.1=some .local:=k;rw [c3]at k';cases k'
   ·have:=S.sub _ _ hcl;rw [e]at this;cases this;obtain⟨o,ho,hd⟩:=z;exact⟨o,old _ _ ho,hd⟩
  ·obtain⟨v,o,ho,hd⟩:=I.cell x c (S.sub x c e);exact⟨v,o,old _ _ ho,hd⟩
  ·show upd H2 s2.heap.objs.size (.lst []) G2.objs.size=none;rw [aP (Di hDC)];exact hfree _ hCle
  ·have e':=S.sub x c e;obtain⟨v,o,ho,hd⟩:=I.cell x c e';rw [aP (below c (Ao ho)).2];exact I.freeC x c e'
  ·exact I.hok.laid old (Am _) ⟨Bb _,[],_,.nil,hacc⟩
  ·show(jQ own.length cap σ).length=(eO own cap).length;unfold jQ eO;simp
 have hP:X'.prog=X.prog:=by subst hX;rfl
 have hw:X'.w=X.w:=by subst hX;rfl
 have hK:X'.K=X.K:=by subst hX;rfl
 have hA:X'.A=X.A:=by subst hX;rfl
 have hcalm:X'.calm=true:=by subst hX;exact hc
 have hxe:X'.xe=λ_ _=>False:=by subst hX;rfl
 have henv:X'.env=compEnvC scope cl G2.objs.size X.env:=by subst hX;rfl
 have hbase:∀{σ' H' s'},Inv X' [] σ' H' s'->Un (frs X.stack) fp H2 H' s2.heap s'.heap/\s'.os=s2.os:=λ{σ' H' s'} J=>by subst hX;exact⟨J.base,J.os⟩
 have hg':PG X' tg g:=by subst hX;exact hg _ _ _ _
 have he':PE X' elt te:=by subst hX;exact he _ _ _ _
 have stat:∀{H':Hp},(∀b∈fp,H' b=none)->∀b∈fp,aA5 X' [] H' b:=λ{H'} hn b hb=>by
  subst hX;refine⟨hn b hb,(below b (hfps b hb)).1,λz=>?_,.inl hb,λx c e=>(hf b hb).2.2.2.2.1 x c (S.sub x c e),λp hp=>absurd (show p∈([]:List (Addr×Obj))from hp) (by simp)⟩;rcases List.mem_cons.mp (I.stkSub b z)with z|z
  ·exact(hf b hb).2.1 z
  ·exact(hf b hb).2.2.1 z
 have back:∀{σ' H' s'},Inv X' [] σ' H' s'->Q (.ref s2.heap.objs.size) H'->RR (.ref s2.heap.objs.size) G2.objs.size (.ok .next) s':=λ{σ' H' s'} J q=>by
  obtain⟨u,ho⟩:=hbase J;have hcf:∀b∈fp,(b∈X.ex∨X.s₀.heap.objs.size<=b)/\b≠X.env.locals/\(∀x c,X.env.cells.lookup x=some c->c≠b)/\∀p∈X.pn++pins,p.1≠b:=λb hb=>by
   obtain⟨f0,f1,f2,f3,f4,f5⟩:=hf b hb;exact⟨f3,f1,f4,f5⟩
  have hCn:H' G2.objs.size=none:=by have:=J.free;rw [henv]at this;exact this
  have hok':HOk X.prog X.w H' s'.heap:=by have:=J.hok;rw [hP,hw]at this;exact this
  obtain⟨m,hm,_⟩:=J.loc;rw [henv]at hm;refine hRR _ H' s' m hCle hm hCn (I.call' ho u hok' J.bare hcf) (λh' hs=>?_) q;have kn:∀b o,s2.heap.get? b=some o->h'.get? b=s'.heap.get? b:=λb o e=>hs.2 b (below b (Ao e)).1;refine I.call' (s':={s' with heap:=h'}) ho ⟨λb o e n hb hx=>(kn b o e).trans (u.keep b o e n hb hx),λb o e n hb hx=>?_,u.free,λb o e hx=>?_,u.tups,u.frzs,u.tbls⟩ (λb ob e=>?_) J.bare hcf
  ·obtain⟨sl,e1⟩:=u.slot b o e n hb hx;exact⟨sl,(kn b o e).trans e1⟩
  ·obtain⟨o',e1⟩:=u.there b o e hx;exact⟨o',(kn b o e).trans e1⟩
  ·refine(hok' b ob e).stay (λc w' hc q=>(hs.2 c ?_).trans q) (λ_ q=>q) λ_ _ q=>q;rintro rfl;rcases hc with rfl|hc
   ·rw [hCn]at e;cases e
   ·rw [hCn]at hc;cases hc
 have loop:∀s₃:Shared,s₃={s2 with heap:=h₁,toks:=s2.toks+([]:List (Str×Value)).length}->
   codeAny (model X.prog X.w) X.A (.compLoop (.ListComp elt [⟨tg,iter,[],0⟩] scope pos) 0 (.ref it) (.ref s2.heap.objs.size) (compEnvC scope cl G2.objs.size X.env))
    (RR (.ref s2.heap.objs.size) G2.objs.size) s₃:=by
  rintro s₃ rfl;obtain⟨m0,w0⟩:=w0;refine aDf (λn s'=>∃i σ' H',Inv X' [] σ' H' s'/\tn i s'.heap/\(∀b∈fp,H' b=none)/\W i n σ' H') ?_ m0
   ⟨0,_,_,hI0,T.keep _ _ _ st λb hb o e=>old b o e,λb hb=>?_,w0⟩
  ·rintro n s3 ⟨i,σ3,H3,I3,st3,fr3,w3⟩;rcases turn i n σ3 H3 w3 with ⟨stop,qn⟩|⟨go,step⟩
   ·have d:=T.done X' hP hw hK hcalm i [] s3 σ3 H3 (λ_ _=>False) I3 (stat fr3) st3 stop;rw [hA]at d;refine thn d λr s4 ⟨hr,I4⟩=>?_;subst hr;exact back I4 qn
   ·have d:=T.item X' hP hw hK hcalm i [] s3 σ3 H3 (λ_ _=>False) I3 (stat fr3) st3 go;rw [hA]at d;refine thn d λr s4 ⟨u,hr,h4⟩=>?_;subst hr;refine thn h4 λ_ s5 ⟨x,H5,I5,r5,y5,st5,fr5⟩=>?_;have I5':=I5.pinned (stat fr5) (T.obj _ _ st5);have d2:=hg' _ s5 σ3 H5 x u _ I5' r5 (step x H5 y5);rw [hP,hw,hA,hxe,henv]at d2;refine thn d2 λ_ s6 ⟨σ6,H6,I6,q6⟩=>?_;have d3:=he' _ s6 σ6 H6 _ I6 q6;rw [hP,hw,hA,hxe,henv]at d3;refine thn d3 λy7 s7 ⟨v7,H7,I7,r7,ys,e7,l7,m',hm,w7⟩=>?_;have d4:=oG (X:=X') _ s7 σ6 H7 (.ref s2.heap.objs.size) [v7] (.ref s2.heap.objs.size) [y7] (λ_ H8=>W (i+1) m' σ6 H8) I7 rfl (.cons r7 .nil) ⟨_,ys,v7,rfl,rfl,e7,l7,w7⟩;rw [hP,hw,hA,hxe]at d4;refine thn d4 λ_ s8 ⟨v8,H8,I8,_,w8⟩=>?_;refine⟨m',hm,i+1,σ6,H8,I8.unpinned,T.keep _ _ _ st5 λb hb o e=>(I8.pin (b,o) (Ba _ (Ba _ (fD hb e)))).1,λb hb=>?_,w8⟩;obtain⟨o,e,d⟩:=T.obj _ _ st5 b hb;exact(I8.pin (b,o) (Ba _ (Ba _ (fD hb e)))).2.1
  ·rw [aP (below b (hfps b hb)).2];exact(hf b hb).1
 exact Pn (loop _ rfl) (T.self _ 0 _ _ _ (T.keep _ _ _ st λb hb o e=>old b o e) (loop _ rfl))
theorem aHv {elt iter tg:Expr} {scope:Scope} {own:List Str} {cap:List (Str×Nat)} {cl:List (Str×Addr)} {pos:Pos} {wi:TI} {g:TG} {te:TE}
  (S:iG X scope cap cl) (hc:X.calm=true) (hi:PI X tg iter wi)
  (hg:∀C s2 H2 fp,PG (bV X (eO own cap) scope cl C s2 H2 fp) tg g) (he:∀C s2 H2 fp,PE (bV X (eO own cap) scope cl C s2 H2 fp) elt te)
  (hs:∀x,foldedSetIterable iter X.env x=pure x:=by intro _;rfl):PE X (.ListComp elt [⟨tg,iter,[],0⟩] scope pos) (aBg own.length cap wi g te):=by
 intro pins s σ H Q I h;rw [eval_ListComp];refine Ip (use:=none) rfl hs S.clos S.kind S.names (thn (hi pins s σ H _ I h) λv s1 h1=>thn h1 λitv s2 h2=>?_);obtain⟨it,fp,tn,J,H2,e,I2,T,st2,f2,rd⟩:=h2;subst e;obtain⟨W,w0,turn⟩:=rd _ (I2.hok.fresh (Am _));exact yP (RR:=λacc C=>compPost (model X.prog X.w) X.A X.xe none (EP X pins σ Q) acc C) S hc I2 T st2 f2 hg he W w0 turn
  λC H' s' m _ hm _ _ hback q=>⟨m,hm,λh' hs'=>⟨.ref s2.heap.objs.size,H',hback h' hs',rfl,q⟩⟩
theorem aGa {i:Nat} {x:Str} {elt iter tg:Expr} {scope:Scope} {own:List Str} {cap:List (Str×Nat)} {cl:List (Str×Addr)} {pos spos py:Pos} {wi:TI} {g:TG} {te:TE}
  (hN:X.N.Nodup) (hi':X.N[i]? =some x) (hx:Loc X.env.scope x) (S:iG X scope cap cl) (hc:X.calm=true) (hi:PI X tg iter wi)
  (hg:∀C s2 H2 fp,PG (bV X (eO own cap) scope cl C s2 H2 fp) tg g) (he:∀C s2 H2 fp,PE (bV X (eO own cap) scope cl C s2 H2 fp) elt te)
  (hsw:swapsWith (.ListComp elt [⟨tg,iter,[],0⟩] scope pos) (some (.Name x py)) spos.line X.env=pure true:=by rfl)
  (hs:∀x,foldedSetIterable iter X.env x=pure x:=by intro _;rfl) (hf:X.fn x=true∨X.env.scope.names.lookup x=some .local:=by first|exact .inl rfl|exact .inr rfl|assumption):
  PS X (.Assign [.Name x py] (.ListComp elt [⟨tg,iter,[],0⟩] scope pos) spos) (aPi (aBg own.length cap wi g te) (uB i)):=by
 intro pins s σ H D I h;rw [exec_Assign_Name_used _ _ _ _ hsw];refine Aa (Iy (Aa ?_));show wpAny _ X.A (do let _<-comprehension (.ListComp elt [⟨tg,iter,[],0⟩] scope pos) scope X.env _ (newList []) false (eval iter X.env) (some (assign (.Name x py) X.env))) _ _ s;refine Aa (Cq (Ip (use:=some (assign (.Name x py) X.env)) (Q:=λ_ s'=>SP X pins D .next s') rfl hs S.clos S.kind S.names
  (thn (hi pins s σ H _ I h) λv s1 h1=>thn h1 λitv s2 h2=>?_)) (λ_ s' hq=>Ad (Ad hq)) λ_ _ e=>e)
 obtain⟨it,fp,tn,J,H2,e,I2,T,st2,f2,rd⟩:=h2;subst e;obtain⟨W,w0,turn⟩:=rd _ (I2.hok.fresh (Am _));refine yP (Q:=λx H1=>uB i x σ H1 D.nx) (RR:=λacc C=>compPost (model X.prog X.w) X.A X.xe (some (assign (.Name x py) X.env)) (λ_ s'=>SP X pins D .next s') acc C) S hc I2 T st2 f2 hg he W w0 turn
  λC H' s' m hCle hm hCn I' hback q=>?_
 refine Rx (aBn (v:= .ref s2.heap.objs.size) I' hN hi' hx rfl (λs'' I'' ⟨a,hsa,ha⟩=>?_) hf);have hCa:C≠a:=by
  rcases ha with z|z
  ·rw [z];exact Di (qJ I2.lt hCle)
  ·obtain⟨v,q'⟩:=I2.cell x a z;exact Di (qJ q'.lt hCle)
 refine⟨m,hm.sameBut hsa hCa,λh' hs'=>⟨_,H',?_,q⟩⟩;have hC0:X.s₀.heap.objs.size<=C:=Co I2.sz hCle;have hnp:∀p∈X.pn++pins,p.1≠C:=λp hp=>qJ (Ao (I2.pin p hp).1) hCle;have hcl:∀y c,X.env.cells.lookup y=some c->c≠C:=λy c e=>by
  obtain⟨v,q'⟩:=I2.cell y c e;exact qJ q'.lt hCle
 have hL:C≠X.env.locals:=Di (qJ I2.lt hCle);exact I''.turned (t':=s''.toks) (it:=C) (λb o hb e=>(hs'.2 b hb).trans e) hCn hL (.inr hC0) hcl hnp
end
section
variable {prog:Program} {w:World} {A:Around} {R:Result->Shared->Prop} {s:Shared}
theorem aA2 {elt target iter c:Expr} {scope:Scope} {pos:Pos} {it acc:Value} {env:Env} (I:Nat->Shared->Prop)
  (turn:∀n s,I n s->wpAny (model prog w) A (pyNext it) (λr s₁=>match r with
   |none=>R (.ok .next) s₁
   |some v=>wpAny (model prog w) A (letOwnedTupleGo target it v) (λ_ s₁'=>wpAny (model prog w) A (assign target env v) (λ_ s₂=>wpAny (model prog w) A (isTrue c env (eval c env)) (λok s₂'=>if ok=true then wpAny (model prog w) A (eval elt env) (λx s₃=>
     wpAny (model prog w) A (call (.builtin "list.append") [acc,x]) (λ_ s₄=>∃m,m<n/\I m s₄) (λ_ _=>False) s₃) (λ_ _=>False) s₂' else∃m,m<n/\I m s₂') (λ_ _=>False) s₂) (λ_ _=>False) s₁') (λ_ _=>False) s₁) (λ_ _=>False) s)
  (n:Nat) (h:I n s):
  codeAny (model prog w) A (.compLoop (.ListComp elt [⟨target,iter,[c],0⟩] scope pos) 0 it acc env) R s:=by
 refine codeAny_loop rfl I (λn s hI=>?_) n h;show wpAny _ _ ((compTurn (.ListComp elt [⟨target,iter,[c],0⟩] scope pos) 0 it acc env).onRaise (λx=>do noteFrame x env;theTreesLotGoes x)) _ _ s;refine wpAny_noted ?_;rw [compTurn_list];refine Aa (Iy (Aa (Cq (turn n s hI) (λr s₁ h₁=>?_) λ_ _ h'=>h'.elim)));cases r with
 |none=>exact Ad h₁
 |some v=>
  refine Aa (Cq h₁ (λ_ s₁' h₁'=>?_) λ_ _ h'=>h'.elim);refine Aa (Cq h₁' (λ_ s₂ h₂=>?_) λ_ _ h'=>h'.elim);refine Aa (wpAny_tests_one (Cq h₂ (λokb s₃ h₃=>?_) λ_ _ h'=>h'.elim));cases okb with
  |false=>exact Ad ⟨rfl,h₃⟩
  |true=>exact Aa (Aa (Cq h₃ (λx s₄ h₄=>Aa (Cq h₄ (λ_ s₅ h₅=>Ad (Ad ⟨rfl,h₅⟩)) λ_ _ h'=>h'.elim)) λ_ _ h'=>h'.elim))
end
def aUb (J:It) (D:Addr) (g:TG) (tc:TT) (te:TE) (Q:VK) (σ:St) (H:Hp):Prop:=∃W:Nat->Nat->St->Hp->Prop,
 (∃m,W 0 m σ H)/\∀i m σc H2,W i m σc H2->
  (J.stop i H2/\Q (.ref D) H2)∨(J.go i H2/\∀x H3,J.yld i H2 x H3->g x σc H3 λσ4 H4=>tc σ4 H4 λok H4'=>if ok=true then te σ4 H4' λy H5=>∃ys,H5 D=some (.lst ys)/\ys.length<sizeLine/\∃m',m'<m/\W (i+1) m' σ4 (upd H5 D (.lst (ys++[y])))else∃m',m'<m/\W (i+1) m' σ4 H4')
def aGc (no:Nat) (cap:List (Str×Nat)) (wi:TI) (g:TG) (tc:TT) (te:TE):TE:=λσ H Q=>wi σ H λJ H1=>∀D,H1 D=none->aUb J D g tc te Q (jQ no cap σ) (upd H1 D (.lst []))
section
variable {X:Cx} {pins:List (Addr×Obj)} {σ:St} {s2:Shared} {H2:Hp}
theorem aE3 {elt iter tg ci:Expr} {scope:Scope} {own:List Str} {cap:List (Str×Nat)} {cl:List (Str×Addr)} {pos:Pos} {J:It} {fp:List Addr} {it:Addr} {tn:Nat->Heap->Prop} {g:TG} {tc:TT} {te:TE} {Q:VK}
  (S:iG X scope cap cl) (hc:X.calm=true) (I:Inv X pins σ H2 s2) (T:Turn X.prog X.w X.K tg J fp it tn) (st:tn 0 s2.heap) (hf:∀b∈fp,aA5 X pins H2 b)
  (hg:∀C s2 H2 fp,PG (bV X (eO own cap) scope cl C s2 H2 fp) tg g) (htc:∀C s2 H2 fp,PT (bV X (eO own cap) scope cl C s2 H2 fp) ci tc) (he:∀C s2 H2 fp,PE (bV X (eO own cap) scope cl C s2 H2 fp) elt te)
  (W:Nat->Nat->St->Hp->Prop) (w0:∃m,W 0 m (jQ own.length cap σ) (upd H2 s2.heap.objs.size (.lst [])))
  (turn:∀i m σc H3,W i m σc H3->(J.stop i H3/\Q (.ref s2.heap.objs.size) H3)∨(J.go i H3/\∀x H4,J.yld i H3 x H4->g x σc H4 λσ5 H5=>tc σ5 H5 λok H5'=>if ok=true then te σ5 H5' λy H6=>∃ys,H6 s2.heap.objs.size=some (.lst ys)/\ys.length<sizeLine/\∃m',m'<m/\W (i+1) m' σ5 (upd H6 s2.heap.objs.size (.lst (ys++[y])))else∃m',m'<m/\W (i+1) m' σ5 H5'))
  {RR:Value->Addr->Result->Shared->Prop}
  (hRR:∀C H' s' m,s2.heap.objs.size<=C->s'.heap.Ns C m->H' C=none->Inv X pins σ H' s'->(∀h',Cw C s'.heap h'->Inv X pins σ H' {s' with heap:=h'})->Q (.ref s2.heap.objs.size) H'->RR (.ref s2.heap.objs.size) C (.ok .next) s')
  {E:Value->Shared->Prop}:
  wpAny (model X.prog X.w) X.A (newList []) (λacc s₃=>wpAny (model X.prog X.w) X.A (newFunctionEnv scope X.env.globals cl [] X.env.qual none .none (some X.env)) (λcenv s₄=>
   codeAny (model X.prog X.w) X.A (.compStart (.ListComp elt [⟨tg,iter,[ci],0⟩] scope pos) 0 (.ref it) acc {cenv with scope:=relabel scope X.env}) (RR acc cenv.locals) s₄) E s₃) E s2:=by
 refine Cv (Qn S.nocell (by intro y hy;simp at hy) (λh₁ hns₁ hsb₁=>?_) S.kind);dsimp only at hns₁ hsb₁⊢;generalize hH2:s2.heap.push {cls:= .type "list",dict:=none,data:= .seq ([]:List Value).toArray}=G2 at hns₁ hsb₁⊢;have hC:G2.objs.size=s2.heap.objs.size+1:=by rw [<-hH2,Dj]
 have hDC:s2.heap.objs.size≠G2.objs.size:=by rw [hC];exact Ax (Dx _)
 have hCle:s2.heap.objs.size<=G2.objs.size:=by rw [hC];exact Fu _
 have below:∀b,b<s2.heap.objs.size->b≠G2.objs.size/\b≠s2.heap.objs.size:=λb hb=>⟨by rw [hC];exact Ax (Eb hb),Ax hb⟩;have old:∀b o,s2.heap.get? b=some o->h₁.get? b=some o:=λb o e=>hsb₁.extBut b o (below b (Ao e)).1 (Ai _ (hH2▸Ai _ e));have hacc:h₁.get? s2.heap.objs.size=some {cls:= .type "list",dict:=none,data:= .seq ([]:List Value).toArray}:=hsb₁.extBut _ _ hDC (Ai _ (hH2▸Ar _ rfl));have hfps:∀b∈fp,b<s2.heap.objs.size:=λb hb=>by
  obtain⟨o,e,_⟩:=T.obj _ _ st b hb;exact Ao e
 have hfree:∀b,s2.heap.objs.size<=b->H2 b=none:=λb hb=>I.hok.fresh hb;generalize hX:bV X (eO own cap) scope cl G2.objs.size s2 H2 fp=X';have hOk:X'.Ok:=by
  subst hX;refine⟨I.ok.mod,S.kind,I.ok.glob,I.ok.blt,hCle,λx y c e1 e2=>I.ok.inj x y c (S.sub x c e1) (S.sub y c e2),λx hx=>?_,λx c z=>absurd (show false=true from z) Aj,I.ok.hd,I.ok.frames,.inl rfl,
   λb hb=>⟨(below b (hfps b hb)).1,λx c e=>(hf b hb).2.2.2.2.1 x c (S.sub x c e)⟩,I.bs,Co I.ok.bsz I.sz,λb o e hb=>?_,λb hb z=>?_,I.stack,I.stkFree⟩
  ·rcases iC (env:=X.env) (names:=scope.names) (x:=x) hx with h|h
   ·exact S.has x h
   ·exact absurd rfl (S.nocell _ (Cz h))
  ·rcases (hf b hb).2.2.2.1 with z|z
   ·exact I.ok.noex b o e z
   ·exact absurd (Bg (Ao e) (Co I.ok.bsz z)) (Ea _)
  ·rcases List.mem_cons.mp (I.stkSub b z)with z|z
   ·exact(hf b hb).2.1 z
   ·exact(hf b hb).2.2.1 z
 have hI0:Inv X' [] (jQ own.length cap σ) (upd H2 s2.heap.objs.size (.lst [])) {s2 with heap:=h₁,toks:=s2.toks+([]:List (Str×Value)).length}:=by
  subst hX;refine⟨hOk,rfl,I.bare,Un.laid old (Am _) (hfree _ (Am _)),⟨_,hns₁,λi x v e1 e2 e3=>?_⟩,λx c e=>?_,?_,λx c e=>?_,λp hp=>absurd (show p∈([]:List (Addr×Obj))from hp) (by simp),?_,?_⟩
  ·obtain⟨p,hp,rfl,hσ⟩:=aCa rfl e1 e2;obtain⟨c1,c2,c3⟩:=S.cap p hp;obtain⟨m,hn,hl⟩:=I.loc;obtain⟨u,r,l⟩:=hl p.2 p.1 v c1 hσ (.inr (.inl c3));refine⟨u,r,.inr ⟨.inl (gG I.ok.kind c2 c3),?_⟩⟩;obtain⟨c,hcl⟩:=S.has _ c2;refine⟨c,hcl,?_⟩;rcases l with ⟨k,_⟩|⟨_,c',e,z⟩
   ·have k':X.env.scope.names.lookup p.1=some .local:=k;rw [c3]at k';cases k'
   ·have:=S.sub _ _ hcl;rw [e]at this;cases this;obtain⟨o,ho,hd⟩:=z;exact⟨o,old _ _ ho,hd⟩
  ·obtain⟨v,o,ho,hd⟩:=I.cell x c (S.sub x c e);exact⟨v,o,old _ _ ho,hd⟩
  ·show upd H2 s2.heap.objs.size (.lst []) G2.objs.size=none;rw [aP (Di hDC)];exact hfree _ hCle
  ·have e':=S.sub x c e;obtain⟨v,o,ho,hd⟩:=I.cell x c e';rw [aP (below c (Ao ho)).2];exact I.freeC x c e'
  ·exact I.hok.laid old (Am _) ⟨Bb _,[],_,.nil,hacc⟩
  ·show(jQ own.length cap σ).length=(eO own cap).length;unfold jQ eO;simp
 have hP:X'.prog=X.prog:=by subst hX;rfl
 have hw:X'.w=X.w:=by subst hX;rfl
 have hK:X'.K=X.K:=by subst hX;rfl
 have hA:X'.A=X.A:=by subst hX;rfl
 have hcalm:X'.calm=true:=by subst hX;exact hc
 have hxe:X'.xe=λ_ _=>False:=by subst hX;rfl
 have henv:X'.env=compEnvC scope cl G2.objs.size X.env:=by subst hX;rfl
 have hbase:∀{σ' H' s'},Inv X' [] σ' H' s'->Un (frs X.stack) fp H2 H' s2.heap s'.heap/\s'.os=s2.os:=λ{σ' H' s'} J=>by subst hX;exact⟨J.base,J.os⟩
 have hg':PG X' tg g:=by subst hX;exact hg _ _ _ _
 have he':PE X' elt te:=by subst hX;exact he _ _ _ _
 have htc':PT X' ci tc:=by subst hX;exact htc _ _ _ _
 have stat:∀{H':Hp},(∀b∈fp,H' b=none)->∀b∈fp,aA5 X' [] H' b:=λ{H'} hn b hb=>by
  subst hX;refine⟨hn b hb,(below b (hfps b hb)).1,λz=>?_,.inl hb,λx c e=>(hf b hb).2.2.2.2.1 x c (S.sub x c e),λp hp=>absurd (show p∈([]:List (Addr×Obj))from hp) (by simp)⟩;rcases List.mem_cons.mp (I.stkSub b z)with z|z
  ·exact(hf b hb).2.1 z
  ·exact(hf b hb).2.2.1 z
 have back:∀{σ' H' s'},Inv X' [] σ' H' s'->Q (.ref s2.heap.objs.size) H'->RR (.ref s2.heap.objs.size) G2.objs.size (.ok .next) s':=λ{σ' H' s'} J q=>by
  obtain⟨u,ho⟩:=hbase J;have hcf:∀b∈fp,(b∈X.ex∨X.s₀.heap.objs.size<=b)/\b≠X.env.locals/\(∀x c,X.env.cells.lookup x=some c->c≠b)/\∀p∈X.pn++pins,p.1≠b:=λb hb=>by
   obtain⟨f0,f1,f2,f3,f4,f5⟩:=hf b hb;exact⟨f3,f1,f4,f5⟩
  have hCn:H' G2.objs.size=none:=by have:=J.free;rw [henv]at this;exact this
  have hok':HOk X.prog X.w H' s'.heap:=by have:=J.hok;rw [hP,hw]at this;exact this
  obtain⟨m,hm,_⟩:=J.loc;rw [henv]at hm;refine hRR _ H' s' m hCle hm hCn (I.call' ho u hok' J.bare hcf) (λh' hs=>?_) q;have kn:∀b o,s2.heap.get? b=some o->h'.get? b=s'.heap.get? b:=λb o e=>hs.2 b (below b (Ao e)).1;refine I.call' (s':={s' with heap:=h'}) ho ⟨λb o e n hb hx=>(kn b o e).trans (u.keep b o e n hb hx),λb o e n hb hx=>?_,u.free,λb o e hx=>?_,u.tups,u.frzs,u.tbls⟩ (λb ob e=>?_) J.bare hcf
  ·obtain⟨sl,e1⟩:=u.slot b o e n hb hx;exact⟨sl,(kn b o e).trans e1⟩
  ·obtain⟨o',e1⟩:=u.there b o e hx;exact⟨o',(kn b o e).trans e1⟩
  ·refine(hok' b ob e).stay (λc w' hc q=>(hs.2 c ?_).trans q) (λ_ q=>q) λ_ _ q=>q;rintro rfl;rcases hc with rfl|hc
   ·rw [hCn]at e;cases e
   ·rw [hCn]at hc;cases hc
 have loop:∀s₃:Shared,s₃={s2 with heap:=h₁,toks:=s2.toks+([]:List (Str×Value)).length}->
   codeAny (model X.prog X.w) X.A (.compLoop (.ListComp elt [⟨tg,iter,[ci],0⟩] scope pos) 0 (.ref it) (.ref s2.heap.objs.size) (compEnvC scope cl G2.objs.size X.env))
    (RR (.ref s2.heap.objs.size) G2.objs.size) s₃:=by
  rintro s₃ rfl;obtain⟨m0,w0⟩:=w0;refine aA2 (λn s'=>∃i σ' H',Inv X' [] σ' H' s'/\tn i s'.heap/\(∀b∈fp,H' b=none)/\W i n σ' H') ?_ m0
   ⟨0,_,_,hI0,T.keep _ _ _ st λb hb o e=>old b o e,λb hb=>?_,w0⟩
  ·rintro n s3 ⟨i,σ3,H3,I3,st3,fr3,w3⟩;rcases turn i n σ3 H3 w3 with ⟨stop,qn⟩|⟨go,step⟩
   ·have d:=T.done X' hP hw hK hcalm i [] s3 σ3 H3 (λ_ _=>False) I3 (stat fr3) st3 stop;rw [hA]at d;refine thn d λr s4 ⟨hr,I4⟩=>?_;subst hr;exact back I4 qn
   ·have d:=T.item X' hP hw hK hcalm i [] s3 σ3 H3 (λ_ _=>False) I3 (stat fr3) st3 go;rw [hA]at d;refine thn d λr s4 ⟨u,hr,h4⟩=>?_;subst hr;refine thn h4 λ_ s5 ⟨x,H5,I5,r5,y5,st5,fr5⟩=>?_;have I5':=I5.pinned (stat fr5) (T.obj _ _ st5);have d2:=hg' _ s5 σ3 H5 x u _ I5' r5 (step x H5 y5);rw [hP,hw,hA,hxe,henv]at d2;refine thn d2 λ_ s6 ⟨σ6,H6,I6,q6⟩=>?_;have dt:=htc' _ s6 σ6 H6 _ I6 q6;rw [hP,hw,hA,hxe,henv]at dt;refine thn dt λokb s6' ⟨H6',I6',q6'⟩=>?_;cases okb with
    |false=>
     obtain⟨m',hm,w7⟩:=q6';refine⟨m',hm,i+1,σ6,H6',I6'.unpinned,T.keep _ _ _ st5 λb hb o e=>(I6'.pin (b,o) (Ba _ (Ba _ (fD hb e)))).1,λb hb=>?_,w7⟩;obtain⟨o,e,d⟩:=T.obj _ _ st5 b hb;exact(I6'.pin (b,o) (Ba _ (Ba _ (fD hb e)))).2.1
    |true=>
    have d3:=he' _ s6' σ6 H6' _ I6' q6';rw [hP,hw,hA,hxe,henv]at d3;refine thn d3 λy7 s7 ⟨v7,H7,I7,r7,ys,e7,l7,m',hm,w7⟩=>?_;have d4:=oG (X:=X') _ s7 σ6 H7 (.ref s2.heap.objs.size) [v7] (.ref s2.heap.objs.size) [y7] (λ_ H8=>W (i+1) m' σ6 H8) I7 rfl (.cons r7 .nil) ⟨_,ys,v7,rfl,rfl,e7,l7,w7⟩;rw [hP,hw,hA,hxe]at d4;refine thn d4 λ_ s8 ⟨v8,H8,I8,_,w8⟩=>?_;refine⟨m',hm,i+1,σ6,H8,I8.unpinned,T.keep _ _ _ st5 λb hb o e=>(I8.pin (b,o) (Ba _ (Ba _ (fD hb e)))).1,λb hb=>?_,w8⟩;obtain⟨o,e,d⟩:=T.obj _ _ st5 b hb;exact(I8.pin (b,o) (Ba _ (Ba _ (fD hb e)))).2.1
  ·rw [aP (below b (hfps b hb)).2];exact(hf b hb).1
 exact Pn (loop _ rfl) (T.self _ 0 _ _ _ (T.keep _ _ _ st λb hb o e=>old b o e) (loop _ rfl))
theorem aNp {elt iter tg ci:Expr} {scope:Scope} {own:List Str} {cap:List (Str×Nat)} {cl:List (Str×Addr)} {pos:Pos} {wi:TI} {g:TG} {tc:TT} {te:TE}
  (S:iG X scope cap cl) (hc:X.calm=true) (hi:PI X tg iter wi)
  (hg:∀C s2 H2 fp,PG (bV X (eO own cap) scope cl C s2 H2 fp) tg g) (htc:∀C s2 H2 fp,PT (bV X (eO own cap) scope cl C s2 H2 fp) ci tc) (he:∀C s2 H2 fp,PE (bV X (eO own cap) scope cl C s2 H2 fp) elt te)
  (hs:∀x,foldedSetIterable iter X.env x=pure x:=by intro _;rfl):PE X (.ListComp elt [⟨tg,iter,[ci],0⟩] scope pos) (aGc own.length cap wi g tc te):=by
 intro pins s σ H Q I h;rw [eval_ListComp];refine Ip (use:=none) rfl hs S.clos S.kind S.names (thn (hi pins s σ H _ I h) λv s1 h1=>thn h1 λitv s2 h2=>?_);obtain⟨it,fp,tn,J,H2,e,I2,T,st2,f2,rd⟩:=h2;subst e;obtain⟨W,w0,turn⟩:=rd _ (I2.hok.fresh (Am _));exact aE3 (RR:=λacc C=>compPost (model X.prog X.w) X.A X.xe none (EP X pins σ Q) acc C) S hc I2 T st2 f2 hg htc he W w0 turn
  λC H' s' m _ hm _ _ hback q=>⟨m,hm,λh' hs'=>⟨.ref s2.heap.objs.size,H',hback h' hs',rfl,q⟩⟩
end
def Ite (K:Ac) (a:Addr):It:=
 ⟨λi H=>∃xs x,SqL K H a xs/\xs[i]? =some x,λi H y H'=>∃p x,H p=none/\y= .ref p/\H'=upd H p (.tup [.int i,x])/\∀xs,SqL K H a xs->xs[i]? =some x,λi H=>∃xs,SqL K H a xs/\xs.length<=i⟩
theorem aKf {P:Program} {w:World} {K:Ac} {es:List Expr} {k:Nat} {pos:Pos} (a e it:Addr) (hei:e≠it):
  Turn P w K (.Tuple es k pos) (Ite K a) [e,it] e (λi h=>(∃old,IsEnum h e it ((i:Nat):Int) old)/\h.IsListIter it a i) where
 mem:=by simp
 obj:=λi h st b hb=>by
  obtain⟨⟨old,he⟩,⟨o,e1,c,d⟩⟩:=st;rcases List.mem_cons.mp hb with rfl|hb
  ·exact⟨_,he,λv z=>by
    have z':Up _=Data.cell v:=z;cases z'⟩
  ·have e2:b=it:=by simpa using hb
   subst e2;exact⟨o,e1,λv z=>by rw [d]at z;cases z⟩
 keep:=λi h h' st k=>by
  obtain⟨⟨old,he⟩,hit⟩:=st;exact⟨⟨old,k e (by simp) _ he⟩,hit.at λo e'=>k it (by simp) o e'⟩
 item:=by
  intro X hP hw hK hc i pins s σ H E I hf st hg;subst hP hw hK;obtain⟨⟨old,he⟩,hit⟩:=st;obtain⟨xs,x,hq,hx⟩:=hg;obtain⟨its,rv,p,hz⟩:=I.list hq;obtain⟨u,hu,ru⟩:=rv.get hx;refine wpAny_pyNext_enum_item he hit p.isList (x:=u) (by simpa using hu) hei λh' heo hit' ht hz' hk=>?_;refine⟨_,rfl,wpAny_letOwnedTupleGo_enum heo λh'' he'' hs''=>?_⟩;have hT:H s.heap.objs.size=none:=I.hok.fresh (Am _);have heT:e≠s.heap.objs.size:=Ax (Ao he);have hfe:=hf e (by simp);have hfi:=hf it (by simp);have keep:∀b o,b≠e->b≠it->s.heap.get? b=some o->h''.get? b=some o:=λb o h1 h2 h3=>(hs''.2 b h1).trans (hk b o h1 h2 h3);have keepc:∀b o,b∉[e,it]->s.heap.get? b=some o->h''.get? b=some o:=λb o h1 h3=>keep b o (λz=>h1 (by simp [z])) (λz=>h1 (by simp [z])) h3;have tup:=(hs''.2 _ (Di heT)).trans ht;have nf:∀b u,H b=some u->b≠e/\b≠it:=λb u q=>⟨λz=>(by rw [z,hfe.1]at q;cases q),λz=>(by rw [z,hfi.1]at q;cases q)⟩;have nT:∀b u,H b=some u->b≠s.heap.objs.size:=λb u q=>aQ q hT;have iti:it≠s.heap.objs.size:=by obtain⟨o,e1,_⟩:=hit;exact Ax (Ao e1)
  refine⟨.ref s.heap.objs.size,upd H s.heap.objs.size (.tup [.int i,x]),?_,rfl,⟨_,x,hT,rfl,rfl,λys hy=>by rw [I.list_inj hy hq];exact hx⟩,⟨⟨_,he''⟩,?_⟩,λb hb=>?_⟩
  ·show Inv X pins σ (upd H s.heap.objs.size (.tup [.int i,x])) {s with heap:=h'',gens:=s.gens,drawn:=s.drawn,toks:=s.toks+1};refine Inv.step (s:=s) (h':=h'') (t':=s.toks+1) (g':=s.gens) (d':=s.drawn) (ch:=[e,it]) I (λb hb=>?_) (λb o _ _ hc' q _=>keepc b o hc' q) (λb o _ _ hc' q _=>⟨o.slots,keepc b o hc' q⟩) (λb o _ q n=>by rw [aP (Ax (Ao q))];exact n)
    (λb o hc' q=>⟨o,keepc b o hc' q⟩) (λb ys q=>by rw [aP (nT b _ q)];exact q) (λb o' ys q=>by rw [aP (nT b _ q)];exact q) (λb ps q=>⟨#[],by rw [aP (nT b _ q),q];simp⟩) (λm hm=>?_) (λb ob q=>?_) I.bare
   ·rcases List.mem_cons.mp hb with rfl|hb
    ·exact⟨hfe.2.2.2.1,hfe.2.1,hfe.2.2.2.2.1,hfe.2.2.2.2.2⟩
    ·have e2:b=it:=by simpa using hb
     subst e2;exact⟨hfi.2.2.2.1,hfi.2.1,hfi.2.2.2.2.1,hfi.2.2.2.2.2⟩
   ·obtain⟨o,es,ep,ho,r⟩:=hm;exact⟨o,es,ep,keep _ o (Di hfe.2.1) (Di hfi.2.1) ho,r⟩
   ·by_cases hb:b=s.heap.objs.size
    ·subst hb;rw [aK]at q;cases q;exact⟨show 2<=sizeLine by decide,[.int i s.toks,u],.cons ⟨_,rfl⟩ (.cons ru .nil),⟨_,tup,rfl,_,rfl⟩⟩
    ·rw [aP hb]at q;refine(I.hok b ob q).stay (λc w' hc' q'=>?_) (λc q'=>by rw [aP (nT c _ q')];exact q') (λc ys q'=>by rw [aP (nT c _ q')];exact q');have hne:c≠e/\c≠it:=by
      rcases hc' with rfl|hc'
      ·exact nf _ _ q
      ·exact nf _ _ hc'
     exact keep c w' hne.1 hne.2 q'
  ·exact hit'.at λo e'=>(hs''.2 it (Di hei)).trans e'
  ·rcases List.mem_cons.mp hb with rfl|hb
   ·rw [aP heT];exact hfe.1
   ·have e2:b=it:=by simpa using hb
    subst e2;rw [aP iti];exact hfi.1
 done:=by
  intro X hP hw hK hc i pins s σ H E I hf st hg;subst hP hw hK;obtain⟨⟨old,he⟩,hit⟩:=st;obtain⟨xs,hq,hx⟩:=hg;obtain⟨its,rv,p,hz⟩:=I.list hq;obtain⟨f0,f1,f2,f3,f4,f5⟩:=hf it (by simp);have hl:=rv.length;exact wpAny_pyNext_enum_end (I.ok.hd hc) he hit p.isList (by simp;omega) λh' eb=>⟨rfl,I.turned (t':=s.toks) (λb o hb q=>eb b o hb q) f0 f1 f3 f4 f5⟩
 self:=λ_ _ _ _ _ st h=>by
  obtain⟨⟨old,he⟩,hit⟩:=st;exact Rw he h
section
variable {X:Cx}
def aVz (K:Ac) (ta:TA):TI:=λσ H R=>ta σ H λvs H1=>∃a,vs=[.ref a]/\(∃xs,SqL K H1 a xs)/\R (Ite K a) H1
theorem aQ0 {es:List Expr} {k:Nat} {pos':Pos} {a:Expr} {ta:TA} {p pos:Pos} (hg:Gl X "enumerate") (hm:X.mg "enumerate"=none) (ha:PA X [a] ta) (hs:starEach [a] X.env=[(false,eval a X.env)]:=by rfl):
  PI X (.Tuple es k pos') (.Call (.Name "enumerate" p) [a] [] pos) (aVz X.K ta):=by
 intro pins s σ H R I h;refine Call_ (sZ I hg hm boot_enumerate (Er (thn (ha pos pins s σ H _ I h) λus s1 ⟨vs,H1,I1,r1,q1⟩=>?_) hs rfl));obtain⟨l,e,⟨xs,hq⟩,q⟩:=q1;subst e;cases r1 with
 |cons r rr=>
  cases rr;cases r;obtain⟨its,rv,pl,hz⟩:=I1.list hq;refine call_enumerate_list pl.isList λh' he hit hz' hk=>Rw he ?_;have I2:Inv X pins σ H1 {s1 with heap:=h'}:=I1.kept (t':=s1.toks) λb o e=>hk b o e;have hne:s1.heap.objs.size+1≠s1.heap.objs.size:=Nat.succ_ne_self _;refine⟨s1.heap.objs.size+1,[s1.heap.objs.size+1,s1.heap.objs.size],_,_,H1,rfl,I2,aKf l _ _ hne,⟨⟨_,he⟩,hit⟩,λb hb=>?_,q⟩;rcases List.mem_cons.mp hb with rfl|hb
  ·exact I1.fpOk (Fu _) (I1.hok.fresh (Fu _))
  ·have e2:b=s1.heap.objs.size:=by simpa using hb
   subst e2;exact I1.fpOk (Am _) (I1.hok.fresh (Am _))
end
section
variable {X:Cx}
theorem wW:eV X (.builtin "isinstance") (λxs H Q=>∃x n t b,xs=[x,.ty n]/\uQ X.K H x t/\Kv X.K t (.type n)=some b/\Q (.bl b) H):=by
 intro pins s σ H xs us Q I r h;obtain⟨x,n,t,b,rfl,ty,e,q⟩:=h;obtain⟨u,w',rfl,ru,rw'⟩:=vals2 r;cases rw';exact aJg I ru ty e λtk=>⟨.bl b,H,I.tok tk,rfl,q⟩
theorem aMr:OpR X (binaryOp .Add) (λx y H Q=>∃a b ys,x= .ref a/\y= .ref b/\SqT X.K H a []/\SqT X.K H b ys/\Q (.ref b) H):=by
 intro pins s σ H x y v u Q I rx ry h;obtain⟨a,b,ys,rfl,rfl,ha,hb,q⟩:=h;cases rx;cases ry;obtain⟨its,r1,p1,_⟩:=I.tuple ha;obtain⟨its2,r2,p2,_⟩:=I.tuple hb;cases r1;obtain⟨⟨cls,dd,data,sl⟩,ho,hc,n,hd⟩:=id p1;obtain⟨⟨cls2,dd2,data2,sl2⟩,ho2,hc2,n2,hd2⟩:=id p2;simp only at hc hd hc2 hd2;subst hc hd hc2 hd2;exact Qb ⟨_,ho,rfl⟩ ⟨_,ho2,rfl⟩ Mj Oy Hz Hv (Hm _ _)
   (tuple_addW0 a b _ _ n n2 dd dd2 sl sl2 (by simp)) ⟨ho,ho2,⟨.ref b,H,I,rfl,q⟩⟩
end
theorem aEw {x:V} (h:jE x=true):eqV x x=true:=by
 cases x<;>first|rfl|exact beq_self_eq_true _|(exact absurd (show false=true from h) Aj)
theorem qC (e:Nat->Bool) (n:Nat):(Bp (n+1)).all e=(e 0 && (Bp n).all λj=>e (j+1)):=by
 rw [Nm,Jw,List.all_map];rfl
section
variable {X:Cx} {pins:List (Addr×Obj)} {σ:St} {H:Hp} {s:Shared} {A:Around}
end
theorem rM (env:Env):∀(names:List (Str×NameKind)) (acc:List (Str×Addr)),(∀y∈names,y.2= .free->∃c,env.cells.lookup y.1=some c)->(∀x c,acc.lookup x=some c->env.cells.lookup x=some c)->
  ∃cl,(forIn names acc (λ(x:Str×NameKind) (cs:List (Str×Addr))=>(if(x.2==Dn)=true then(do let a<-cellOf env x.1;pure (Oo ((x.1,a)::cs)):Sem _)else pure (Oo cs))):Sem (List (Str×Addr)))=pure cl/\
   (∀x c,cl.lookup x=some c->env.cells.lookup x=some c)/\(∀x,(∃c,acc.lookup x=some c)∨(x,Dn)∈names->∃c,cl.lookup x=some c)
 | [],acc,_,h2=>⟨acc,rfl,h2,λx hx=>hx.elim id λz=>(by cases z)⟩
 |(n,k)::r,acc,h1,h2=>by
  by_cases hk:k= .free
  ·subst hk;obtain⟨c,hc⟩:=h1 (n,.free) Af rfl;obtain⟨cl,e,a,b⟩:=rM env r ((n,c)::acc) (λy hy=>h1 y (Ae _ hy)) (λx c' hx=>by
    cases hxn:x==n with
    |true=>
     simp only [Bn,hxn]at hx;have:x=n:=eq_of_beq hxn;subst this;cases hx;exact hc
    |false=>
     simp only [Bn,hxn]at hx;exact h2 x c' hx)
   refine⟨cl,?_,a,λx hx=>b x ?_⟩
   ·rw [<-e,Le];have ec:cellOf env n=pure c:=by unfold cellOf;rw [hc]
    simp only [beq_self_eq_true,if_true,ec];rfl
   ·rcases hx with ⟨c',hx⟩|hx
    ·refine .inl ?_;cases hxn:x==n with
     |true=>exact⟨c,by simp only [Bn,hxn]⟩
     |false=>exact⟨c',by simp only [Bn,hxn];exact hx⟩
    ·rcases List.mem_cons.mp hx with z|z
     ·cases z;exact .inl ⟨c,by simp [Bn]⟩
     ·exact .inr z
  ·obtain⟨cl,e,a,b⟩:=rM env r acc (λy hy=>h1 y (Ae _ hy)) h2;refine⟨cl,?_,a,λx hx=>b x ?_⟩
   ·rw [<-e,Le];have hb:(k==Dn)=false:=by simpa using hk
    simp only [hb,An,if_false];rfl
   ·rcases hx with hx|hx
    ·exact .inl hx
    ·rcases List.mem_cons.mp hx with z|z
     ·cases z;exact absurd rfl hk
     ·exact .inr z
theorem aGz {X:Cx} {scope:Scope} {cap:List (Str×Nat)} (hcell:∀x,X.env.scope.names.lookup x=some .cell->∃c,X.env.cells.lookup x=some c) (kind:scope.kind= .function) (nocell:∀y∈scope.names,y.2≠ .cell)
  (names:∀y∈scope.names,y.2= .local->scope.names.lookup y.1=some .local) (free:∀y∈scope.names,y.2= .free->X.env.scope.names.lookup y.1=some .cell)
  (hcap:∀p∈cap,X.N[p.2]? =some p.1/\scope.names.lookup p.1=some .free/\X.env.scope.names.lookup p.1=some .cell):∃cl,iG X scope cap cl:=by
 obtain⟨cl,e,a,b⟩:=rM X.env scope.names [] (λy hy hf=>hcell _ (free y hy hf)) (λx c h=>by simp at h);refine⟨cl,?_,kind,nocell,names,a,λx hx=>b x (.inr (Cz hx)),hcap⟩;unfold closureFor;refine Eq.trans ?_ e;simp only [bind_pure]
abbrev aRt (n:Nat) (D:Addr) (Pv:Nat->List V->St->Hp->Prop) (i:Nat) (σ:St) (y:V) (H5:Hp):Prop:=
 ∃ys,H5 D=some (.lst ys)/\ys.length<sizeLine/\∃m',m'<n-i/\m'=n-(i+1)/\i+1<=n/\∃acc,Pv (i+1) acc σ (upd H5 D (.lst (ys++[y])))
theorem aXv {n:Nat} {D:Addr} {Pv:Nat->List V->St->Hp->Prop} {i:Nat} {σ:St} {y:V} {H5:Hp} {acc:List V} (h1:H5 D=some (.lst acc)) (h2:acc.length<sizeLine) (hi:i<n) (h3:Pv (i+1) (acc++[y]) σ (upd H5 D (.lst (acc++[y])))):aRt n D Pv i σ y H5:=
 ⟨acc,h1,h2,n-(i+1),by omega,rfl,hi,acc++[y],h3⟩
theorem aNl {K:Ac} {a D:Addr} {xs:List V} {ni:Nat} {te:TE} {Q:VK} {σ:St} {H:Hp} (Pv:Nat->List V->St->Hp->Prop) (h0:Pv 0 [] σ H) (hl:∀i acc σ H,i<=xs.length->Pv i acc σ H->SqT K H a xs)
  (hs:∀i x acc σ H,i<xs.length->xs[i]? =some x->Pv i acc σ H->te (σ.set ni (some x)) H λy H5=>aRt xs.length D Pv i (σ.set ni (some x)) y H5) (hd:∀acc σ H,Pv xs.length acc σ H->Q (.ref D) H):
  aSo (Itt K a) D (uB ni) te Q σ H:=by
 refine⟨λi m σ H=>m=xs.length-i/\i<=xs.length/\∃acc,Pv i acc σ H,⟨xs.length,by simp,Bb _,[],h0⟩,?_⟩;rintro i m σ H ⟨rfl,hi,acc,p⟩;have q:=hl i acc σ H hi p;by_cases hlt:i<xs.length
 ·refine .inr ⟨⟨xs,xs[i],q,by simp [hlt]⟩,λx H' y=>?_⟩;obtain⟨e,y⟩:=y;subst e;exact hs i x acc σ _ hlt (y xs q) p
 ·have e:i=xs.length:=by omega
  subst e;exact .inl ⟨⟨xs,q,Am _⟩,hd acc σ H p⟩
section
variable {X:Cx}
end
section
variable {X:Cx}
theorem aAr:eV X (.builtin "all") (λxs H Q=>∃(p:Addr) (bs:List Bool),xs=[.ref p]/\SqL X.K H p (bs.map V.bl)/\X.calm=true/\Q (.bl (bs.all id)) H):=by
 intro pins s σ H xs us Q I r h;obtain⟨p,bs,rfl,hq,hc,q⟩:=h;obtain⟨u,rfl,ru⟩:=vals1 r;cases ru;obtain⟨its,rv,pl,hz⟩:=I.list hq;have hl:=rv.length;rw [Ab]at hl;refine call_all_walk (Io pl.isList ?_);have hlt:p<s.heap.objs.size:=by obtain⟨o,e,_⟩:=pl.isList;exact Ao e
 have hne:p≠s.heap.objs.size:=Ax hlt;have hd:X.A.in1.handled=none:=I.ok.hd hc;refine⟨s.heap.objs.size,_,_,_,_,_,λi=>bs.getD i true,rfl,Lz hd s.heap.objs.size p hne its.toArray,⟨⟨_,Ar _ rfl,rfl,rfl⟩,pl.isList.push _⟩,λi v s' Q' E' hv hQ=>?_,λh' tk hk=>?_⟩
 ·have hv':its[i]? =some v:=by simpa using hv
  have hi:i<its.length:=(List.getElem?_eq_some_iff.mp hv').1;have hi':i<bs.length:=by omega
  have e1:(bs.map V.bl)[i]? =some (V.bl bs[i]):=by simp [hi']
  obtain⟨u,hu,ru⟩:=rv.get e1;rw [hv']at hu;cases hu;have ru':v=Fq bs[i]:=ru;subst ru';have e2:bs.getD i true=bs[i]:=by simp [hi']
  have hQ':Q' (bs.getD i true) s':=hQ;rw [e2]at hQ';exact Cj hQ'
 ·refine⟨.bl (bs.all id),H,?_,?_,q⟩
  ·exact I.kept (t':=tk) λb o e=>hk b o (by simp;exact Ax (Ao e)) (Ai _ e)
  ·show Fq _=Fq _;congr 1;have e:its.toArray.size=bs.length:=by rw [Ak];omega
   rw [e];have:∀l:List Bool,(Bp l.length).all (λi=>l.getD i true)=l.all id:=by
    intro l;induction l with
    |nil=>rfl
    |cons b l ih=>
     rw [Ag,qC,Jw, <-ih];congr 1
   exact this bs
def aX3 (K:Ac) (te:TE):TE:=λσ H Q=>te σ H λx H1=>∃a xs,x= .ref a/\SqL K H1 a xs/\∀p,H1 p=none->Q (.ref p) (upd H1 p (.lst xs.reverse))
theorem aU4 {e:Expr} {te:TE} {j:Nat} {p2 p3 p4 pos:Pos} (he:PE X e te):PE X (.Subscript e (.Slice none none (some (.UnaryOp .USub (.Constant (.int 1) j p3) p4)) p2) pos) (aX3 X.K te):=by
 intro pins s σ H Q I h;refine Ot (thn (he pins s σ H _ I h) λv s1 ⟨x,H1,I1,r1,q1⟩=>?_);obtain⟨a,xs,rfl,hq,q⟩:=q1;cases r1;refine wpAny_Slice ?_;rw [evalPart_none,evalPart_some];refine Ad (Ad ?_);have hst:PE X (.UnaryOp .USub (.Constant (.int 1) j p3) p4) (tUn (rU λi=> .int (-i)) (tC (.int 1))):=aK7 aHb dI;refine thn (hst pins s1 σ H1 (λy H2=>y= .int (-1)/\H2=H1) I1 ⟨1,rfl,rfl,rfl⟩) λvk s2 ⟨y,H2,I2,r2,e1,e2⟩=>?_;subst e1 e2;obtain⟨tk,rfl⟩:=r2;have I4:Inv X pins σ H2 {s2 with heap:=s2.heap.push {cls:= .type "slice",data:= .fields #[.none,.none,.int (-1) tk]}}:=I2.kept (t':=s2.toks) λb ob q=>Ai _ q;obtain⟨its,r,ht,hz⟩:=I4.list hq;have hlen:=r.length;show wpAny (model X.prog X.w) X.A (subscriptTail e (.Slice none none (some (.UnaryOp .USub (.Constant (.int 1) j p3) p4)) p2) (.ref a) (.ref s2.heap.objs.size)) (EP X pins σ Q) X.xe {s2 with heap:=s2.heap.push {cls:= .type "slice",data:= .fields #[.none,.none,.int (-1) tk]}};refine tail_any (ops:=[.ref a,.ref s2.heap.objs.size]) ht.isList.typeIs slot_list_getitem.lookup ?_ (by with_unfolding_all rfl);refine wpAny_getItem_list_slice ht.isList (Kz ..) .none .none (.int (-1) tk) (by decide) ?_ (by rw [Ak]<;>omega);rw [PySem.W.krv_pick];refine⟨.ref _,_,I4.laid (t':=s2.toks) (o:= .lst xs.reverse) (λb ob q=>Ai _ q) (Am _) ?_,rfl,q _ (I4.hok.fresh (Am _))⟩;exact⟨by rw [List.length_reverse];exact hz,_,0,r.reverse,Ar _ rfl⟩
end
section
variable {X:Cx}
theorem zF:∀{us:List Value} {ns:List Int},IntsAre us ns->Vals (ns.map V.int) us
 |_,_,.nil=> .nil
 |_,_,.cons i t r=> .cons ⟨t,rfl⟩ (zF r)
end
section
variable {X:Cx}
theorem aAm (f:Nat->Int) (ns:List Int) (h:∀j,j<ns.length->f j=ns.getD j 0):∀n,n<=ns.length->preSum f n=(ns.take n).sum
 |0,_=>by simp [preSum]
 |n+1,hn=>by
  show preSum f n+f n=_;rw [aAm f ns h n (by omega),h n hn,Ji];have e:ns[n]? =some (ns.getD n 0):=by simp [show n<ns.length from hn]
  rw [e,He];simp
theorem xF:∀(ns:List Int) (b:Int),(∀n∈ns,0<=n/\n<=b)->0<=b->∀j,0<=(ns.take j).sum/\(ns.take j).sum<=ns.length*b
 | [],b,_,hb,j=>by simp
 |n::ns,b,h,hb,0=>by
  simp;exact Jn (by omega) hb
 |n::ns,b,h,hb,j+1=>by
  have ih:=xF ns b (λm hm=>h m (Ae _ hm)) hb j;have hn:=h n Af;rw [List.take_succ_cons,Fg,Ag];have:((ns.length+1:Nat):Int)*b=ns.length*b+b:=by rw [Je,Ph];simp
  rw [this];omega
inductive aR6 (K:Ac) (xs:List V) (H:Hp) (Q:VK):Prop
 |mk (p:Addr) (ns:List Int) (q0_:xs=[.ref p]) (q1_:SqL K H p (ns.map V.int)) (q2_:ns.length<=1000) (q3_:(∀n∈ns,0<=n/\n<=1000)) (q4_:Q (.int ns.sum) H):aR6 K xs H Q
def aXh (K:Ac):List V->Hp->VK->Prop:=λxs H Q=>aR6 K xs H Q
theorem aO5 (hc:X.calm=true):eV X (.builtin "sum") (aXh X.K):=by
 intro pins s σ H xs us Q I r h;obtain⟨p,ns,rfl,hq,hln,hb,q⟩:=h;obtain⟨u,rfl,ru⟩:=vals1 r;cases ru;obtain⟨its,rv,pl,hz⟩:=I.list hq;have hi:IntsAre its ns:=intsAre_of rv;obtain⟨ys,e⟩:=hi.allInts.items;have hns:ns=ys.toList.map (·.1):=by
  rw [<-hi.numsOf, <-Oz, <-e]
 have hsz:ys.size=ns.length:=by rw [hns,Ab,Ap]
 have hl:=pl.isList;rw [e]at hl;have hat:∀j,j<ns.length->numAt ys j=ns.getD j 0:=λj hj=>by
  rw [Pa,hns]
 have hps:∀n,n<=ns.length->preSum (numAt ys) n=(ns.take n).sum:=aAm _ _ hat;have hsum:=xF ns 1000 hb (by decide);have hbig:(ns.length:Int)*1000<=1000000:=by omega
 refine sum_intList (I.ok.hd hc) hl (λj hj=>⟨?_,?_⟩) λh' tk t' hk=>?_
 ·have hj':j<ns.length:=by omega
  rw [hat j hj'];have:=hb (ns.getD j 0) (by simp [hj']);exact⟨by omega,by omega⟩
 ·rw [hps (j+1) (by omega)];have:=hsum (j+1);exact⟨by omega,by omega⟩
 ·refine⟨.int _,H,I.kept (t':=tk) hk,⟨t',rfl⟩,?_⟩;rw [hsz,hps _ (Am _),Ig];exact q
theorem gather {prog:Program} {w:World} {A:Around} {E:Value->Shared->Prop} {s:Shared} {T:String} {r d:Addr} {n:Nat} {Pj:Nat->Value->Prop} {OK:Heap->Prop} {R:List Value->Shared->Prop} (src:Pq prog w T r d n Pj OK) (calm:A.handled=none) (there:OK s.heap) (fits:n<=sizeLine)
  (k:∀(g:Heap) (tk:Nat) (acc:Array Value),(∀b o,s.heap.get? b=some o->g.get? b=some o)->s.heap.objs.size<g.objs.size->ItemsOf Pj acc n->R acc.toList {s with heap:=g,toks:=tk}):wpAny (model prog w) A (collect (.ref r)) R E s:=by
 have lt:=src.there _ there;unfold collect;refine Aa (Nv (Da entry_proto_collect' ?_));rw [Cc PySem.F.plain_proto_collect _];show wpAny _ A.in1 (newList []>>=λl=>again (.builtin "list.__iadd__" ⟨[l,.ref r],[]⟩)) _ _ s;refine Aa (Cv ?_);refine Ad ⟨Ed Lr _,Da entry_list_iadd' ?_⟩;rw [Cc Lr _];have laid:(s.heap.push {cls:= .type "list",data:= .seq ([]:List Value).toArray}).get? s.heap.objs.size=some {cls:= .type "list",data:= .seq #[]}:=Ar _ rfl;show wpAny _ A.in1 (Gj (.ref s.heap.objs.size) (.ref r) (.ref s.heap.objs.size)) _ _ {s with heap:=s.heap.push {cls:= .type "list",data:= .seq ([]:List Value).toArray}};have done:∀(g:Heap) (tk:Nat) (acc:Array Value) (c:Nat),(∀b o,s.heap.get? b=some o->g.get? b=some o)->g.get? s.heap.objs.size=some {cls:= .type "list",dict:=none,data:= .seq acc c,slots:= #[]}->ItemsOf Pj acc n->R acc.toList {s with heap:=g,toks:=tk}:=λg tk acc c hk hS ha=>k g tk acc hk (Ao hS) ha;have run:=PySem.W.kdl_extend (A:=A) (s:={s with heap:=s.heap.push {cls:= .type "list",data:= .seq ([]:List Value).toArray}}) (R:=λ(q:Result) (s':Shared)=>∃(g:Heap) (tk:Nat) (acc:Array Value) (c:Nat),q= .ok (.ret (.ref s.heap.objs.size))/\s'={s with heap:=g,toks:=tk}/\(∀b o,s.heap.get? b=some o->g.get? b=some o)/\g.get? s.heap.objs.size=some {cls:= .type "list",dict:=none,data:= .seq acc c,slots:= #[]}/\ItemsOf Pj acc n)
  src calm (src.keep _ _ there λb _ o e=>Ai _ e) s.heap.objs.size (Ho lt.1) (Ho lt.2) (.ref s.heap.objs.size) 0 laid (λg tk acc c hk hS ha=>⟨g,tk,acc,c,rfl,rfl,λb o e=>hk b o (Ax (Ao e)) (Ai _ e),hS,ha⟩) fits
 refine Cq run (λfin s' got=>?_) λe s' got=>by obtain⟨_,_,_,_,bad,_⟩:=got;cases bad
 cases fin with
 |done f=>obtain⟨g,tk,acc,c,e,rfl,hk,hS,ha⟩:=got;cases e;show wpAny _ A (load s.heap.objs.size>>=_) _ _ _;exact Aa (Oq hS (Ad (done g tk acc c hk hS ha)))
 |again c1=>exact⟨got.1,Hb got.2 λq s2 y=>by obtain⟨g,tk,acc,c,rfl,rfl,hk,hS,ha⟩:=y;show wpAny _ A (load s.heap.objs.size>>=_) _ _ _;exact Aa (Oq hS (Ad (done g tk acc c hk hS ha)))⟩
end
section
variable {prog:Program} {w:World} {A:Around}
theorem aJ6 (x d:Value):argsOk "max" ⟨[x],[(As "default",d)]⟩:=by
 unfold argsOk
 kernel_rfl
def aUl (num:Nat->Int) (P:Nat->Value->Prop) (j:Nat):Option (Nat×Value)->Prop
 |none=>j=0
 |some (i,v)=>i<j/\P i v/\∀t,t<j->num t<=num i
def aIq (o:Option (Nat×Value)):Array Value:=match o with
 |none=> #[]
 |some (_,v)=> #[v,v]
theorem yW {It Bx:Addr} {fp wr:List Addr} {n:Nat} {P:Nat->Value->Prop} {St:Nat->Heap->Prop} {R:Result->Shared->Prop} {d:Value} {num:Nat->Int} (W:Walks prog w A.in1 It fp wr n P St) (cm:CmpOf prog w A.in1 .Gt P (λi j=>decide (num i>num j))) (apart:Bx∉fp):
  ∀(k j:Nat) (s:Shared) (o:Option (Nat×Value)) (c:Nat),n=j+k->St j s.heap->aUl num P j o->s.heap.get? Bx=some {cls:= .type "list",dict:=none,data:= .seq (aIq o) c,slots:= #[]}->
   (∀v h' tk,(n=0/\v=d∨∃o',o'=some v/\∃i,aUl num P n (some (i,v)))->(∀b ob,b∉wr->b≠Bx->s.heap.get? b=some ob->h'.get? b=some ob)->R (.ok (.ret v)) {s with heap:=h',toks:=tk})->
   codeAny (model prog w) A (.builtin "max.loop" ⟨[.ref It,.none,.ref Bx],[("default",d)]⟩) R s
 |0,j,s,o,c,en,at_,top,hS,fin=>by
  have outw:Bx∉wr:=λz=>apart (W.sub _ z);cases en;refine Da Rr ?_;rw [Cc Fz _];show wpAny _ A.in1 (seqItems? (.ref Bx)>>=_) _ _ s;refine Aa (Fb hS rfl ?_);show wpAny _ A.in1 (tryCatch (pyNext (.ref It)) _>>=_) _ _ s;refine Aa (Nu (W.done s _ _ at_ λh' tk kept=>?_));have hS2:=kept Bx _ outw hS;cases o with
  |none=>
   have z:j=0:=top;show wpAny _ A.in1 (rule _>>=_) _ _ _;exact Aa (Ju (Ad (fin d h' tk (.inl ⟨z,rfl⟩) λb ob h1 _ h3=>kept b ob h1 h3)))
  |some q=>
   show wpAny _ A.in1 (updateSeq Bx (λ_=> #[])>>=_) _ _ _;refine Aa (Hs (hz:=by show 2<=sizeLine;decide) hS2 rfl (Aa (Nd (Ad (fin q.2 _ tk (.inr ⟨_,rfl,q.1,top⟩) λb ob h1 h2 h3=>?_)))));exact(Cy _ _ (Di h2)).trans (kept b ob h1 h3)
 |k+1,j,s,o,c,en,at_,top,hS,fin=>by
  have outw:Bx∉wr:=λz=>apart (W.sub _ z);have more:j<n:=by omega
  have nm:(toString "max"++toString ".loop":String)="max.loop":=by decide
  refine Da Rr ?_;rw [Cc Fz _];show wpAny _ A.in1 (seqItems? (.ref Bx)>>=_) _ _ s;refine Aa (Fb hS rfl ?_);show wpAny _ A.in1 (tryCatch (pyNext (.ref It)) _>>=_) _ _ s;refine Aa (Nu (W.item j s _ _ more at_ λv h' tk pv at2 kept=>?_));have hS2:=kept Bx _ outw hS;have step:∀(o2:Option (Nat×Value)) (c2:Nat) (h2:Heap) (t2:Nat),aUl num P (j+1) o2->h2.get? Bx=some {cls:= .type "list",dict:=none,data:= .seq (aIq o2) c2,slots:= #[]}->(∀b ob,b≠Bx->h'.get? b=some ob->h2.get? b=some ob)->
    codeAny (model prog w) A (.builtin "max.loop" ⟨[.ref It,.none,.ref Bx],[("default",d)]⟩) R {s with heap:=h2,toks:=t2}:=λo2 c2 h2 t2 top2 hS3 k2=>by
   refine yW W cm apart k (j+1) {s with heap:=h2,toks:=t2} o2 c2 (by omega) (W.frame _ _ _ at2 λb hb ob e=>k2 b ob (λz=>apart (z▸hb)) e) top2 hS3 λv3 h3 t3 r3 k3=>?_;exact fin v3 h3 t3 r3 λb ob a1 a2 a3=>k3 b ob a1 a2 (k2 b ob a2 (kept b ob a1 a3))
  cases o with
  |none=>
   have z:j=0:=top;subst z;show wpAny _ A.in1 (updateSeq Bx (λ_=> #[v,v])>>=_) _ _ _;refine Aa (Hs hS2 rfl ?_);rw [nm];refine Ad ⟨Ed Fz _,step (some (0,v)) _ _ _ ⟨Pe,pv,λt ht=>?_⟩ (Bz _ hS2 rfl) λb ob hb e=>(Cy _ _ (Di hb)).trans e⟩;have:t=0:=by omega
   subst this;exact Lu _
  |some q=>
   obtain⟨i,vb⟩:=q;obtain⟨hi,pb,best⟩:=top;show wpAny _ A.in1 (tryCatch (holding [v,v] (richCompare .Gt v vb>>=_)) _>>=_) _ _ _;refine Aa (Nu (Ca (Aa (cm j i v vb _ _ _ pv pb ?_))));refine Aa (Ca (Cj (Aa (Nd (Ad ?_)))));dsimp only;by_cases hb:num j>num i
   ·rw [decide_eq_true hb,if_pos rfl];refine Aa (Hs (hz:=by show 2<=sizeLine;decide) hS2 rfl (Aa (Nd ?_)));rw [nm];refine Ad ⟨Ed Fz _,step (some (j,v)) _ _ _ ⟨Dx j,pv,λt ht=>?_⟩ (Bz _ hS2 rfl) λb ob hb e=>(Cy _ _ (Di hb)).trans e⟩;by_cases ht2:t<j
    ·have:=best t ht2;omega
    ·have:t=j:=by omega
     subst this;exact Lu _
   ·rw [decide_eq_false hb,if_neg Aj];refine Aa (Nd ?_);rw [nm];refine Ad ⟨Ed Fz _,step (some (i,vb)) _ _ _ ⟨by omega,pb,λt ht=>?_⟩ hS2 λb ob _ e=>e⟩;by_cases ht2:t<j
    ·exact best t ht2
    ·have:t=j:=by omega
     subst this;omega
end
section
variable {prog:Program} {w:World} {A:Around}
end
def aK4 (X:Cx) (f:Value) (ks:List Str) (r:List V->List V->Hp->VK->Prop):Prop:=
 ∀(pins:List (Addr×Obj)) (s:Shared) (σ:St) (H:Hp) (xs ys:List V) (us ws:List Value) (Q:VK),Inv X pins σ H s->Vals xs us->Vals ys ws->r xs ys H Q->wpAny (model X.prog X.w) X.A (call f us (ks.zip ws)) (EP X pins σ Q) X.xe s
def aYo (r:List V->List V->Hp->VK->Prop) (t tk:TA):TE:=λσ H Q=>t σ H λxs H1=>tk σ H1 λys H2=>r xs ys H2 Q
theorem aI5 {X:Cx} {x:Str} {id:String} {ks:List Str} {r:List V->List V->Hp->VK->Prop} {e:Expr} {es:List Expr} {kws:List Keyword} {t tk:TA} {p pos:Pos} (hc:aK4 X (.builtin id) ks r) (hg:Gl X x) (hm:X.mg x=none) (hv:bootBuiltins x=some (.builtin id)) (ha:PA X (e::es) t) (hkw:PK X kws tk)
  (hall:(backToKw pos (keywordEach kws X.env)).all (·.1.isSome)=true:=by rfl) (hks:(backToKw pos (keywordEach kws X.env)).filterMap (·.1)=ks:=by rfl) (hn:x≠"__name__":=by decide) (hdb:(x==("__debug__":Str))=false:=by decide)
  (he:starEach (e::es) X.env=(false,eval e X.env)::starEach es X.env:=by rfl) (hpl:(backTo pos (starEach (e::es) X.env)).any (·.1)=false:=by rfl) (hpk:(backToKw pos (keywordEach kws X.env)).any (·.1.isNone)=false:=by rfl):PE X (.Call (.Name x p) (e::es) kws pos) (aYo r t tk):=by
 intro pins s σ H Q I h;refine Gm (sZ I hg hm hv ?_ hn hdb);refine Uc (thn (ha pos pins s σ H _ I h) λus s1 ⟨vs,H1,I1,r1,q1⟩=>?_) (by rw [he];rfl) hpl hall hpk;refine thn (hkw pos pins s1 σ H1 _ I1 q1) λws s2 ⟨zs,H2,I2,rz,q2⟩=>?_;rw [hks];exact hc pins s2 σ H2 vs zs us ws Q I2 r1 rz q2
def aXr (K:Ac):List V->List V->Hp->VK->Prop:=λxs ys H Q=>∃p ns d,xs=[.ref p]/\ys=[d]/\SqL K H p (ns.map V.int)/\(ns=[]->Q d H)/\∀m:Int,m∈ns->(∀a∈ns,a<=m)->Q (.int m) H
theorem aJe {X:Cx} (hc:X.calm=true):aK4 X (.builtin "max") ["default"] (aXr X.K):=by
 intro pins s σ H xs ys us ws Q I r rk h;obtain⟨p,ns,d,rfl,rfl,hq,q0,q1⟩:=h;obtain⟨u,rfl,ru⟩:=vals1 r;obtain⟨dv,rfl,rd⟩:=vals1 rk;cases ru;obtain⟨its,rv,pl,hz⟩:=I.list hq;have hi:IntsAre its ns:=intsAre_of rv;obtain⟨ys,e⟩:=hi.allInts.items;have hns:ns=ys.toList.map (·.1):=by rw [<-hi.numsOf, <-Oz, <-e]
 have hl:=pl.isList;rw [e]at hl;have nm:(toString "max"++toString ".loop":String)="max.loop":=by decide
 refine kmb_tree F.kind_max F.plain_max F.entry_max (aJ6 _ _) ?_;show wpAny _ X.A.in1 (Iw "max" ["key","default"] 0 ⟨[],[(As "default",dv)]⟩>>=_) _ _ s;refine Aa (Nb (show Iw "max" ["key","default"] 0 ⟨[],[(As "default",dv)]⟩=pure [none,some dv] by rfl) (Aa (Ad ?_)));refine Aa (iter_intList hl λs₂ es st hfp hlI=>?_);refine Aa (Cv ?_);have apart:s₂.heap.objs.size∉[s.heap.objs.size,p]:=λz=>Ea _ (hfp _ z);rw [nm];have W:=Lz (prog:=X.prog) (w:=X.w) (A:=X.A.in1) (I.ok.hd hc) s.heap.objs.size p hlI (intItems ys);refine Ad ⟨Ed Fz _,yW W (CmpOf.ints_gt (numAt ys) (λ_ _=>Qv)) apart _ 0 _ none _ (by rw [Jc]) (W.frame _ _ _ st λb _ o eb=>Ai _ eb) rfl (Ar _ rfl) λv h' tk res kept=>?_⟩;subst es;have old:∀b o,s.heap.get? b=some o->h'.get? b=some o:=λb o eb=>by
  have lt:=Ao eb;refine kept b o (λz=>?_) (λz=>?_) (Ai _ (Ai _ eb))
  ·have z':=List.mem_singleton.mp z;exact absurd lt (by rw [z'];exact Ea _)
  ·rw [Dj]at z;exact absurd lt (by rw [z];exact Nat.not_lt.mpr (Fu _))
 rcases res with ⟨n0,rfl⟩|⟨_,_,i,hin,pv,best⟩
 ·refine⟨d,H,I.kept (t':=tk) old,rd,q0 ?_⟩;rw [hns];have:ys.size=0:=by simpa [intItems]using n0
  rw [List.map_eq_nil_iff, <-Ap]at*;exact List.eq_nil_of_length_eq_zero (by rw [Ap];exact this)
 ·obtain⟨t,rfl⟩:=Qv (by simpa [intItems]using pv);have hin':i<ys.size:=by simpa [intItems]using hin
  refine⟨.int _,H,I.kept (t':=tk) old,⟨t,rfl⟩,q1 _ ?_ λa ha=>?_⟩
  ·rw [hns,Pa];exact getD_mem (by rw [Ab,Ap];omega)
  ·rw [hns]at ha;obtain⟨j,hj,rfl⟩:=mem_getD ha;rw [Ab,Ap]at hj;have:=best j (by simpa [intItems]using hj);rw [<-Pa];exact this
inductive D where
 |fl (x:V)
 |tp (l:List D)
 |ls (l:List D)
mutual
def Den (K:Ac) (H:Hp):D->V->Prop
 | .fl x,v=>v=x/\jE x=true
 | .tp l,v=>∃a xs,v= .ref a/\SqT K H a xs/\wD K H l xs
 | .ls l,v=>∃a xs,v= .ref a/\SqL K H a xs/\wD K H l xs
def wD (K:Ac) (H:Hp):List D->List V->Prop
 | [],xs=>xs=[]
 |d::l,xs=>∃x r,xs=x::r/\Den K H d x/\wD K H l r
end
mutual
def D.eq:D->D->Bool
 | .fl x,.fl y=>eqV x y
 | .tp l,.tp m=>D.eqs l m
 | .ls l,.ls m=>D.eqs l m
 |_,_=>false
def D.eqs:List D->List D->Bool
 | [],[]=>true
 |x::l,y::m=>D.eq x y && D.eqs l m
 |_,_=>false
end
mutual
def D.dep:D->Nat
 | .fl _=>0
 | .tp l=>D.deps l+1
 | .ls l=>D.deps l+1
def D.deps:List D->Nat
 | []=>0
 |x::l=>max (D.dep x) (D.deps l)
end
section
variable {X:Cx} {pins:List (Addr×Obj)} {σ:St} {H:Hp} {s:Shared}
theorem Inv.not_both {a:Addr} {xs ys:List V} (I:Inv X pins σ H s) (h:SqL X.K H a xs) (h':SqT X.K H a ys):False:=by
 obtain⟨its,r1,p1,_⟩:=I.list h;obtain⟨its2,r2,p2,_⟩:=I.tuple h';obtain⟨o,ho,hc,_⟩:=p1.isList;obtain⟨o2,ho2,hc2,_⟩:=p2;rw [ho]at ho2;cases ho2;rw [hc]at hc2;simp at hc2
mutual
theorem zN (I:Inv X pins σ H s):∀(d e:D) {v:V},Den X.K H d v->Den X.K H e v->d.eq e=true
 | .fl x,.fl y,v,h,h'=>by
  obtain⟨rfl,f⟩:=h;obtain⟨rfl,_⟩:=h';rw [D.eq];exact aEw f
 | .fl x,.tp m,v,h,h'=>by
  obtain⟨rfl,f⟩:=h;obtain⟨a,xs,rfl,_⟩:=h';exact absurd (show false=true from f) Aj
 | .fl x,.ls m,v,h,h'=>by
  obtain⟨rfl,f⟩:=h;obtain⟨a,xs,rfl,_⟩:=h';exact absurd (show false=true from f) Aj
 | .tp l,.fl x,v,h',h=>by
  obtain⟨rfl,f⟩:=h;obtain⟨a,xs,rfl,_⟩:=h';exact absurd (show false=true from f) Aj
 | .ls l,.fl x,v,h',h=>by
  obtain⟨rfl,f⟩:=h;obtain⟨a,xs,rfl,_⟩:=h';exact absurd (show false=true from f) Aj
 | .tp l,.tp m,v,h,h'=>by
  obtain⟨a,xs,rfl,h1,h2⟩:=h;obtain⟨b,ys,e,h3,h4⟩:=h';cases e;rw [I.tuple_inj h3 h1]at h4;rw [D.eq];exact vY I l m h2 h4
 | .ls l,.ls m,v,h,h'=>by
  obtain⟨a,xs,rfl,h1,h2⟩:=h;obtain⟨b,ys,e,h3,h4⟩:=h';cases e;rw [I.list_inj h3 h1]at h4;rw [D.eq];exact vY I l m h2 h4
 | .tp l,.ls m,v,h,h'=>by
  obtain⟨a,xs,rfl,h1,h2⟩:=h;obtain⟨b,ys,e,h3,h4⟩:=h';cases e;exact(I.not_both h3 h1).elim
 | .ls l,.tp m,v,h,h'=>by
  obtain⟨a,xs,rfl,h1,h2⟩:=h;obtain⟨b,ys,e,h3,h4⟩:=h';cases e;exact(I.not_both h1 h3).elim
theorem vY (I:Inv X pins σ H s):∀(l m:List D) {xs:List V},wD X.K H l xs->wD X.K H m xs->D.eqs l m=true
 | [],[],xs,h,h'=>by rw [D.eqs]
 | [],_::_,xs,h,h'=>by
  obtain⟨x,r,rfl,_⟩:=h';cases (show(x::r)=[]from h)
 |_::_,[],xs,h',h=>by
  obtain⟨x,r,rfl,_⟩:=h';cases (show(x::r)=[]from h)
 |d::l,e::m,xs,h,h'=>by
  obtain⟨x,r,rfl,h1,h2⟩:=h;obtain⟨y,r',q,h3,h4⟩:=h';cases q;rw [D.eqs,zN I d e h1 h3,vY I l m h2 h4];rfl
end
mutual
theorem aL0 (I:Inv X pins σ H s):∀(d e:D) {v v':V} {u u':Value} {A:Around},RelV v u->RelV v' u'->Den X.K H d v->Den X.K H e v'->A.units+d.dep+e.dep<cLine->Hu A s u u' (d.eq e)
 | .fl x,.fl y,v,v',u,u',A,r,r',h,h',hu=>by
  obtain⟨rfl,f⟩:=h;obtain⟨rfl,f'⟩:=h';rw [D.eq];exact aMn r r' f f'
 | .fl x,.tp m,v,v',u,u',A,r,r',h,h',hu=>by
  obtain⟨rfl,f⟩:=h;obtain⟨a,xs,rfl,hb,_⟩:=h';cases r';obtain⟨its2,r2,p2,_⟩:=I.tuple hb;rw [show D.eq (.fl v) (.tp m)=false by simp [D.eq]];have hu':A.units<cLine:=by omega
  cases v with
  |non=>cases r;exact SeqAt.EqAt.none_tuple p2 hu'
  |bl c=>cases r;exact SeqAt.EqAt.bool_tuple c p2 hu'
  |int c=>obtain⟨t,rfl⟩:=r;exact SeqAt.EqAt.int_tuple c t p2 hu'
  |str c=>obtain⟨t,rfl⟩:=r;exact SeqAt.EqAt.str_tuple c t p2 hu'
  |_=>exact absurd (show false=true from f) Aj
 | .fl x,.ls m,v,v',u,u',A,r,r',h,h',hu=>by
  obtain⟨rfl,f⟩:=h;obtain⟨a,xs,rfl,hb,_⟩:=h';cases r';obtain⟨its2,r2,p2,_⟩:=I.list hb;rw [show D.eq (.fl v) (.ls m)=false by simp [D.eq]];have hu':A.units<cLine:=by omega
  cases v with
  |non=>cases r;exact SeqAt.EqAt.none_list p2.isList hu'
  |bl c=>cases r;exact SeqAt.EqAt.bool_list c p2.isList hu'
  |int c=>obtain⟨t,rfl⟩:=r;exact SeqAt.EqAt.int_list c t p2.isList hu'
  |str c=>obtain⟨t,rfl⟩:=r;exact SeqAt.EqAt.str_list c t p2.isList hu'
  |_=>exact absurd (show false=true from f) Aj
 | .tp l,.fl x,v',v,u',u,A,r',r,h',h,hu=>by
  obtain⟨rfl,f⟩:=h;obtain⟨a,xs,rfl,hb,_⟩:=h';cases r';obtain⟨its2,r2,p2,_⟩:=I.tuple hb;rw [show D.eq (.tp l) (.fl v)=false by simp [D.eq]];have hu':A.units<cLine:=by omega
  cases v with
  |non=>cases r;exact SeqAt.EqAt.tuple_none p2 hu'
  |bl c=>cases r;exact SeqAt.EqAt.tuple_bool c p2 hu'
  |int c=>obtain⟨t,rfl⟩:=r;exact SeqAt.EqAt.tuple_int c t p2 hu'
  |str c=>obtain⟨t,rfl⟩:=r;exact SeqAt.EqAt.tuple_str c t p2 hu'
  |_=>exact absurd (show false=true from f) Aj
 | .ls l,.fl x,v',v,u',u,A,r',r,h',h,hu=>by
  obtain⟨rfl,f⟩:=h;obtain⟨a,xs,rfl,hb,_⟩:=h';cases r';obtain⟨its2,r2,p2,_⟩:=I.list hb;rw [show D.eq (.ls l) (.fl v)=false by simp [D.eq]];have hu':A.units<cLine:=by omega
  cases v with
  |non=>cases r;exact SeqAt.EqAt.list_none p2.isList hu'
  |bl c=>cases r;exact SeqAt.EqAt.list_bool c p2.isList hu'
  |int c=>obtain⟨t,rfl⟩:=r;exact SeqAt.EqAt.list_int c t p2.isList hu'
  |str c=>obtain⟨t,rfl⟩:=r;exact SeqAt.EqAt.list_str c t p2.isList hu'
  |_=>exact absurd (show false=true from f) Aj
 | .tp l,.ls m,v,v',u,u',A,r,r',h,h',hu=>by
  obtain⟨a,xs,rfl,h1,_⟩:=h;obtain⟨b,ys,rfl,h3,_⟩:=h';cases r;cases r';obtain⟨its,r1,p1,_⟩:=I.tuple h1;obtain⟨its2,r2,p2,_⟩:=I.list h3;rw [show D.eq (.tp l) (.ls m)=false by simp [D.eq]];exact SeqAt.EqAt.tuple_list p1 p2.isList (by omega)
 | .ls l,.tp m,v,v',u,u',A,r,r',h,h',hu=>by
  obtain⟨a,xs,rfl,h1,_⟩:=h;obtain⟨b,ys,rfl,h3,_⟩:=h';cases r;cases r';obtain⟨its,r1,p1,_⟩:=I.list h1;obtain⟨its2,r2,p2,_⟩:=I.tuple h3;rw [show D.eq (.ls l) (.tp m)=false by simp [D.eq]];exact SeqAt.EqAt.list_tuple p1.isList p2 (by omega)
 | .tp l,.tp m,v,v',u,u',A,r,r',h,h',hu=>by
  by_cases hab:v=v'
  ·subst hab;rw [zN I _ _ h h'];rw [show u'=u from by obtain⟨a,xs,rfl,_⟩:=h;cases r;cases r';rfl];exact Jv _
  ·obtain⟨a,xs,rfl,h1,h2⟩:=h;obtain⟨b,ys,rfl,h3,h4⟩:=h';cases r;cases r';obtain⟨its,r1,p1,_⟩:=I.tuple h1;obtain⟨its2,r2,p2,_⟩:=I.tuple h3;rw [D.dep,D.dep]at hu;obtain⟨e,he,ee⟩:=vJ (A:=A.in1) I l m r1 r2 h2 h4 (by show A.units+1+_+_<_;omega);have key:=Mv (A:=A) (s:=s) (l:=a) (b:=b) (items:=its.toArray) (items2:=its2.toArray) (e:=e) p1 p2 (by omega) (λj g1 g2=>by
    have:=he j (by simpa using g1) (by simpa using g2);simpa using this)
   rw [Ak,Ak,ee]at key;rw [D.eq];exact Mm (λz=>hab (by rw [z])) key
 | .ls l,.ls m,v,v',u,u',A,r,r',h,h',hu=>by
  by_cases hab:v=v'
  ·subst hab;rw [zN I _ _ h h'];rw [show u'=u from by obtain⟨a,xs,rfl,_⟩:=h;cases r;cases r';rfl];exact Jv _
  ·obtain⟨a,xs,rfl,h1,h2⟩:=h;obtain⟨b,ys,rfl,h3,h4⟩:=h';cases r;cases r';obtain⟨its,r1,p1,_⟩:=I.list h1;obtain⟨its2,r2,p2,_⟩:=I.list h3;rw [D.dep,D.dep]at hu;obtain⟨e,he,ee⟩:=vJ (A:=A.in1) I l m r1 r2 h2 h4 (by show A.units+1+_+_<_;omega);rw [D.eq];refine Mm (λz=>hab (by rw [z])) ?_;by_cases hz:its.toArray.size=its2.toArray.size
   ·have key:=Nh (A:=A) (s:=s) (l:=a) (b:=b) (items:=its.toArray) (items2:=its2.toArray) (e:=e) p1.isList p2.isList hz (by omega) (λj g1 g2=>by
     have:=he j (by simpa using g1) (by simpa using g2);simpa using this)
    rw [Ak,Ak]at hz;rw [<-hz,Ui,beq_self_eq_true,Rt]at ee;rw [Ak,ee]at key;exact key
   ·have hb':(its.length==its2.length)=false:=by simpa using hz
    rw [hb',Gq]at ee;rw [<-ee];exact SeqAt.RcAt.lists_lengths p1.isList p2.isList (by simpa using hz) (by omega)
theorem vJ (I:Inv X pins σ H s) {A:Around}:∀(l m:List D) {xs ys:List V} {us ws:List Value},Vals xs us->Vals ys ws->wD X.K H l xs->wD X.K H m ys->A.units+D.deps l+D.deps m<cLine->
  ∃e:Nat->Bool,(∀j (h1:j<us.length) (h2:j<ws.length),Hu A s us[j] ws[j] (e j))/\((Bp (min us.length ws.length)).all e && us.length==ws.length)=D.eqs l m
 | [],m,xs,ys,us,ws,r,r',h,h',hu=>by
  cases (show xs=[]from h);cases r;refine⟨λ_=>true,λj h1 _=>absurd h1 (Dk j),?_⟩;cases m with
  |nil=>cases (show ys=[]from h');cases r';rw [D.eqs];rfl
  |cons e m=>
   obtain⟨y,t,rfl,_⟩:=h';cases r';simp [D.eqs]
 |d::l,[],xs,ys,us,ws,r,r',h,h',hu=>by
  obtain⟨x,t,rfl,_⟩:=h;cases (show ys=[]from h');cases r;cases r';exact⟨λ_=>true,λj _ h1=>absurd h1 (Dk j),by simp [D.eqs]⟩
 |d::l,e::m,xs,ys,us,ws,r,r',h,h',hu=>by
  obtain⟨x,t,rfl,h1,h2⟩:=h;obtain⟨y,t',rfl,h3,h4⟩:=h';cases r with
  |@cons _ u0 _ us0 ru rus=>
  cases r' with
  |@cons _ w0 _ ws0 rw0 rws=>
  have hu1:A.units+d.dep+e.dep<cLine:=by
   rw [D.deps,D.deps]at hu;have:=Jd d.dep (D.deps l);have:=Jd e.dep (D.deps m);omega
  have hu2:A.units+D.deps l+D.deps m<cLine:=by
   rw [D.deps,D.deps]at hu;have:=Il d.dep (D.deps l);have:=Il e.dep (D.deps m);omega
  have E0:=aL0 I d e (A:=A) ru rw0 h1 h3 hu1;obtain⟨e',he,ee⟩:=vJ I l m rus rws h2 h4 hu2;refine⟨λj=>match j with|0=>d.eq e|j+1=>e' j,λj g1 g2=>?_,?_⟩
  ·cases j with
   |zero=>exact E0
   |succ j=>exact he j (by simpa using g1) (by simpa using g2)
  ·have hmin:min (u0::us0).length (w0::ws0).length=min us0.length ws0.length+1:=by
    rw [Ag,Ag];omega
   rw [hmin,qC,D.eqs, <-ee];show(d.eq e && (Bp (min us0.length ws0.length)).all e' && _)=_;rw [Bool.and_assoc];congr 2;rw [Eo];simp
end
end
theorem aVe {A:Around} {s:Shared} {y x:V} {u v:Value} (ry:RelV y u) (rx:RelV x v) (fy:jE y=true) (fx:jE x=true):Th A s u v (eqV y x)/\Rn A s u v (!eqV y x):=by
 cases y<;>first|exact absurd (show false=true from fy) Aj|(cases x<;>first|exact absurd (show false=true from fx) Aj|skip)
 all_goals first|obtain⟨t1,rfl⟩:=ry|cases ry
 all_goals first|obtain⟨t2,rfl⟩:=rx|cases rx
 ·exact⟨.none_none,.none_none⟩
 ·exact⟨.none_bool _,.none_bool _⟩
 ·exact⟨.none_int _ _,.none_int _ _⟩
 ·exact⟨.none_str _ _,.none_str _ _⟩
 ·exact⟨.bool_none _,.bool_none _⟩
 ·exact⟨.bool_bool _ _,.bool_bool _ _⟩
 ·exact⟨.bool_int _ _ _,.bool_int _ _ _⟩
 ·exact⟨.bool_str _ _ _,.bool_str _ _ _⟩
 ·exact⟨.int_none _ _,.int_none _ _⟩
 ·exact⟨.int_bool _ _ _,.int_bool _ _ _⟩
 ·exact⟨.int_int _ _ _ _,.int_int _ _ _ _⟩
 ·exact⟨.int_str _ _ _ _,.int_str _ _ _ _⟩
 ·exact⟨.str_none _ _,.str_none _ _⟩
 ·exact⟨.str_bool _ _ _,.str_bool _ _ _⟩
 ·exact⟨.str_int _ _ _ _,.str_int _ _ _ _⟩
 ·exact⟨.str_str _ _ _ _,.str_str _ _ _ _⟩
section
variable {X:Cx} {pins:List (Addr×Obj)} {σ:St} {H:Hp} {s:Shared}
theorem aN4 (I:Inv X pins σ H s) (d e:D) {v v':V} {u u':Value} {A:Around} (r:RelV v u) (r':RelV v' u') (h:Den X.K H d v) (h':Den X.K H e v') (hu:A.units+d.dep+e.dep<cLine):
  Th A s u u' (d.eq e)/\Rn A s u u' (!d.eq e):=by
 have hu':A.units<cLine:=by omega
 match d,e,h,h',hu with
 | .fl x,.fl y,h,h',hu=>
  obtain⟨rfl,f⟩:=h;obtain⟨rfl,f'⟩:=h';rw [D.eq];exact aVe r r' f f'
 | .fl x,.tp m,h,h',hu=>
  obtain⟨rfl,f⟩:=h;obtain⟨a,xs,rfl,hb,_⟩:=h';cases r';obtain⟨its2,r2,p2,_⟩:=I.tuple hb;rw [show D.eq (.fl v) (.tp m)=false by simp [D.eq]];cases v with
  |non=>cases r;exact⟨.none_tuple p2 hu',.none_tuple p2 hu'⟩
  |bl c=>cases r;exact⟨.bool_tuple c p2 hu',.bool_tuple c p2 hu'⟩
  |int c=>obtain⟨t,rfl⟩:=r;exact⟨.int_tuple c t p2 hu',.int_tuple c t p2 hu'⟩
  |str c=>obtain⟨t,rfl⟩:=r;exact⟨.str_tuple c t p2 hu',.str_tuple c t p2 hu'⟩
  |_=>exact absurd (show false=true from f) Aj
 | .fl x,.ls m,h,h',hu=>
  obtain⟨rfl,f⟩:=h;obtain⟨a,xs,rfl,hb,_⟩:=h';cases r';obtain⟨its2,r2,p2,_⟩:=I.list hb;rw [show D.eq (.fl v) (.ls m)=false by simp [D.eq]];have p2:=p2.isList;cases v with
  |non=>cases r;exact⟨.none_list p2 hu',.none_list p2 hu'⟩
  |bl c=>cases r;exact⟨.bool_list c p2 hu',.bool_list c p2 hu'⟩
  |int c=>obtain⟨t,rfl⟩:=r;exact⟨.int_list c t p2 hu',.int_list c t p2 hu'⟩
  |str c=>obtain⟨t,rfl⟩:=r;exact⟨.str_list c t p2 hu',.str_list c t p2 hu'⟩
  |_=>exact absurd (show false=true from f) Aj
 | .tp m,.fl x,h',h,hu=>
  obtain⟨rfl,f⟩:=h;obtain⟨a,xs,rfl,hb,_⟩:=h';cases r;obtain⟨its2,r2,p2,_⟩:=I.tuple hb;rw [show D.eq (.tp m) (.fl v')=false by simp [D.eq]];cases v' with
  |non=>cases r';exact⟨.tuple_none p2 hu',.tuple_none p2 hu'⟩
  |bl c=>cases r';exact⟨.tuple_bool c p2 hu',.tuple_bool c p2 hu'⟩
  |int c=>obtain⟨t,rfl⟩:=r';exact⟨.tuple_int c t p2 hu',.tuple_int c t p2 hu'⟩
  |str c=>obtain⟨t,rfl⟩:=r';exact⟨.tuple_str c t p2 hu',.tuple_str c t p2 hu'⟩
  |_=>exact absurd (show false=true from f) Aj
 | .ls m,.fl x,h',h,hu=>
  obtain⟨rfl,f⟩:=h;obtain⟨a,xs,rfl,hb,_⟩:=h';cases r;obtain⟨its2,r2,p2,_⟩:=I.list hb;rw [show D.eq (.ls m) (.fl v')=false by simp [D.eq]];have p2:=p2.isList;cases v' with
  |non=>cases r';exact⟨.list_none p2 hu',.list_none p2 hu'⟩
  |bl c=>cases r';exact⟨.list_bool c p2 hu',.list_bool c p2 hu'⟩
  |int c=>obtain⟨t,rfl⟩:=r';exact⟨.list_int c t p2 hu',.list_int c t p2 hu'⟩
  |str c=>obtain⟨t,rfl⟩:=r';exact⟨.list_str c t p2 hu',.list_str c t p2 hu'⟩
  |_=>exact absurd (show false=true from f) Aj
 | .tp l,.ls m,h,h',hu=>
  obtain⟨a,xs,rfl,h1,_⟩:=h;obtain⟨b,ys,rfl,h3,_⟩:=h';cases r;cases r';obtain⟨its,r1,p1,_⟩:=I.tuple h1;obtain⟨its2,r2,p2,_⟩:=I.list h3;rw [show D.eq (.tp l) (.ls m)=false by simp [D.eq]];exact⟨.tuple_list p1 p2.isList hu',.tuple_list p1 p2.isList hu'⟩
 | .ls l,.tp m,h,h',hu=>
  obtain⟨a,xs,rfl,h1,_⟩:=h;obtain⟨b,ys,rfl,h3,_⟩:=h';cases r;cases r';obtain⟨its,r1,p1,_⟩:=I.list h1;obtain⟨its2,r2,p2,_⟩:=I.tuple h3;rw [show D.eq (.ls l) (.tp m)=false by simp [D.eq]];exact⟨.list_tuple p1.isList p2 hu',.list_tuple p1.isList p2 hu'⟩
 | .tp l,.tp m,h,h',hu=>
  obtain⟨a,xs,rfl,h1,h2⟩:=h;obtain⟨b,ys,rfl,h3,h4⟩:=h';cases r;cases r';obtain⟨its,r1,p1,_⟩:=I.tuple h1;obtain⟨its2,r2,p2,_⟩:=I.tuple h3;rw [D.dep,D.dep]at hu;obtain⟨e,he,ee⟩:=vJ (A:=A.in1) I l m r1 r2 h2 h4 (by show A.units+1+_+_<_;omega);have hj:∀j (g1:j<its.toArray.size) (g2:j<its2.toArray.size),Hu A.in1 s its.toArray[j] its2.toArray[j] (e j):=λj g1 g2=>by
   have:=he j (by simpa using g1) (by simpa using g2);simpa using this
  have k1:=Mv p1 p2 hu' hj;have k2:=Te p1 p2 hu' hj;rw [Ak,Ak,ee]at k1 k2;rw [D.eq];exact⟨k1,k2⟩
 | .ls l,.ls m,h,h',hu=>
  obtain⟨a,xs,rfl,h1,h2⟩:=h;obtain⟨b,ys,rfl,h3,h4⟩:=h';cases r;cases r';obtain⟨its,r1,p1,_⟩:=I.list h1;obtain⟨its2,r2,p2,_⟩:=I.list h3;rw [D.dep,D.dep]at hu;obtain⟨e,he,ee⟩:=vJ (A:=A.in1) I l m r1 r2 h2 h4 (by show A.units+1+_+_<_;omega);have hj:∀j (g1:j<its.toArray.size) (g2:j<its2.toArray.size),Hu A.in1 s its.toArray[j] its2.toArray[j] (e j):=λj g1 g2=>by
   have:=he j (by simpa using g1) (by simpa using g2);simpa using this
  rw [D.eq];by_cases hz:its.toArray.size=its2.toArray.size
  ·have k1:=Nh p1.isList p2.isList hz hu' hj;have k2:=Tf p1.isList p2.isList hz hu' hj;rw [Ak,Ak]at hz;rw [<-hz,Ui,beq_self_eq_true,Rt]at ee;rw [Ak,ee]at k1 k2;exact⟨k1,k2⟩
  ·have hb':(its.length==its2.length)=false:=by simpa using hz
   rw [hb',Gq]at ee;rw [<-ee];exact⟨.lists_lengths p1.isList p2.isList (by simpa using hz) hu',.lists_lengths p1.isList p2.isList (by simpa using hz) hu'⟩
theorem Den.inj (I:Inv X pins σ H s):∀(d:D) (e:D) {v:V},Den X.K H d v->Den X.K H e v->d=e:=by
 have key:∀(n:Nat) (d e:D) {v:V},d.dep<=n->Den X.K H d v->Den X.K H e v->d=e:=by
  intro n;induction n with
  |zero=>
   intro d e v hn h h';match d,e,h,h',hn with
   | .fl x,.fl y,h,h',_=>rw [<-h.1, <-h'.1]
   | .fl x,.tp m,h,h',_=>obtain⟨rfl,f⟩:=h;obtain⟨a,xs,rfl,_⟩:=h';exact absurd (show false=true from f) Aj
   | .fl x,.ls m,h,h',_=>obtain⟨rfl,f⟩:=h;obtain⟨a,xs,rfl,_⟩:=h';exact absurd (show false=true from f) Aj
   | .tp l,_,_,_,hn=>rw [D.dep]at hn;omega
   | .ls l,_,_,_,hn=>rw [D.dep]at hn;omega
  |succ n ih=>
   have items:∀(l m:List D) {xs:List V},D.deps l<=n->wD X.K H l xs->wD X.K H m xs->l=m:=by
    intro l;induction l with
    |nil=>
     intro m xs _ h h';cases (show xs=[]from h);cases m with
     |nil=>rfl
     |cons e m=>obtain⟨y,t,q,_⟩:=h';cases q
    |cons d l il=>
     intro m xs hn h h';obtain⟨x,t,rfl,h1,h2⟩:=h;cases m with
     |nil=>cases (show(x::t)=[]from h')
     |cons e m=>
      obtain⟨y,t',q,h3,h4⟩:=h';cases q;rw [D.deps]at hn;have a1:=Jd d.dep (D.deps l);have a2:=Il d.dep (D.deps l);rw [ih d e (by omega) h1 h3,il m (by omega) h2 h4]
   intro d e v hn h h';match d,e,h,h',hn with
   | .fl x,.fl y,h,h',_=>rw [<-h.1, <-h'.1]
   | .fl x,.tp m,h,h',_=>obtain⟨rfl,f⟩:=h;obtain⟨a,xs,rfl,_⟩:=h';exact absurd (show false=true from f) Aj
   | .fl x,.ls m,h,h',_=>obtain⟨rfl,f⟩:=h;obtain⟨a,xs,rfl,_⟩:=h';exact absurd (show false=true from f) Aj
   | .tp m,.fl x,h',h,_=>obtain⟨rfl,f⟩:=h;obtain⟨a,xs,rfl,_⟩:=h';exact absurd (show false=true from f) Aj
   | .ls m,.fl x,h',h,_=>obtain⟨rfl,f⟩:=h;obtain⟨a,xs,rfl,_⟩:=h';exact absurd (show false=true from f) Aj
   | .tp l,.ls m,h,h',_=>obtain⟨a,xs,rfl,h1,_⟩:=h;obtain⟨b,ys,e,h3,_⟩:=h';cases e;exact(I.not_both h3 h1).elim
   | .ls l,.tp m,h,h',_=>obtain⟨a,xs,rfl,h1,_⟩:=h;obtain⟨b,ys,e,h3,_⟩:=h';cases e;exact(I.not_both h1 h3).elim
   | .tp l,.tp m,h,h',hn=>
    obtain⟨a,xs,rfl,h1,h2⟩:=h;obtain⟨b,ys,e,h3,h4⟩:=h';cases e;rw [I.tuple_inj h3 h1]at h4;rw [D.dep]at hn;rw [items l m (by omega) h2 h4]
   | .ls l,.ls m,h,h',hn=>
    obtain⟨a,xs,rfl,h1,h2⟩:=h;obtain⟨b,ys,e,h3,h4⟩:=h';cases e;rw [I.list_inj h3 h1]at h4;rw [D.dep]at hn;rw [items l m (by omega) h2 h4]
 exactλd e v h h'=>key _ d e (Am _) h h'
inductive aRn (K:Ac) (neg:Bool) (x:V) (y:V) (H:Hp) (Q:VK):Prop
 |mk (d e:_) (q0_:Den K H d x) (q1_:Den K H e y) (q2_:d.dep+e.dep<=100) (q3_:Q (.bl (if neg then !d.eq e else d.eq e)) H):aRn K neg x y H Q
def aUg (K:Ac) (neg:Bool):R2:=λx y H Q=>aRn K neg x y H Q
theorem lJ (hu:X.A.units+101<cLine):OpR X (compareOp .Eq) (aUg X.K false):=by
 intro pins s σ H x y v u Q I rx ry h;obtain⟨d,e,h1,h2,hd,q⟩:=h;exact(aN4 (A:=X.A) I d e rx ry h1 h2 (by omega)).1 _ _ _ _ ⟨.bl _,H,I,rfl,q⟩
theorem aAb (hu:X.A.units+101<cLine):OpR X (compareOp .NotEq) (aUg X.K true):=by
 intro pins s σ H x y v u Q I rx ry h;obtain⟨d,e,h1,h2,hd,q⟩:=h;exact(aN4 (A:=X.A) I d e rx ry h1 h2 (by omega)).2 _ _ _ _ ⟨.bl _,H,I,rfl,q⟩
inductive aRp (K:Ac) (neg:Bool) (x:V) (y:V) (H:Hp) (Q:VK):Prop
 |mk (d p xs l:_) (q0_:Den K H d x) (q1_:y= .ref p) (q2_:(SqL K H p xs∨SqT K H p xs)) (q3_:wD K H l xs) (q4_:d.dep+D.deps l<=99) (q5_:Q (.bl (if neg then !(l.any λe=>e.eq d)else l.any λe=>e.eq d)) H):aRp K neg x y H Q
def aU6 (K:Ac) (neg:Bool):R2:=λx y H Q=>aRp K neg x y H Q
open Classical in
theorem rP (I:Inv X pins σ H s) {d:D} {x:V} {v:Value} (rx:RelV x v) (hx:Den X.K H d x) {A:Around}:∀{l:List D} {xs:List V} {us:List Value},Vals xs us->wD X.K H l xs->A.units+d.dep+D.deps l<cLine->
  ∃e:Value->Bool,(e=λw=>decide (∃d' x',RelV x' w/\Den X.K H d' x'/\d'.eq d=true))/\(∀w∈us,Hu A s w v (e w))/\us.any e=l.any λe=>e.eq d:=by
 intro l;induction l with
 |nil=>
  intro xs us r h hu;cases (show xs=[]from h);cases r;exact⟨_,rfl,λw hw=>(by cases hw),rfl⟩
 |cons d0 l ih=>
  intro xs us r h hu;obtain⟨x0,t,rfl,h1,h2⟩:=h;cases r with
  |@cons _ u0 _ us0 r0 rr=>
  rw [D.deps]at hu;have a1:=Jd d0.dep (D.deps l);have a2:=Il d0.dep (D.deps l);obtain⟨e,ee,i1,i2⟩:=ih rr h2 (by omega);have e0:e u0=d0.eq d:=by
   rw [ee];by_cases hq:d0.eq d=true
   ·rw [hq];exact decide_eq_true ⟨d0,x0,r0,h1,hq⟩
   ·rw [Bool.not_eq_true]at hq;rw [hq];refine decide_eq_false ?_;rintro⟨d',x',r',h',q'⟩;cases RelV.inj r' r0;rw [Den.inj I d' d0 h' h1,hq]at q';cases q'
  refine⟨e,ee,λw hw=>?_,?_⟩
  ·rcases List.mem_cons.mp hw with rfl|hw
   ·rw [e0];exact aL0 I d0 d r0 rx h1 hx (by omega)
   ·exact i1 w hw
  ·rw [Ds,Ds,i2,e0]
theorem aVf (hu:X.A.units+101<cLine):OpR X (compareOp .In) (aU6 X.K false):=by
 intro pins s σ H x y v u Q I rx ry h;obtain⟨d,p,xs,l,h1,rfl,hq,h2,hd,q⟩:=h;cases ry;rcases hq with hq|hq
 ·obtain⟨its,r,pl,hz⟩:=I.list hq;obtain⟨e,_,i1,i2⟩:=rP (A:=X.A.in1) I rx h1 r h2 (by show X.A.units+1+_+_<_;omega);refine SeqAt.in_listAt e pl.isList (λw hw=>i1 w (by simpa using hw)) ⟨.bl _,H,I,rfl,?_⟩;rw [show its.toArray.any e=its.any e by simp,i2];exact q
 ·obtain⟨its,r,pl,hz⟩:=I.tuple hq;obtain⟨e,_,i1,i2⟩:=rP (A:=X.A.in1) I rx h1 r h2 (by show X.A.units+1+_+_<_;omega);refine SeqAt.in_tupleAt e pl (λw hw=>i1 w (by simpa using hw)) ⟨.bl _,H,I,rfl,?_⟩;rw [show its.toArray.any e=its.any e by simp,i2];exact q
theorem aCc (hu:X.A.units+101<cLine):OpR X (compareOp .NotIn) (aU6 X.K true):=by
 intro pins s σ H x y v u Q I rx ry h;obtain⟨d,p,xs,l,h1,rfl,hq,h2,hd,q⟩:=h;cases ry;rcases hq with hq|hq
 ·obtain⟨its,r,pl,hz⟩:=I.list hq;obtain⟨e,_,i1,i2⟩:=rP (A:=X.A.in1) I rx h1 r h2 (by show X.A.units+1+_+_<_;omega);refine Ou e pl.isList (λw hw=>i1 w (by simpa using hw)) ⟨.bl _,H,I,rfl,?_⟩;rw [show its.toArray.any e=its.any e by simp,i2];exact q
 ·obtain⟨its,r,pl,hz⟩:=I.tuple hq;obtain⟨e,_,i1,i2⟩:=rP (A:=X.A.in1) I rx h1 r h2 (by show X.A.units+1+_+_<_;omega);refine Oe e pl (λw hw=>i1 w (by simpa using hw)) ⟨.bl _,H,I,rfl,?_⟩;rw [show its.toArray.any e=its.any e by simp,i2];exact q
end
mutual
def tL (Av:Addr->Prop) (H:Hp):D->V->Prop
 | .fl x,v=>v=x/\jE x=true
 | .tp l,v=>∃p xs,v= .ref p/\H p=some (.tup xs)/\eG Av H l xs
 | .ls l,v=>∃p xs,v= .ref p/\¬Av p/\H p=some (.lst xs)/\eG Av H l xs
def eG (Av:Addr->Prop) (H:Hp):List D->List V->Prop
 | [],xs=>xs=[]
 |d::l,xs=>∃x r,xs=x::r/\tL Av H d x/\eG Av H l r
end
section
variable {Av:Addr->Prop} {H H':Hp}
mutual
theorem tL.mono (k1:∀b xs,H b=some (.tup xs)->H' b=some (.tup xs)) (k2:∀b xs,¬Av b->H b=some (.lst xs)->H' b=some (.lst xs)):∀(d:D) {v:V},tL Av H d v->tL Av H' d v
 | .fl x,v,h=>h
 | .tp l,v,h=>by
  obtain⟨p,xs,e,hp,t⟩:=h;exact⟨p,xs,e,k1 _ _ hp,eG.mono k1 k2 l t⟩
 | .ls l,v,h=>by
  obtain⟨p,xs,e,n,hp,t⟩:=h;exact⟨p,xs,e,n,k2 _ _ n hp,eG.mono k1 k2 l t⟩
theorem eG.mono (k1:∀b xs,H b=some (.tup xs)->H' b=some (.tup xs)) (k2:∀b xs,¬Av b->H b=some (.lst xs)->H' b=some (.lst xs)):∀(l:List D) {xs:List V},eG Av H l xs->eG Av H' l xs
 | [],xs,h=>h
 |d::l,xs,h=>by
  obtain⟨x,r,e,h1,h2⟩:=h;exact⟨x,r,e,tL.mono k1 k2 d h1,eG.mono k1 k2 l h2⟩
end
mutual
theorem tL.den (K:Ac):∀(d:D) {v:V},tL Av H d v->Den K H d v
 | .fl x,v,h=>h
 | .tp l,v,h=>by
  obtain⟨p,xs,e,hp,t⟩:=h;exact⟨p,xs,e,SqT.of hp,eG.dens K l t⟩
 | .ls l,v,h=>by
  obtain⟨p,xs,e,n,hp,t⟩:=h;exact⟨p,xs,e,SqL.of hp,eG.dens K l t⟩
theorem eG.dens (K:Ac):∀(l:List D) {xs:List V},eG Av H l xs->wD K H l xs
 | [],xs,h=>h
 |d::l,xs,h=>by
  obtain⟨x,r,e,h1,h2⟩:=h;exact⟨x,r,e,tL.den K d h1,eG.dens K l h2⟩
end
mutual
theorem tL.weak {Bv:Addr->Prop} (k:∀b,Bv b->Av b):∀(d:D) {v:V},tL Av H d v->tL Bv H d v
 | .fl x,v,h=>h
 | .tp l,v,h=>by
  obtain⟨p,xs,e,hp,t⟩:=h;exact⟨p,xs,e,hp,eG.weak k l t⟩
 | .ls l,v,h=>by
  obtain⟨p,xs,e,n,hp,t⟩:=h;exact⟨p,xs,e,λz=>n (k p z),hp,eG.weak k l t⟩
theorem eG.weak {Bv:Addr->Prop} (k:∀b,Bv b->Av b):∀(l:List D) {xs:List V},eG Av H l xs->eG Bv H l xs
 | [],xs,h=>h
 |d::l,xs,h=>by
  obtain⟨x,r,e,h1,h2⟩:=h;exact⟨x,r,e,tL.weak k d h1,eG.weak k l h2⟩
end
mutual
theorem tL.refl:∀(d:D) {v:V},tL Av H d v->d.eq d=true
 | .fl x,v,h=>by
  rw [D.eq];exact aEw h.2
 | .tp l,v,h=>by
  obtain⟨p,xs,e,hp,t⟩:=h;rw [D.eq];exact eG.refl l t
 | .ls l,v,h=>by
  obtain⟨p,xs,e,n,hp,t⟩:=h;rw [D.eq];exact eG.refl l t
theorem eG.refl:∀(l:List D) {xs:List V},eG Av H l xs->D.eqs l l=true
 | [],xs,h=>by rw [D.eqs]
 |d::l,xs,h=>by
  obtain⟨x,r,e,h1,h2⟩:=h;rw [D.eqs,tL.refl d h1,eG.refl l h2];rfl
end
end
theorem aTs {H H1:Hp} {p:Addr} {o:HO} (h:H p=none) (e:upd H p o=H1):eU H H1/\H1 p=some o:=by
 subst e;refine⟨λb u q=>?_,aK⟩;rw [aP (aQ q h)];exact q
section
variable {X:Cx} {Av:Addr->Prop}
end
structure Cal (P:Program) (w:World) (K:Ac) (mg:Str->Option Value) (base:Heap) (CX:CXT) (k:Nat) (x:Str) (ps:List Str) (sp:Sp):Prop where
 ex:∃f fd,bB P w K mg base CX k f fd ps sp/\mg x=some (.ref f)/\Fj K (.ref f)=true/\Binds K fd ps []
theorem aT7 {X:Cx} {CX:CXT} {k:Nat} {x:Str} {ps:List Str} {sp:Sp} {E:XK} {e:Expr} {es:List Expr} {t:TA} {p pos:Pos} (C:Cal X.prog X.w X.K X.mg X.base CX k x ps sp) (hr:dN k X.A) (hg:Gl X x) (hx:pN CX X E)
  (ha:PA X (e::es) t) (hdb:(x==("__debug__":Str))=false:=by decide) (he:starEach (e::es) X.env=(false,eval e X.env)::starEach es X.env:=by rfl) (hpl:(backTo pos (starEach es X.env)).any (·.1)=false:=by rfl):
  PE X (.Call (.Name x p) (e::es) [] pos) (aSd sp [] E t):=by
 obtain⟨f,fd,F,hm,hk,hb⟩:=C.ex;exact aQb F hr hg hm hk hb .nil hx ha hdb he hpl
abbrev tO (scope sc0:Scope) (cap:List (Str×Nat)) (N:List Str):Prop:=scope.kind= .function/\(∀y∈scope.names,y.2≠ .cell)/\(∀y∈scope.names,y.2= .local->scope.names.lookup y.1=some .local)/\
 (∀y∈scope.names,y.2= .free->sc0.names.lookup y.1=some .cell)/\(∀p∈cap,N[p.2]? =some p.1/\scope.names.lookup p.1=some .free/\sc0.names.lookup p.1=some .cell)
section
variable {X:Cx}
theorem aO7 {scope:Scope} {cap:List (Str×Nat)} {sc0:Scope} {N0:List Str} (hs:X.env.scope=sc0) (hN:X.N=N0) (hcell:∀x,X.env.scope.names.lookup x=some .cell->∃c,X.env.cells.lookup x=some c) (ok:tO scope sc0 cap N0):∃cl,iG X scope cap cl:=by
 subst hs hN;exact aGz hcell ok.1 ok.2.1 ok.2.2.1 ok.2.2.2.1 ok.2.2.2.2
theorem aRd {elt iter tg:Expr} {scope:Scope} {own:List Str} {cap:List (Str×Nat)} {pos:Pos} {wi:TI} {g:TG} {te:TE} (sc0:Scope) (N0:List Str) (hsc:X.env.scope=sc0) (hN:X.N=N0) (hcell:∀x,X.env.scope.names.lookup x=some .cell->∃c,X.env.cells.lookup x=some c)
  (ok:tO scope sc0 cap N0) (hc:X.calm=true) (hi:PI X tg iter wi)
  (hg:∀cl C s2 H2 fp,PG (bV X (eO own cap) scope cl C s2 H2 fp) tg g) (he:∀cl C s2 H2 fp,PE (bV X (eO own cap) scope cl C s2 H2 fp) elt te)
  (hs:∀x,foldedSetIterable iter X.env x=pure x:=by intro _;rfl):PE X (.ListComp elt [⟨tg,iter,[],0⟩] scope pos) (aBg own.length cap wi g te):=by
 obtain⟨cl,S⟩:=aO7 hsc hN hcell ok;exact aHv S hc hi (hg cl) (he cl) hs
theorem aT9 {elt iter tg ci:Expr} {scope:Scope} {own:List Str} {cap:List (Str×Nat)} {pos:Pos} {wi:TI} {g:TG} {tc:TT} {te:TE} (sc0:Scope) (N0:List Str) (hsc:X.env.scope=sc0) (hN:X.N=N0) (hcell:∀x,X.env.scope.names.lookup x=some .cell->∃c,X.env.cells.lookup x=some c)
  (ok:tO scope sc0 cap N0) (hc:X.calm=true) (hi:PI X tg iter wi)
  (hg:∀cl C s2 H2 fp,PG (bV X (eO own cap) scope cl C s2 H2 fp) tg g) (htc:∀cl C s2 H2 fp,PT (bV X (eO own cap) scope cl C s2 H2 fp) ci tc) (he:∀cl C s2 H2 fp,PE (bV X (eO own cap) scope cl C s2 H2 fp) elt te)
  (hs:∀x,foldedSetIterable iter X.env x=pure x:=by intro _;rfl):PE X (.ListComp elt [⟨tg,iter,[ci],0⟩] scope pos) (aGc own.length cap wi g tc te):=by
 obtain⟨cl,S⟩:=aO7 hsc hN hcell ok;exact aNp S hc hi (hg cl) (htc cl) (he cl) hs
theorem aWf {i:Nat} {x:Str} {elt iter tg:Expr} {scope:Scope} {own:List Str} {cap:List (Str×Nat)} {pos spos py:Pos} {wi:TI} {g:TG} {te:TE} (hnd:X.N.Nodup) (hi':X.N[i]? =some x) (hx:Loc X.env.scope x)
  (sc0:Scope) (N0:List Str) (hsc:X.env.scope=sc0) (hN:X.N=N0) (hcell:∀x,X.env.scope.names.lookup x=some .cell->∃c,X.env.cells.lookup x=some c)
  (ok:tO scope sc0 cap N0) (hc:X.calm=true) (hi:PI X tg iter wi)
  (hg:∀cl C s2 H2 fp,PG (bV X (eO own cap) scope cl C s2 H2 fp) tg g) (he:∀cl C s2 H2 fp,PE (bV X (eO own cap) scope cl C s2 H2 fp) elt te)
  (hsw:swapsWith (.ListComp elt [⟨tg,iter,[],0⟩] scope pos) (some (.Name x py)) spos.line X.env=pure true:=by rfl)
  (hs:∀x,foldedSetIterable iter X.env x=pure x:=by intro _;rfl) (hf:X.fn x=true∨X.env.scope.names.lookup x=some .local:=by first|exact .inl rfl|exact .inr rfl|assumption):
  PS X (.Assign [.Name x py] (.ListComp elt [⟨tg,iter,[],0⟩] scope pos) spos) (aPi (aBg own.length cap wi g te) (uB i)):=by
 obtain⟨cl,S⟩:=aO7 hsc hN hcell ok;exact aGa hnd hi' hx S hc hi (hg cl) (he cl) hsw hs hf
end
section
variable {α:Type} {A B:List (Str×α)} {x:Str} {c:α}
end
section
variable {prog:Program} {w:World} {A:Around} {R:Result->Shared->Prop} {s:Shared}
end
section
variable {X:Cx} {pins:List (Addr×Obj)} {σ:St} {s2:Shared} {H2:Hp}
end
section
variable {X:Cx}
end
abbrev aCq (scope:Scope):Prop:=scope.kind= .function/\∀y∈scope.names,y.2≠ .cell/\y.2≠ .free/\(y.2= .local->scope.names.lookup y.1=some .local)
section
variable {X:Cx}
theorem aSz {scope:Scope} (ok:aCq scope):∃cl,iG X scope [] cl:=by
 obtain⟨k,nm⟩:=ok;obtain⟨cl,e,a,b⟩:=rM X.env scope.names [] (λy hy hf=>((nm y hy).2.1 hf).elim) (λx c h=>by simp at h);refine⟨cl,?_,k,λy hy=>(nm y hy).1,λy hy=>(nm y hy).2.2,a,λx hx=>b x (.inr (Cz hx)),λp hp=>nomatch hp⟩;unfold closureFor;refine Eq.trans ?_ e;simp only [bind_pure]
theorem aVd {elt iter tg:Expr} {scope:Scope} {own:List Str} {pos:Pos} {wi:TI} {g:TG} {te:TE} (ok:aCq scope) (hc:X.calm=true) (hi:PI X tg iter wi)
  (hg:∀cl C s2 H2 fp,PG (bV X (eO own []) scope cl C s2 H2 fp) tg g) (he:∀cl C s2 H2 fp,PE (bV X (eO own []) scope cl C s2 H2 fp) elt te)
  (hs:∀x,foldedSetIterable iter X.env x=pure x:=by intro _;rfl):PE X (.ListComp elt [⟨tg,iter,[],0⟩] scope pos) (aBg own.length [] wi g te):=by
 obtain⟨cl,S⟩:=aSz ok;exact aHv S hc hi (hg cl) (he cl) hs
end
section
variable {X:Cx} {B:St->Hp->Prop} {R:Hp->V->Prop}
end
def aKw (K:Ac):List V->Hp->VK->Prop:=λxs H Q=>∃p ys,xs=[.ref p]/\(SqL K H p ys∨SqT K H p ys)/\∀l,H l=none->Q (.ref l) (upd H l (.lst ys))
def aIc (K:Ac):List V->Hp->VK->Prop:=λxs H Q=>∃p ys,xs=[.ref p]/\((SqL K H p ys/\∀l,H l=none->Q (.ref l) (upd H l (.tup ys)))∨(SqT K H p ys/\Q (.ref p) H))
theorem lY {X:Cx} {K:Ac} (h:X.K=K):eV X (.type "list") (aKw K):=by
 subst h;exact aC8
theorem wN {X:Cx} {K:Ac} (h:X.K=K):eV X (.type "tuple") (aIc K):=by
 subst h;exact sH
section
variable {X:Cx}
def aW6 (_ j:Int):Prop:=0<j/\j<2 ^ 62
theorem aLw:OpR X (binaryOp .FloorDiv) (rI aW6 λi j=> .int (i / j)):=opI λi j _ _ _ _ _ hc q=>by
 have h1:(0:Int)<j:=hc.1;have h2:j<2 ^ 62:=hc.2;refine floordiv_int (by omega) (by rw [Mg i (by omega)];exact q) (.inl (PyProof.noPylong_of_log2 ?_));have h3:j.natAbs<2 ^ 62:=by omega
 have:=(Uy (by omega)).mpr h3;omega
end
section
variable {X:Cx} {K:Ac}
end
def kZ (P:Program) (w:World) (a:Addr) (xs:List ((Int×List Int)×Addr)) (h:Heap):Prop:=∃o es ep t,h.get? a=some o/\o.ExactSet/\o.data= .set es ep t/\es.toList=xs.map (λx=>((gO (intKind P w)).hash x.1,Au x.2))/\t.Good/\t.place.size=es.size/\(xs.map (·.1)).Nodup/\
 (∀(i j:Nat) (x:(Int×List Int)×Addr),t.place[i]? =some j->xs[i]? =some x->SetTable.qH t ((gO (intKind P w)).hash x.1) j)/\t.Small/\t.plain=true/\t.led= !w.params.followText "set-order"
def TKy (H:Hp) (x:List Int×Addr):Prop:=H x.2=some (.tup (x.1.map V.int))
def PKy (H:Hp) (x:(Int×List Int)×Addr):Prop:=∃q,H x.2=some (.tup [.int x.1.1,.ref q])/\TKy H (x.1.2,q)
section
variable {P:Program} {w:World} {H:Hp} {h:Heap} {a:Addr} {s:Shared} {xs:List ((Int×List Int)×Addr)}
theorem kZ.stay (h1 h2:Heap) (p:kZ P w a xs h1) (k:∀o,h1.get? a=some o->h2.get? a=some o):kZ P w a xs h2:=let⟨o,es,ep,t,e,c⟩:=p;⟨o,es,ep,t,k _ e,c⟩
theorem kZ.of (I:kY (gO (intKind P w)) s a (!w.params.followText "set-order") xs):kZ P w a xs s.heap:=by
 obtain⟨o,es,ep,t,S,r1,r2,r3⟩:=I;exact⟨o,es,ep,t,S.ho,S.hex,S.hd,S.he,S.good,S.size,S.nd,S.way,r1,r2,r3⟩
theorem kZ.is (I:kZ P w a xs s.heap) (keys:∀x∈xs,bH (intKind P w) s.heap x.1 x.2):kY (gO (intKind P w)) s a (!w.params.followText "set-order") xs:=by
 obtain⟨o,es,ep,t,a1,a2,a3,a4,a5,a6,a7,a8,r1,r2,r3⟩:=I;exact⟨o,es,ep,t,⟨a1,a2,a3,a4,a5,a6,keys,a7,a8⟩,r1,r2,r3⟩
theorem aJ3 {ns:List Int}:∀{us:List Value},Vals (ns.map V.int) us->ItemsAre (intKind P w) ns us:=by
 induction ns with
 |nil=>intro us r;rw [Du]at r;cases r;exact .nil
 |cons n ns ih=>
  intro us r;rw [Aw]at r;cases r with
  |@cons _ v _ _ r1 t=>
   obtain⟨tk,rfl⟩:=r1;exact .cons (by show Hy n (.int n tk)=true;simp [Hy]) (ih t)
theorem aPy {x:List Int×Addr} (ok:HOk P w H h) (e:TKy H x):IsTupleKey (intKind P w) h x.1 x.2:=by
 obtain⟨_,its,r,o,h1,h2,n,h3⟩:=(show cT P w H h x.2 (.tup (x.1.map V.int))from ok _ _ e);exact⟨o,its.toArray,n,h1,h2,h3,aJ3 r⟩
theorem uP {x:(Int×List Int)×Addr} (ok:HOk P w H h) (e:PKy H x):bH (intKind P w) h x.1 x.2:=by
 obtain⟨q,e1,e2⟩:=e;obtain⟨_,its,r,o,h1,h2,n,h3⟩:=(show cT P w H h x.2 (.tup [.int x.1.1,.ref q])from ok _ _ e1);obtain⟨u,v,rfl,ru,rv⟩:=vals2 r;obtain⟨tk,rfl⟩:=ru;obtain rfl:v=Au q:=rv;exact⟨o,_,q,n,h1,h2,h3,(by show Hy _ (.int _ tk)=true;simp [Hy]),aPy ok e2⟩
end
theorem aAn:∀{ps:List ((Int×List Int)×Addr)} {us:List Value},Vals (ps.map λx=>V.ref x.2) us->us=ps.map λx=>Au x.2
 | [],_,.nil=>rfl
 |_::_,_,.cons (r1:_=Au _) t=>by subst r1;rw [Aw,aAn t]
theorem sW:∀{ps:List ((Int×List Int)×Addr)},Vals (ps.map λx=>V.ref x.2) (ps.map λx=>Au x.2)
 | []=> .nil
 |_::_=> .cons rfl sW
inductive aLm (P:Program) (w:World) (K:Ac) (xs:List V) (H:Hp) (Q:VK):Prop
 |mk (p:Addr) (ps:List ((Int×List Int)×Addr)) (q0_:xs=[.ref p]) (q1_:SqL K H p (ps.map λx=>V.ref x.2)) (q2_:(∀x∈ps,PKy H x)) (q3_:ps.length<=1000) (q4_:(∃ks:List (Int×List Int),ks.length<18/\∀x∈ps,x.1∈ks)) (q5_:∀(l:Addr) (zs:List ((Int×List Int)×Addr)),H l=none->(zs.map (·.1)).Nodup->(∀x∈zs,x∈ps)->(∀x∈ps,∃z∈zs,z.1=x.1)->zs.length<=ps.length->Q (.ref l) (upd H l (.ext (kZ P w l zs)))):aLm P w K xs H Q
def aVp (P:Program) (w:World) (K:Ac):List V->Hp->VK->Prop:=λxs H Q=>aLm P w K xs H Q
inductive aB1 (P:Program) (w:World) (xs:List V) (H:Hp) (Q:VK):Prop
 |mk (p:Addr) (ps:List ((Int×List Int)×Addr)) (q0_:xs=[.ref p]) (q1_:H p=some (.ext (kZ P w p ps))) (q2_:(∀x∈ps,PKy H x)) (q3_:ps.length<64) (q4_:∀(l:Addr) (ys:List ((Int×List Int)×Addr)),H l=none->ys.Perm ps->ys.Pairwise (λx y=>lQ x.1 y.1=true)->Q (.ref l) (upd H l (.lst (ys.map λx=>V.ref x.2)))):aB1 P w xs H Q
def aKy (P:Program) (w:World):List V->Hp->VK->Prop:=λxs H Q=>aB1 P w xs H Q
section
variable {X:Cx}
theorem aJy (hu:X.A.units+20<cLine) (hc:X.calm=true):eV X (.type "set") (aVp X.prog X.w X.K):=by
 intro pins s σ H xs us Q I r h;obtain⟨p,ps,rfl,hq,hk,hln,⟨ks,kl,km⟩,q⟩:=h;obtain⟨u,rfl,ru⟩:=vals1 r;cases ru;obtain⟨its,rv,pl,hz⟩:=I.list hq;have ei:=aAn rv;have hlen:its.length=ps.length:=by rw [ei,Ab]
 have at_:∀i,i<ps.length->ps.getD i ((0,[]),0)∈ps:=λi hi=>by simp [Hh,hi]
 refine aAl (knd:=gO (intKind X.prog X.w)) (items:=its.toArray) (val:=λi=>(ps.getD i ((0,[]),0)).1) (adr:=λi=>(ps.getD i ((0,[]),0)).2) (aNb λk v hv=>?_) (λA' hA=>?_) (I.ok.hd hc) pl.isList (λi v hv=>?_) (λj hj=>?_) (λi xs hi M nd=>?_) λh' tk zs S M hk'=>?_
 ·obtain⟨t,rfl⟩:=Do hv;exact⟨_,_,rfl⟩
 ·show A'.units+1<cLine;omega
 ·have hi:i<its.toArray.size:=(Array.getElem?_eq_some_iff.mp hv).1;rw [Ak,hlen]at hi;rw [Iv,ei]at hv;simp [hi]at hv;rw [<-hv];simp [Hh,hi]
 ·rw [Ak,hlen]at hj;exact uP I.hok (hk _ (at_ j hj))
 ·rw [Ak,hlen]at hi;have:=nd.length_le_of_subset (l₂:=ks) λk hk=>by
   obtain⟨x,hx,rfl⟩:=List.mem_map.mp hk;obtain⟨j,hj,e⟩:=M.from' x hx;rw [e];exact km _ (at_ j (by omega))
  rw [Ab]at this;omega
 ·have kp:∀b o,s.heap.get? b=some o->h'.get? b=some o:=λb o e=>hk' b o (Ao e) e;have so:=kZ.of S;have nd:(zs.map (·.1)).Nodup:=by obtain⟨_,_,_,_,S,_⟩:=S;exact S.nd
  refine⟨.ref s.heap.objs.size,_,I.laid (t':=tk) (o:= .ext (kZ X.prog X.w s.heap.objs.size zs)) kp (Am _) ⟨so,?_,λh1 h2 p k=>kZ.stay h1 h2 p k⟩,rfl,q _ zs (I.hok.fresh (Am _)) nd (λx hx=>?_) (λx hx=>?_) ?_⟩
  ·obtain⟨o,_,_,_,e,_⟩:=so;exact⟨o,e⟩
  ·obtain⟨j,hj,e⟩:=M.from' x hx;rw [Ak,hlen]at hj;rw [e];exact at_ j hj
  ·obtain⟨j,hj,e⟩:=Fs hx;obtain⟨z,hz,ez⟩:=M.all j (by rw [Ak,hlen];exact hj);refine⟨z,hz,?_⟩;rw [ez, <-e];simp [Hh,hj]
  ·have:=M.len;rw [Ak,hlen]at this;exact this
theorem aCn (hu:X.A.units+40<cLine) (hc:X.calm=true):eV X (.builtin "sorted") (aKy X.prog X.w):=by
 intro pins s σ H xs us Q I r h;obtain⟨p,ps,rfl,hp,hk,h64,q⟩:=h;obtain⟨u,rfl,ru⟩:=vals1 r;cases ru;obtain⟨so,_,_⟩:=(show cT X.prog X.w H s.heap p (.ext (kZ X.prog X.w p ps))from I.hok p _ hp);refine aGo (aHq λk v hv=>by obtain⟨t,rfl⟩:=Do hv;exact⟨_,_,rfl⟩) (by omega) (I.ok.hd hc) (so.is λx hx=>uP I.hok (hk x hx)) (λ_ _=>trivial) h64 λh' tk l e ys py hy hl hg kp=>?_;refine⟨.ref l,_,I.laid (t':=tk) (o:= .lst (ys.map λx=>V.ref x.2)) kp hl ⟨?_,_,e,sW,hg⟩,rfl,q l ys (I.hok.fresh hl) py hy⟩;rw [Ab,py.length_eq,Cr];omega
end
def aBx (w:World) (a:Addr) (zs:List Nat) (h:Heap):Prop:=∃o ep tk,h.get? a=some o/\o.ExactSet/\o.data= .set (gA zs tk) ep (vV (!w.params.followText "set-order") zs)/\zs∈fC
def wY (l:List Nat):List V:=l.map λk:Nat=> .int (k:Int)
inductive aLl (w:World) (K:Ac) (xs:List V) (H:Hp) (Q:VK):Prop
 |mk (p:Addr) (ns:List Nat) (q0_:xs=[.ref p]) (q1_:SqL K H p (wY ns)) (q2_:(∀n∈ns,n∈[1,2,3])) (q3_:∀(l:Addr) (zs:List Nat),H l=none->zs∈fC->(∀z,z∈zs↔z∈ns)->Q (.ref l) (upd H l (.ext (aBx w l zs)))):aLl w K xs H Q
def aXn (w:World) (K:Ac):List V->Hp->VK->Prop:=λxs H Q=>aLl w K xs H Q
inductive aBw (w:World) (xs:List V) (H:Hp) (Q:VK):Prop
 |mk (p:Addr) (zs:List Nat) (q0_:xs=[.ref p]) (q1_:H p=some (.ext (aBx w p zs))) (q2_:∀l,H l=none->Q (.ref l) (upd H l (.lst (wY zs)))):aBw w xs H Q
def aM8 (w:World):List V->Hp->VK->Prop:=λxs H Q=>aBw w xs H Q
theorem aBm:∀{ns:List Nat} {us:List Value},Vals (wY ns) us->∀(i:Nat) (v:Value),us[i]? =some v->∃t,v= .int (ns.getD i 0:Nat) t
 | [],_,.nil,i,v,h=>by simp at h
 |n::ns,u::us,.cons r t,0,v,h=>by
  obtain⟨tk,e⟩:=r;have:u=v:=by simpa using h
  exact⟨tk,by rw [<-this,e];rfl⟩
 |n::ns,u::us,.cons r t,i+1,v,h=>by
  have:=aBm t i v (by simpa using h);simpa [Hh]using this
theorem aFb {α β:Type} {f:α->β} {l:List β} {xs:List α} (hp:l.Perm (xs.map f)):∃zs:List α,zs.Perm xs/\l=zs.map f:=by
 generalize hm:xs.map f=m at hp;induction hp generalizing xs with
 |nil=>exact⟨xs,Gf _,hm.symm⟩
 |cons a p ih=>
  match xs,hm with
  |x::xs,hm=>
   obtain⟨e1,e2⟩:=Bs hm;obtain⟨zs,z1,z2⟩:=ih e2;exact⟨x::zs,z1.cons x,by rw [z2, <-e1];rfl⟩
 |swap a b l=>
  match xs,hm with
  |x::y::xs,hm=>
   obtain⟨e1,e2⟩:=Bs hm;obtain⟨e2,e3⟩:=Bs e2;exact⟨y::x::xs,Kh _ _ _,by rw [<-e1, <-e2, <-e3];rfl⟩
 |trans p1 p2 ih1 ih2=>
  obtain⟨zs,z1,z2⟩:=ih2 hm;obtain⟨ys,y1,y2⟩:=ih1 z2.symm;exact⟨ys,y1.trans z1,y2⟩
theorem xG:∀{l m:List Int},l.Perm m->l.Pairwise (·<=·)->m.Pairwise (·<=·)->l=m
 | [],m,h,_,_=>h.nil_eq
 |a::l,[],h,_,_=>absurd h.length_eq (by simp)
 |a::l,b::m,h,h1,h2=>by
  have ha:=(List.pairwise_cons.mp h1);have hb:=(List.pairwise_cons.mp h2);have e:a=b:=by
   have m1:a∈b::m:=h.mem_iff.mp Af;have m2:b∈a::l:=h.mem_iff.mpr Af;rcases List.mem_cons.mp m1 with z|z
   ·exact z
   ·rcases List.mem_cons.mp m2 with y|y
    ·exact y.symm
    ·have:=ha.1 b y;have:=hb.1 a z;omega
  subst e;rw [xG ((List.perm_cons a).mp h) ha.2 hb.2]
section
variable {X:Cx}
theorem aKo (hc:X.calm=true):eV X (.type "set") (aXn X.w X.K):=by
 intro pins s σ H xs us Q I r h;obtain⟨p,ns,rfl,hq,h3,q⟩:=h;obtain⟨u,rfl,ru⟩:=vals1 r;cases ru;obtain⟨its,rv,pl,hz⟩:=I.list hq;have hlen:its.length=ns.length:=by rw [<-Vals.length rv];unfold wY;rw [Ab]
 have v3:∀j,j<its.toArray.size->ns.getD j 0∈[1,2,3]:=λj hj=>by
  rw [Ak,hlen]at hj;have:ns.getD j 0=ns[j]:=by simp [Hh,hj]
  rw [this];exact h3 _ (Cp hj)
 refine aAc (items:=its.toArray) (val:=λi=>ns.getD i 0) (I.ok.hd hc) pl.isList (λi v hv=>aBm rv i v (by simpa using hv)) v3 λh' tk S kp'=>?_;have kp:∀b o,s.heap.get? b=some o->h'.get? b=some o:=λb o e=>kp' b o (Ao e) e;have so:aBx X.w s.heap.objs.size (vP (λi=>ns.getD i 0) its.toArray.size) h':=S;refine⟨.ref s.heap.objs.size,_,I.laid (t':=tk) (o:= .ext (aBx X.w s.heap.objs.size _)) kp (Am _) ⟨so,?_,λh1 h2 p k=>?_⟩,rfl,q _ _ (I.hok.fresh (Am _)) (aEy _ _) λz=>?_⟩
 ·obtain⟨o,_,_,e,_⟩:=so;exact⟨o,e⟩
 ·obtain⟨o,ep,tk,e,c⟩:=p;exact⟨o,ep,tk,k _ e,c⟩
 ·rw [aE6 v3 _ (Am _) z,Ak,hlen];constructor
  ·rintro⟨j,hj,rfl⟩;have:ns.getD j 0=ns[j]:=by simp [Hh,hj]
   show ns.getD j 0∈ns;rw [this];exact Cp hj
  ·intro hz;obtain⟨j,hj,e⟩:=Fs hz;exact⟨j,hj,by show ns.getD j 0=z;rw [<-e];simp [Hh,hj]⟩
theorem aDn (hc:X.calm=true):eV X (.builtin "sorted") (aM8 X.w):=by
 intro pins s σ H xs us Q I r h;obtain⟨p,zs,rfl,hp,q⟩:=h;obtain⟨u,rfl,ru⟩:=vals1 r;cases ru;obtain⟨so,_,_⟩:=(show cT X.prog X.w H s.heap p (.ext (aBx X.w p zs))from I.hok p _ hp);obtain⟨o,ep,tk,ho,hex,hd,hz⟩:=so;have l3:=aUu zs hz;refine Hn Qu Pz Qa (Qd _) ?_;unfold Builtin.«sorted»;refine Aa (m:=checkCount "sorted" 1 1 _) (Ad ?_);have rise:SetTable.tD (vV (!X.w.params.followText "set-order") zs).place:=by
  simp only [fC,Bi,Be,or_false]at hz;rcases hz with rfl|rfl|rfl|rfl|rfl|rfl|rfl|rfl<;>intro i j h1 h2<;>simp [vV]at h1 h2<;>(obtain rfl|rfl|rfl:j=0∨j=1∨j=2:=by omega)<;>(obtain rfl|rfl|rfl:i=0∨i=1∨i=2:=by omega)<;>first|(exfalso;omega)|(show(_:Nat)<_;simp [vV])
 refine Aa (mD (by simpa using I.ok.hd hc) ho hex hd (aNy hz) rise rfl rfl (by rw [aM2,Cr];omega) λh' tk' s1 hk=>?_);obtain⟨ys,py,ey⟩:=aFb (f:=λz:Nat=>Dc (z:Int) (tk z)) (l:=gH X.w p (gA zs tk) ep) (xs:=zs) (by
  have:=jX X.w p (gA zs tk) ep;have e:(gA zs tk).toList.map (·.2)=zs.map λz:Nat=>Dc (z:Int) (tk z):=by simp [gA]
  rw [e]at this;exact this)
 rw [ey];have hi:IntsAre (ys.map λz:Nat=>Dc (z:Int) (tk z)) (ys.map λz:Nat=>(z:Int)):=by
  clear py ey;induction ys with
  |nil=>exact .nil
  |cons a l ih=>exact .cons _ _ ih
 generalize (ys.map λz:Nat=>Dc (z:Int) (tk z))=vs at hi;have hal:vs.length=ys.length:=by rw [hi.length,Ab]
 have yl:=py.length_eq;refine Aa (Ku ?_ (by rw [Cr];omega));have hoL:(h'.push (seqObj "list" vs.toArray 0)).get? h'.objs.size=some (seqObj "list" vs.toArray 0):=Ar _ rfl;refine Aa (Ca (De slot_list_sort ⟨_,hoL,rfl⟩ entry_list_sort (list_sort_tree hoL hi (by omega) λout ms a1 a2 a3=>⟨_,rfl,?_⟩) (Ob _)));refine Ad ⟨_,rfl,?_⟩;obtain⟨e,he⟩:=Ox (vs:=vs) (out:=out) hoL;have hsz:h'.objs.size<(h'.push (seqObj "list" vs.toArray 0)).objs.size:=by rw [Dj];exact Dx _
 have keep:∀b o,s.heap.get? b=some o->(sortedHeap (h'.push (seqObj "list" vs.toArray 0)) h'.objs.size vs out).get? b=some o:=λb o eb=>by
  have e1:=hk b o eb;have hlt:=Ao e1;rw [Ny (Ax hlt) (Ko hlt hsz)];exact Ai _ e1
 have hge:s.heap.objs.size<=h'.objs.size:=Es s1;have es:ms=zs.map λz:Nat=>(z:Int):=xG (a2.trans (py.map _)) a3 (by
  simp only [fC,Bi,Be,or_false]at hz;rcases hz with rfl|rfl|rfl|rfl|rfl|rfl|rfl|rfl<;>decide)
 have en:ms.map V.int=wY zs:=by rw [es,Bl];rfl
 refine⟨.ref h'.objs.size,_,I.laid (t':=tk') (o:= .lst (ms.map V.int)) keep hge ⟨?_,out.toList,e,zF a1,by simpa using he⟩,rfl,by rw [en];exact q _ (I.hok.fresh hge)⟩;rw [Ab,a2.length_eq,Ab,Cr];omega
end
structure Dis (P:Program) (w:World) (K:Ac) (mg:Str->Option Value) (base:Heap) (CX:CXT) (k:Nat) (Cs:Addr->Prop) (m:Str) (ps:List Str) (sp:Addr->Sp):Prop where
 ex:∀C,Cs C->Cls K C/\∃f fd,Meth K C m f/\bB P w K mg base CX k f fd ps (sp C)/\Binds K fd ps []
def aOa (Cs:Addr->Prop) (m:Str) (sp:Addr->Sp) (E:XK) (ta:TE) (t:TA):TE:=λσ H Q=>ta σ H λx H1=>∃a C dx fs,x= .ref a/\H1 a=some (.ins C dx fs)/\Cs C/\fs.lookup m=none/\t σ H1 λvs H2=>sp C (.ref a::vs) H2 Q E
section
variable {X:Cx} {CX:CXT} {k:Nat} {Cs:Addr->Prop} {m:Str} {ps:List Str} {sp:Addr->Sp} {E:XK} {o e:Expr} {es:List Expr} {ta:TE} {t:TA} {apos pos:Pos}
theorem cF {pl:Sem Bool} (he:PE X o ta) (D:Dis X.prog X.w X.K X.mg X.base CX k Cs m ps sp) (hr:dN k X.A) (hx:pN CX X E) (ha:PA X (e::es) t)
  (hst:starEach (e::es) X.env=(false,eval e X.env)::starEach es X.env:=by rfl) (hpl:(backTo pos (starEach es X.env)).any (·.1)=false:=by rfl)
  (ht:eval (.Call (.Attribute o m apos) (e::es) [] pos) X.env=(do
   let ov<-eval o X.env
   standAt apos.atName
   let(f,first)<-holding [ov] (getMethod ov m pl)
   callWith pos f first (backTo pos (starEach (e::es) X.env)) (backToKw pos (keywordEach [] X.env))):=by rfl):
  PE X (.Call (.Attribute o m apos) (e::es) [] pos) (aOa Cs m sp E ta t):=by
 intro pins s σ H Q I h;refine Mo (pl:=pl) (thn (he pins s σ H _ I h) λu s1 ⟨x,H1,I1,rx,a,C,dx,fs,ex,ea,hC,l,q⟩=>?_) ht;subst ex;obtain rfl:u=Au a:=rx;obtain⟨c,f,fd,hm,F,hb⟩:=D.ex C hC;refine aAa I1 ea c hm l ?_;refine Jh (first:=[.ref a]) (h₀:=X.base) I.ok.mod.kin hm.kp (thn (ha pos pins s1 σ H1 _ I1 q) λus s2 ⟨vs,H2,I2,r,q2⟩=>⟨I2.kIn,?_⟩) hst hpl;exact aGf (us:= .ref a::us) (vs:= .ref a::vs) F hr hb .nil hx I2 (.cons rfl r) (by rw [Bo];exact q2)
theorem bJ {pl:Sem Bool} (he:PE X o ta) (D:Dis X.prog X.w X.K X.mg X.base CX k Cs m ps sp) (hr:dN k X.A) (hx:pN CX X E)
  (ht:eval (.Call (.Attribute o m apos) [] [] pos) X.env=(do
   let ov<-eval o X.env
   standAt apos.atName
   let(f,first)<-holding [ov] (getMethod ov m pl)
   callWith pos f first (backTo pos (starEach [] X.env)) (backToKw pos (keywordEach [] X.env))):=by rfl):
  PE X (.Call (.Attribute o m apos) [] [] pos) (aOa Cs m sp E ta aQh):=by
 intro pins s σ H Q I h;refine Mo (pl:=pl) (thn (he pins s σ H _ I h) λu s1 ⟨x,H1,I1,rx,a,C,dx,fs,ex,ea,hC,l,q⟩=>?_) ht;subst ex;obtain rfl:u=Au a:=rx;obtain⟨c,f,fd,hm,F,hb⟩:=D.ex C hC;refine aAa I1 ea c hm l ?_;exact PySem.W.callWith_K0 (first:=[.ref a]) I1.kIn hm.kp (aGf (us:=[.ref a]) (vs:=[.ref a]) F hr hb .nil hx I1 (.cons rfl .nil) q)
end
section
variable {X:Cx} {o e:Expr} {apos cpos:Pos} {td ty:TE}
end
section
variable {X:Cx}
theorem aNf:eV X (.builtin "any") (λxs H Q=>∃(p:Addr) (bs:List Bool),xs=[.ref p]/\SqL X.K H p (bs.map V.bl)/\X.calm=true/\Q (.bl (bs.any id)) H):=by
 intro pins s σ H xs us Q I r h;obtain⟨p,bs,rfl,hq,hc,q⟩:=h;obtain⟨u,rfl,ru⟩:=vals1 r;cases ru;obtain⟨its,rv,pl,hz⟩:=I.list hq;have hl:=rv.length;rw [Ab]at hl;refine call_any_walk (Io pl.isList ?_);have hlt:p<s.heap.objs.size:=by obtain⟨o,e,_⟩:=pl.isList;exact Ao e
 have hne:p≠s.heap.objs.size:=Ax hlt;have hd:X.A.in1.handled=none:=I.ok.hd hc;refine⟨s.heap.objs.size,_,_,_,_,_,λi=>bs.getD i false,rfl,Lz hd s.heap.objs.size p hne its.toArray,⟨⟨_,Ar _ rfl,rfl,rfl⟩,pl.isList.push _⟩,λi v s' Q' E' hv hQ=>?_,λh' tk hk=>?_⟩
 ·have hv':its[i]? =some v:=by simpa using hv
  have hi:i<its.length:=(List.getElem?_eq_some_iff.mp hv').1;have hi':i<bs.length:=by omega
  have e1:(bs.map V.bl)[i]? =some (V.bl bs[i]):=by simp [hi']
  obtain⟨u,hu,ru⟩:=rv.get e1;rw [hv']at hu;cases hu;have ru':v=Fq bs[i]:=ru;subst ru';have e2:bs.getD i false=bs[i]:=by simp [hi']
  have hQ':Q' (bs.getD i false) s':=hQ;rw [e2]at hQ';exact Cj hQ'
 ·refine⟨.bl (bs.any id),H,?_,?_,q⟩
  ·exact I.kept (t':=tk) λb o e=>hk b o (by simp;exact Ax (Ao e)) (Ai _ e)
  ·show Fq _=Fq _;congr 1;have e:its.toArray.size=bs.length:=by rw [Ak];omega
   rw [e];have:∀l:List Bool,(Bp l.length).any (λi=>l.getD i false)=l.any id:=by
    intro l;induction l with
    |nil=>rfl
    |cons b l ih=>
     rw [Ag,Nm,Ds,Ds,List.any_map, <-ih];congr 1
   exact this bs
end
def tx (l:List Nat):Str:=⟨l.toArray⟩
theorem mU (l:List Nat):(tx l).cps.toList=l:=List.toList_toArray
theorem gC (l:List Nat):(tx l).length=l.length:=by show l.toArray.size=_;rw [Ak]
theorem jH {l m:List Nat} (h:tx l=tx m):l=m:=by rw [<-mU l,h,mU]
theorem aFd (z:Str):z=tx z.cps.toList:=by cases z;unfold tx;rw [Array.toArray_toList]
theorem gF (l m:List Nat):tx l++tx m=tx (l++m):=by
 rw [aFd (tx l++tx m)];congr 1;show((tx l).cps++(tx m).cps).toList=_;rw [Array.toList_append,mU,mU]
section
variable {X:Cx}
inductive aRy (x:V) (lo:Option Int) (hi:Option Int) (H:Hp) (Q:VK):Prop
 |mk (z:List Nat) (a b:Nat) (q0_:x= .str (tx z)) (q1_:lo=some (a:Int)) (q2_:hi=some (b:Int)) (q3_:a<=b) (q4_:z.length<=sizeLine) (q5_:Q (.str (tx ((z.drop a).take (b-a)))) H):aRy x lo hi H Q
def aY1:V->Option Int->Option Int->Hp->VK->Prop:=λx lo hi H Q=>aRy x lo hi H Q
end
def Its (z:List Nat):It:=⟨λi _=>i<z.length,λi H x H'=>H'=H/\∃c,z[i]? =some c/\x= .str (tx [c]),λi _=>z.length<=i⟩
theorem aOc {P:Program} {w:World} {K:Ac} {tg:Expr} (it:Addr) (z:List Nat) (t:Tok):Turn P w K tg (Its z) [it] it (λi h=>h.IsStrIter it "str_ascii_iterator" (tx z) t i) where
 mem:=by simp
 obj:=λi h st b hb=>by
  have e:b=it:=by simpa using hb
  subst e;obtain⟨o,e,c,d⟩:=st;exact⟨o,e,λv z=>by rw [d]at z;cases z⟩
 keep:=λi h h' st k=>let⟨o,ho,r⟩:=st;⟨o,k it (by simp) o ho,r⟩
 item:=by
  intro X hP hw hK hc i pins s σ H E I hf st hg;subst hP hw hK;obtain⟨f0,f1,f2,f3,f4,f5⟩:=hf it (by simp);have hx:(tx z).cps[i]? =some (z[i]'hg):=by
   show z.toArray[i]? =_;rw [Iv,Al hg]
  refine wpAny_pyNext_ascii_item st hx λh' st' sb=>?_;have I1:Inv X pins σ H {s with heap:=h',toks:=s.toks+1}:=I.turned (λb o hb e=>(sb.2 b hb).trans e) f0 f1 f3 f4 f5;obtain⟨o,e,c,d⟩:=id st';exact⟨_,rfl,aIt (s:={s with heap:=h',toks:=s.toks+1}) e c d (by decide) ⟨.str (tx [z[i]'hg]),H,I1,⟨_,rfl⟩,⟨rfl,_,Al hg,rfl⟩,st',λb hb=>(hf b hb).1⟩⟩
 done:=by
  intro X hP hw hK hc i pins s σ H E I hf st hg;subst hP hw hK;obtain⟨f0,f1,f2,f3,f4,f5⟩:=hf it (by simp);have hx:(tx z).cps[i]? =none:=by
   show z.toArray[i]? =_;rw [Iv,Cm hg]
  exact wpAny_pyNext_ascii_end (I.ok.hd hc) st hx λh' eb=>⟨rfl,I.turned (t':=s.toks) (λb o hb e=>eb b o hb e) f0 f1 f3 f4 f5⟩
 self:=λ_ _ _ _ _ st h=>wpAny_pyIter_striter_ascii st h
section
variable {X:Cx} {tg:Expr}
def aY7 (te:TE):TI:=λσ H R=>te σ H λx H1=>∃z:List Nat,x= .str (tx z)/\(∀c∈z,c<128)/\R (Its z) H1
theorem aS5 {l:Expr} {tl:TE} (hl:PE X l tl):PI X tg l (aY7 tl):=by
 intro pins s σ H R I h;refine thn (hl pins s σ H _ I h) λv s1 ⟨x,H1,I1,r1,q1⟩=>?_;obtain⟨z,rfl,ha,q⟩:=q1;obtain⟨t,rfl⟩:=r1;refine wpAny_pyIter_ascii (by
  show z.toArray.all (·<128)=true;rw [List.all_toArray,List.all_eq_true];exactλc hc=>decide_eq_true (ha c hc)) ?_
 refine⟨s1.heap.objs.size,[s1.heap.objs.size],_,_,H1,rfl,I1.kept (t':=s1.toks) λb o e=>Ai _ e,aOc _ z t,⟨_,Ar _ rfl,rfl,rfl⟩,λb hb=>?_,q⟩;have e:b=s1.heap.objs.size:=by simpa using hb
 subst e;exact I1.fpOk (Am _) (I1.hok.fresh (Am _))
theorem aQ2 {z:List Nat} {g:TG} {tb:TS} {D:Ends} {σ:St} {H:Hp} (Pv:Nat->St->Hp->Prop) (h0:Pv 0 σ H)
  (hs:∀i c σ H,z[i]? =some c->Pv i σ H->g (.str (tx [c])) σ H λσ2 H2=>tb {D with nx:=Pv (i+1),ct:=Pv (i+1),bk:=D.nx} σ2 H2) (hd:∀σ H,Pv z.length σ H->D.nx σ H):
  ∃W:Nat->Nat->St->Hp->Prop,(∃m,W 0 m σ H)/\∀i m σ H,W i m σ H->
   ((Its z).stop i H/\D.nx σ H)∨((Its z).go i H/\∃N:St->Hp->Prop,(∀σ' H',N σ' H'->∃m',m'<m/\W (i+1) m' σ' H')/\∀x H',(Its z).yld i H x H'->g x σ H' λσ2 H2=>tb {D with nx:=N,ct:=N,bk:=D.nx} σ2 H2):=by
 refine⟨λi m σ H=>m=z.length-i/\i<=z.length/\Pv i σ H,⟨z.length,by simp,Bb _,h0⟩,?_⟩;rintro i m σ H ⟨rfl,hi,p⟩;by_cases hlt:i<z.length
 ·refine .inr ⟨hlt,Pv (i+1),λσ' H' p'=>⟨z.length-(i+1),by omega,rfl,hlt,p'⟩,λx H' y=>?_⟩;obtain⟨e,c,hc,ex⟩:=y;subst e ex;exact hs i c σ _ hc p
 ·have e:i=z.length:=by omega
  subst e;exact .inl ⟨Am _,hd σ H p⟩
def glu (sep:List Nat):List (List Nat)->List Nat
 | []=>[]
 | [x]=>x
 |x::y::r=>x++(sep++glu sep (y::r))
theorem aFs (sep:List Nat):∀ls:List (List Nat),Str.join (tx sep) (ls.map tx)=tx (glu sep ls)
 | []=>rfl
 | [x]=>rfl
 |x::y::r=>by
  show tx x++tx sep++Str.join (tx sep) ((y::r).map tx)=_;rw [aFs sep (y::r),gF,gF,glu,Bj]
theorem aEk (n:Nat):∀(ls:List (List Nat)) (a:Nat),(ls.map tx).foldl (λacc s=>acc+s.length+n) a=a+((ls.map Cd).sum+ls.length*n)
 | [],a=>by simp
 |x::r,a=>by
  rw [Aw,Fe,aEk n r,gC,Aw,Fg,Ag,Ue];omega
theorem aBq:∀{ls:List (List Nat)} {us:List Value},Vals (ls.map λl=>V.str (tx l)) us->∃l:List (Str×Tok),strValues l=us/\l.map (·.1)=ls.map tx
 | [],_,.nil=>⟨[],rfl,rfl⟩
 |x::ls,_,.cons r1 t=>by
  obtain⟨l,e1,e2⟩:=aBq t;obtain⟨tk,rfl⟩:=r1;exact⟨(tx x,tk)::l,by rw [<-e1];rfl,by rw [Aw,e2];rfl⟩
inductive aNo (x:V) (xs:List V) (H:Hp) (Q:VK):Prop
 |mk (sep:List Nat) (p:Addr) (ls:List (List Nat)) (q0_:x= .str (tx sep)) (q1_:xs=[.ref p]) (q2_:H p=some (.lst (ls.map λl=>V.str (tx l)))) (q3_:(ls.map Cd).sum+ls.length*sep.length<=100000) (q4_:Q (.str (tx (glu sep ls))) H):aNo x xs H Q
def rJoin:V->List V->Hp->VK->Prop:=λx xs H Q=>aNo x xs H Q
theorem aQf:MtR X "str.join" rJoin:=by
 intro pins s σ H x xs v us Q I rx rv h;obtain⟨sep,p,ls,rfl,rfl,hp,hz,q⟩:=h;obtain⟨t,rfl⟩:=rx;obtain⟨u,rfl,ru⟩:=vals1 rv;cases ru;obtain⟨its,r,pl,_⟩:=I.list (SqL.of hp);obtain⟨l,e1,e2⟩:=aBq r;have ok:JoinOk (tx sep) (ls.map tx)=true:=by
  have:Lx ((ls.map tx).toArray.foldl (λacc s=>acc+s.length+(tx sep).length) 0)=false:=by
   rw [List.foldl_toArray,aEk,gC];unfold Lx;rw [decide_eq_false_iff_not,Cr];omega
  unfold JoinOk;rw [this];rfl
 refine SC.join (l:=l) (texts:=ls.map tx) (by rw [e1];exact pl.isList) e2 ok λt' k=>⟨.str (tx (glu sep ls)),H,I.tok k,⟨t',?_⟩,q⟩;show Jq (Ve (tx sep) (ls.map tx)) t'=_;rw [StrLaws.glued_eq_join,aFs]
inductive aEu (x:V) (xs:List V) (H:Hp) (Q:VK):Prop
 |mk (z y:List Nat) (q0_:x= .str (tx z)) (q1_:xs=[.str (tx y)]) (q2_:Q (.bl (decide (z.take y.length=y))) H):aEu x xs H Q
def aPl:V->List V->Hp->VK->Prop:=λx xs H Q=>aEu x xs H Q
theorem aI7:MtR X "str.startswith" aPl:=by
 intro pins s σ H x xs v us Q I rx rv h;obtain⟨z,y,rfl,rfl,q⟩:=h;obtain⟨t,rfl⟩:=rx;obtain⟨u,rfl,tk,rfl⟩:=vals1 rv;have e:Rm (tx z) (tx y)=decide (z.take y.length=y):=by
  unfold Rm;rw [StrLaws.subAt_eq,gC,gC,mU,mU,Gn,Eo,Fp,decide_eq_true_iff,beq_iff_eq,decide_eq_true_iff];constructor
  ·exactλh=>h.2
  ·intro h;refine⟨?_,h⟩;have:=congrArg Cd h;rw [Ce]at this;omega
 refine SC.startswith ⟨.bl _,H,I,rfl,?_⟩;rw [e];exact q
inductive aNu (xs:List V) (H:Hp) (Q:VK):Prop
 |mk (z:List Nat) (q0_:xs=[.str (tx z)]) (q1_:z≠[]) (q2_:Oi z) (q3_:z.length<=640) (q4_:Q (.int ((Jt z:Nat):Int)) H):aNu xs H Q
def aWb:List V->Hp->VK->Prop:=λxs H Q=>aNu xs H Q
theorem aKb:eV X (.type "int") aWb:=by
 intro pins s σ H xs us Q I r h;obtain⟨z,rfl,h1,h2,h3,q⟩:=h;obtain⟨u,rfl,tk,rfl⟩:=vals1 r;have e:intText? (tx z)=some ((Jt z:Nat):Int):=by
  have:=intText_digits (x:=tx z) (by rw [mU];exact h2) (by rw [mU];exact h1) (by rw [gC];omega);rw [mU]at this;exact this
 exact W.KIN.call_text e (by rw [gC];exact h3) ⟨.int _,H,I.tok _,⟨_,rfl⟩,q⟩
end
def itx (i:Int):List Nat:=(As (toString i)).cps.toList
theorem aUy (i:Int):As (toString i)=tx (itx i):=aFd _
section
variable {X:Cx}
inductive aNc (xs:List V) (H:Hp) (Q:VK):Prop
 |mk (i:Int) (q0_:xs=[.int i]) (q1_:i.natAbs.log2<1920) (q2_:Q (.str (tx (itx i))) H):aNc xs H Q
def aSc:List V->Hp->VK->Prop:=λxs H Q=>aNc xs H Q
theorem rJ:eV X (.type "str") aSc:=by
 intro pins s σ H xs us Q I r h;obtain⟨i,rfl,hi,q⟩:=h;exact aDl pins s σ H _ us Q I r ⟨i,rfl,hi,by show Q (.str (As (toString i))) H;rw [aUy];exact q⟩
end
def aRw:R2:=λx y H Q=>∃i j,x= .str i/\y= .str j/\i.length+j.length<=sizeLine/\Q (.str (i++j)) H
theorem aPu {X:Cx}:OpR X (binaryOp .Add) aRw:=zQ
def cM (v:Option Int) (d n:Nat):Nat:=match v with
 |none=>d
 |some i=>(max 0 (min (if i<0 then i+(n:Int)else i) (n:Int))).toNat
theorem xX {v:Option Int} {d n:Nat} (h:d<=n):cM v d n<=n:=by
 unfold cM;cases v with
 |none=>exact h
 |some i=>dsimp only;split<;>omega
theorem aE4 (v:Option Int) (d n:Nat):((cM v d n:Nat):Int)=match v with|none=>(d:Int)|some i=>max 0 (min (if i<0 then i+(n:Int)else i) (n:Int)):=by
 cases v with
 |none=>rfl
 |some i=>show((max 0 (min (if i<0 then i+(n:Int)else i) (n:Int))).toNat:Int)=_;dsimp only;split<;>omega
theorem yR {a b:Int} (h:b<=a):sliceRange a b 1=[]:=by
 unfold sliceRange;rw [if_pos (by decide)];simp [show¬a<b by omega]
theorem aPm (lo hi:Option Int) (n:Nat):Ci lo hi 1 n=Ci (some ((cM lo 0 n:Nat):Int)) (some ((max (cM lo 0 n) (cM hi n n):Nat):Int)) 1 n:=by
 have l1:cM lo 0 n<=n:=xX (Bb _);have l2:cM hi n n<=n:=xX (Am _);have h0:Ci lo hi 1 n=sliceRange ((cM lo 0 n:Nat):Int) ((cM hi n n:Nat):Int) 1:=by
  rw [aE4,aE4];rfl
 have h1:Ci (some ((cM lo 0 n:Nat):Int)) (some ((max (cM lo 0 n) (cM hi n n):Nat):Int)) 1 n=sliceRange ((cM lo 0 n:Nat):Int) ((max (cM lo 0 n) (cM hi n n):Nat):Int) 1:=by
  have e1:max (0:Int) (min ((cM lo 0 n:Nat):Int) (n:Int))=((cM lo 0 n:Nat):Int):=by omega
  have e2:max (0:Int) (min ((max (cM lo 0 n) (cM hi n n):Nat):Int) (n:Int))=((max (cM lo 0 n) (cM hi n n):Nat):Int):=by omega
  simp only [Ci,show¬(((cM lo 0 n:Nat):Int)<0) by omega,show¬(((max (cM lo 0 n) (cM hi n n):Nat):Int)<0) by omega,if_false,e1,e2,show((1:Int)>0)=True from by simp,if_true]
 rw [h0,h1];rcases Nat.le_total (cM lo 0 n) (cM hi n n)with g|g
 ·rw [Nat.max_eq_right g]
 ·rw [Nat.max_eq_left g,yR (by omega),yR (by omega)]
section
variable {X:Cx}
inductive aRc (x:V) (lo:Option Int) (hi:Option Int) (H:Hp) (Q:VK):Prop
 |mk (z:List Nat) (q0_:x= .str (tx z)) (q1_:z.length<=sizeLine) (q2_:Q (.str (tx ((z.drop (cM lo 0 z.length)).take (cM hi z.length z.length-cM lo 0 z.length)))) H):aRc x lo hi H Q
def aYm:V->Option Int->Option Int->Hp->VK->Prop:=λx lo hi H Q=>aRc x lo hi H Q
theorem yD {pins:List (Addr×Obj)} {s:Shared} {σ:St} {H:Hp} {z:List Nat} {t:Tok} {l u:Option (Int×Tok)} {sl:Addr} {Q:VK} (I:Inv X pins σ H s) (hs:s.heap.IsSlice sl l u none) (hz:z.length<=sizeLine)
  (q:Q (.str (tx ((z.drop (cM (l.map (·.1)) 0 z.length)).take (cM (u.map (·.1)) z.length z.length-cM (l.map (·.1)) 0 z.length)))) H):wpAny (model X.prog X.w) X.A (getItem (.str (tx z) t) (.ref sl)) (EP X pins σ Q) X.xe s:=by
 refine wpAny_getItem_str_slice hs rfl ?_;have hl:=gC z;generalize ea:cM (l.map (·.1)) 0 z.length=a at q;generalize eb:cM (u.map (·.1)) z.length z.length=b at q;have la:a<=z.length:=by rw [<-ea];exact xX (Bb _)
 have lb:b<=z.length:=by rw [<-eb];exact xX (Am _)
 have pk0:slicePicked (tx z) l u none=Ci (some (a:Int)) (some ((max a b:Nat):Int)) 1 z.length:=by
  show Ci _ _ 1 (tx z).length=_;rw [hl,aPm,ea,eb]
 have pk:(slicePicked (tx z) l u none).filterMap ((tx z).cps[·]?)=(z.drop a).take (b-a):=by
  have h:=StrLaws.sliced_plain (tx z) (a:=a) (b:=max a b) (by omega) (by omega);rw [hl,mU,show max a b-a=b-a by omega]at h;rw [pk0];exact h
 unfold sliceMade;split
 ·rename_i hw;simp only [Option.map_none,Option.getD_none,beq_self_eq_true,Mx,beq_iff_eq]at hw;rw [pk0,StrLaws.strSliceIndices_plain (by omega) (by omega),Ab,Dd,hl]at hw;have e:(z.drop a).take (b-a)=z:=by
   rcases Ew z.length with g|g
   ·rw [List.length_eq_zero_iff.mp g];simp
   ·have:a=0:=by omega
    subst this;rw [Gn];exact Gh (by omega)
  rw [e]at q;exact⟨.str (tx z),H,I,⟨t,rfl⟩,q⟩
 ·rw [pk];exact⟨by show(tx ((z.drop a).take (b-a))).length<=sizeLine;rw [gC,Ce,Gv];omega,.str (tx ((z.drop a).take (b-a))),H,I.tok _,⟨_,rfl⟩,q⟩
theorem aTv:SlR X aYm:=by
 intro pins s σ H x v vl vu lo hi sl Q I rx hs pl pu h;obtain⟨z,rfl,hz,q⟩:=h;obtain⟨t,rfl⟩:=rx;refine⟨"str",_,F.slot_str_getitem.lookup,Rz _ _ _,?_⟩;cases pl with
 |int i ti=>
  cases pu with
  |int j tj=>exact yD (l:=some (i,ti)) (u:=some (j,tj)) I hs hz q
  |none=>exact yD (l:=some (i,ti)) (u:=none) I hs hz q
 |none=>
  cases pu with
  |int j tj=>exact yD (l:=none) (u:=some (j,tj)) I hs hz q
  |none=>exact yD (l:=none) (u:=none) I hs hz q
theorem aFc (k d n:Nat):cM (some (k:Int)) d n=min k n:=by
 unfold cM;dsimp only;rw [if_neg (by omega)];omega
theorem aM7:SlR X aY1:=λpins s σ H x v vl vu lo hi sl Q I rx hs pl pu h=>aTv pins s σ H x v vl vu lo hi sl Q I rx hs pl pu (by
 obtain⟨z,a,b,rfl,rfl,rfl,hab,hz,q⟩:=h;refine⟨z,rfl,hz,?_⟩;rw [aFc,aFc];have e:(z.drop (min a z.length)).take (min b z.length-min a z.length)=(z.drop a).take (b-a):=by
  rcases Fy a z.length with g|g
  ·rw [Qy (Es g)];rcases Fy b z.length with g2|g2
   ·rw [Qy (Es g2)]
   ·rw [Qp g2,Gh (by rw [Gv];omega),Gh (by rw [Gv];omega)]
  ·rw [Qp g,Gi (Am _),Gi g,Rp,Rp]
 rw [e];exact q)
end
section
variable {X:Cx}
end
structure Opq where
 φ:(Addr->Prop)->(Addr->Prop)->Hp->V->Prop
 mono:∀{W B B' H H'} {v:V},(∀b o,¬B b->H b=some o->¬B' b/\H' b=some o)->φ W B H v->φ W B' H' v
 wm:∀{W W' B H} {v:V},(∀p,W p->W' p)->φ W B H v->φ W' B H v
inductive U where
 |v (x:V)
 |tp (l:List U)
 |ls (l:List U)
 |ob (C:Addr) (ns:List Str) (us:List U)
 |dk (ns:List Str) (us:List U)
 |op (o:Opq)
 |wl
abbrev U.n (i:Int):U:= .v (.int i)
abbrev U.b (c:Bool):U:= .v (.bl c)
abbrev U.s (x:Str):U:= .v (.str x)
abbrev U.no:U:= .v .non
def Wll (H:Hp) (a:Addr):Prop:=∃x y z:Int,H a=some (.lst [.int x,.int y,.int z])
section
variable (W B:Addr->Prop) (H:Hp)
mutual
def DU:U->V->Prop
 | .v x,y=>y=x/\jE x=true
 | .tp l,y=>∃p xs,y= .ref p/\¬B p/\H p=some (.tup xs)/\DUs l xs
 | .ls l,y=>∃p xs,y= .ref p/\¬B p/\H p=some (.lst xs)/\DUs l xs
 | .ob C ns us,y=>∃p dx xs,y= .ref p/\¬B p/\H p=some (.ins C dx (ns.zip xs))/\ns.length=xs.length/\DUs us xs
 | .dk ns us,y=>∃p xs,y= .ref p/\¬B p/\H p=some (.dK ((ns.map Ct).zip xs))/\ns.length=xs.length/\DUs us xs
 | .op o,y=>o.φ W B H y
 | .wl,y=>∃p,y= .ref p/\W p
def DUs:List U->List V->Prop
 | [],xs=>xs=[]
 |u::l,xs=>∃x r,xs=x::r/\DU u x/\DUs l r
end
end
section
variable {W B B':Addr->Prop} {H H':Hp}
mutual
theorem DU.mono (k:∀b o,¬B b->H b=some o->¬B' b/\H' b=some o):∀(u:U) {v:V},DU W B H u v->DU W B' H' u v
 | .v _,_,h=>h
 | .tp l,_,⟨p,xs,e,nb,hp,t⟩=>⟨p,xs,e,(k _ _ nb hp).1,(k _ _ nb hp).2,DUs.mono k l t⟩
 | .ls l,_,⟨p,xs,e,nb,hp,t⟩=>⟨p,xs,e,(k _ _ nb hp).1,(k _ _ nb hp).2,DUs.mono k l t⟩
 | .ob _ _ us,_,⟨p,dx,xs,e,nb,hp,hl,t⟩=>⟨p,dx,xs,e,(k _ _ nb hp).1,(k _ _ nb hp).2,hl,DUs.mono k us t⟩
 | .dk _ us,_,⟨p,xs,e,nb,hp,hl,t⟩=>⟨p,xs,e,(k _ _ nb hp).1,(k _ _ nb hp).2,hl,DUs.mono k us t⟩
 | .op o,_,h=>o.mono k h
 | .wl,_,h=>h
theorem DUs.mono (k:∀b o,¬B b->H b=some o->¬B' b/\H' b=some o):∀(l:List U) {xs:List V},DUs W B H l xs->DUs W B' H' l xs
 | [],_,h=>h
 |u::l,_,⟨x,r,e,h,t⟩=>⟨x,r,e,DU.mono k u h,DUs.mono k l t⟩
end
theorem DUs.length:∀{l:List U} {xs:List V},DUs W B H l xs->l.length=xs.length
 | [],_,h=>by rw [show _=[]from h];rfl
 |_::_,_,⟨_,_,e,_,t⟩=>by rw [e,Ag,Ag,DUs.length t]
theorem DUs.get:∀{l:List U} {xs:List V} {i:Nat} {u:U},DUs W B H l xs->l[i]? =some u->∃x,xs[i]? =some x/\DU W B H u x
 | [],_,_,_,_,e=>by simp at e
 |_::_,_,0,_,⟨x,_,e,h,_⟩,q=>by simp at q;subst q e;exact⟨x,rfl,h⟩
 |_::_,_,i+1,_,⟨_,_,e,_,t⟩,q=>by
  obtain⟨y,h1,h2⟩:=DUs.get (i:=i) t (by simpa using q);exact⟨y,by rw [e];simpa using h1,h2⟩
theorem DUs.getV {l:List U} {xs:List V} {i:Nat} {x:V} (h:DUs W B H l xs) (e:xs[i]? =some x):∃u,l[i]? =some u/\DU W B H u x:=by
 have hi:i<l.length:=by rw [h.length];exact(List.getElem?_eq_some_iff.mp e).1
 obtain⟨y,h1,h2⟩:=h.get (Al hi);rw [e]at h1;cases h1;exact⟨_,Al hi,h2⟩
theorem DUs.app:∀{l m:List U} {xs ys:List V},DUs W B H l xs->DUs W B H m ys->DUs W B H (l++m) (xs++ys)
 | [],_,_,_,h,t=>by rw [show _=[]from h];exact t
 |_::_,_,_,_,⟨x,r,e,h,t⟩,t'=>⟨x,_,by rw [e];rfl,h,DUs.app t t'⟩
theorem DUs.drop:∀{l:List U} {xs:List V} (i:Nat),DUs W B H l xs->DUs W B H (l.drop i) (xs.drop i)
 |_,_,0,h=>h
 | [],_,_+1,h=>by rw [show _=[]from h];rfl
 |_::_,_,i+1,⟨_,_,e,_,t⟩=>by rw [e];exact DUs.drop i t
theorem DUs.take:∀{l:List U} {xs:List V} (i:Nat),DUs W B H l xs->DUs W B H (l.take i) (xs.take i)
 |_,_,0,_=>rfl
 | [],_,_+1,h=>by rw [show _=[]from h];rfl
 |_::_,_,i+1,⟨x,_,e,h,t⟩=>by rw [e];exact⟨x,_,rfl,h,DUs.take i t⟩
theorem DUs.one {u:U} {x:V} (h:DU W B H u x):DUs W B H [u] [x]:=⟨x,[],rfl,h,rfl⟩
end
section
variable {W W' B:Addr->Prop} {H:Hp}
mutual
theorem DU.wm (k:∀p,W p->W' p):∀(u:U) {v:V},DU W B H u v->DU W' B H u v
 | .v _,_,h=>h
 | .tp l,_,⟨p,xs,e,nb,hp,t⟩=>⟨p,xs,e,nb,hp,DUs.wm k l t⟩
 | .ls l,_,⟨p,xs,e,nb,hp,t⟩=>⟨p,xs,e,nb,hp,DUs.wm k l t⟩
 | .ob _ _ us,_,⟨p,dx,xs,e,nb,hp,hl,t⟩=>⟨p,dx,xs,e,nb,hp,hl,DUs.wm k us t⟩
 | .dk _ us,_,⟨p,xs,e,nb,hp,hl,t⟩=>⟨p,xs,e,nb,hp,hl,DUs.wm k us t⟩
 | .op o,_,h=>o.wm k h
 | .wl,_,⟨p,e,h⟩=>⟨p,e,k p h⟩
theorem DUs.wm (k:∀p,W p->W' p):∀(l:List U) {xs:List V},DUs W B H l xs->DUs W' B H l xs
 | [],_,h=>h
 |u::l,_,⟨x,r,e,h,t⟩=>⟨x,r,e,DU.wm k u h,DUs.wm k l t⟩
end
end
structure Fw (W:Addr->Prop) (H H':Hp):Prop where
 fr:∀b o,¬W b->H b=some o->H' b=some o
 wo:∀p,W p->Wll H' p
theorem Fw.trans {W:Addr->Prop} {H H1 H2:Hp} (a:Fw W H H1) (b:Fw W H1 H2):Fw W H H2:=⟨λc o n h=>b.fr c o n (a.fr c o n h),b.wo⟩
def Mt:HO->Prop
 | .lst _=>True
 | .ext _=>True
 | .dK _=>True
 |_=>False
structure EB (W B:Addr->Prop) (H:Hp):Prop where
 bl:∀p,B p->∃o,H p=some o/\Mt o
 wb:∀p,W p->B p
 wo:∀p,W p->Wll H p
structure Own where
 φ:(Addr->Prop)->(Addr->Prop)->(Addr->Prop)->Hp->Addr->Prop
 mono:∀{W B B' S H H'} {p:Addr},(∀b o,¬B b->H b=some o->¬B' b/\H' b=some o)->(∀b,S b->H' b=H b)->φ W B S H p->φ W B' S H' p
 wm:∀{W W' B S H} {p:Addr},(∀p,W p->W' p)->φ W B S H p->φ W' B S H p
 th:∀{W B S H} {p:Addr},φ W B S H p->∀b,S b->∃o,H b=some o/\Mt o
 hd:∀{W B S H} {p:Addr},φ W B S H p->S p
def Own.fz (o:Own):Opq:=⟨λW B H v=>∃p S,v= .ref p/\(∀b,S b->¬B b)/\o.φ W B S H p,λk ⟨p,S,e,n,h⟩=>⟨p,S,e,λb hb=>let⟨x,q,_⟩:=o.th h b hb;(k b x (n b hb) q).1,o.mono k (λb hb=>let⟨x,q,_⟩:=o.th h b hb;(k b x (n b hb) q).2.trans q.symm) h⟩,λk ⟨p,S,e,n,h⟩=>⟨p,S,e,n,o.wm k h⟩⟩
def aX5:Opq:=⟨λ_ _ _ _=>True,λ_ _=>trivial,λ_ _=>trivial⟩
inductive Sl where
 |no
 |sh (u:U)
 |ow (l:List U)
 |br (l:List U)
 |oo (o:Own)
 |bo (o:Own)
abbrev EV:=List Sl
def Sl.rd:Sl->U
 | .sh u=>u
 | .ow l=> .ls l
 | .br l=> .ls l
 | .no=> .wl
 |_=> .op aX5
def Sl.es:Sl->(U->Prop)->Prop
 | .sh u,R=>R u
 | .ow l,R=>R (.ls l)
 | .oo o,R=>R (.op o.fz)
 |_,_=>False
def lsO (l:List U):Own:=⟨λW B S H p=>(∀b,S b↔b=p)/\∃xs,H p=some (.lst xs)/\DUs W B H l xs,λk e ⟨s,xs,h,d⟩=>⟨s,xs,(e _ ((s _).mpr rfl)).trans h,DUs.mono k l d⟩,λk ⟨s,xs,h,d⟩=>⟨s,xs,h,DUs.wm k l d⟩,λ⟨s,_,h,_⟩ b hb=>by rw [(s b).mp hb];exact⟨_,h,trivial⟩,λ⟨s,_⟩=>(s _).mpr rfl⟩
def Sl.hold:Sl->Option Own
 | .ow l=>some (lsO l)
 | .br l=>some (lsO l)
 | .oo o=>some o
 | .bo o=>some o
 |_=>none
section
variable (W B:Addr->Prop) (H H':Hp)
def RO:Sl->V->Prop
 | .sh u,y=>DU W B H' u y
 | .ow l,y=>∃p xs,y= .ref p/\H p=none/\H' p=some (.lst xs)/\DUs W (λb=>B b∨b=p) H' l xs
 | .br l,y=>∃p xs,y= .ref p/\¬W p/\H' p=some (.lst xs)/\DUs W B H' l xs
 | .oo o,y=>∃p S,y= .ref p/\(∀b,S b->H b=none)/\o.φ W (λb=>B b∨S b) S H' p
 | .bo o,y=>∃p S,y= .ref p/\(∀b,S b->¬W b)/\o.φ W B S H' p
 | .no,_=>False
def DB (u:U) (y:V):Prop:=DU W B H u y∨∃l p xs,u= .ls l/\y= .ref p/\¬W p/\H p=some (.lst xs)/\DUs W B H l xs
structure EE (ρ:EV) (σ:St):Prop where
 eb:EB W B H
 len:ρ.length=σ.length
 sh:∀(i:Nat) (u:U),ρ[i]? =some (Sl.sh u)->∃v,σ[i]? =some (some v)/\DU W B H u v
 hd:∀(i:Nat) (s:Sl) (o:Own),ρ[i]? =some s->s.hold=some o->∃p S,σ[i]? =some (some (V.ref p))/\(∀b,S b->¬W b)/\o.φ W B S H p
end
theorem EE.ow {W B:Addr->Prop} {H:Hp} {ρ:EV} {σ:St} (e:EE W B H ρ σ) (i:Nat) (l:List U) (h:ρ[i]? =some (Sl.ow l)∨ρ[i]? =some (Sl.br l)):∃p xs,σ[i]? =some (some (V.ref p))/\¬W p/\H p=some (.lst xs)/\DUs W B H l xs:=by
 obtain⟨p,S,h1,h2,s,xs,h3⟩:∃p S,σ[i]? =some (some (V.ref p))/\(∀b,S b->¬W b)/\(lsO l).φ W B S H p:=h.elim (λh=>e.hd i _ _ h rfl) λh=>e.hd i _ _ h rfl;exact⟨p,xs,h1,h2 p ((s p).mpr rfl),h3⟩
section
variable {W B:Addr->Prop} {H H' H2:Hp} {ρ:EV} {σ:St}
theorem EB.keep (e:EB W B H) (f:Fw W H H'):∀b o,¬B b->H b=some o->¬B b/\H' b=some o:=λb o n h=>⟨n,f.fr b o (λw=>n (e.wb b w)) h⟩
theorem EB.dm (e:EB W B H):∀p,B p->H p≠none:=λp h n=>by
 obtain⟨xs,q,_⟩:=e.bl p h;rw [q]at n;cases n
theorem EB.to (e:EB W B H) (f:Fw W H H'):EB W B H':=by
 refine⟨λp hp=>?_,e.wb,f.wo⟩;by_cases w:W p
 ·obtain⟨x,y,z,q⟩:=f.wo p w;exact⟨_,q,trivial⟩
 ·obtain⟨xs,q,m⟩:=e.bl p hp;exact⟨xs,f.fr p _ w q,m⟩
theorem EB.refl (e:EB W B H):Fw W H H:=⟨λ_ _ _ h=>h,e.wo⟩
theorem EB.new (e:EB W B H) {p:Addr} {o:HO} (n:H p=none):Fw W H (upd H p o):=⟨λb u _ h=>by
 rw [aP (aQ h n)];exact h,λq hq=>by
 obtain⟨x,y,z,h⟩:=e.wo q hq;exact⟨x,y,z,by rw [aP (aQ h n)];exact h⟩⟩
theorem EB.nw (e:EB W B H) {p:Addr} (n:H p=none):¬B p:=λh=>e.dm p h n
theorem EB.same (e:EB W B H) (s:eU H H'):Fw W H H':=⟨λb o _ h=>s b o h,λp hp=>by
 obtain⟨x,y,z,h⟩:=e.wo p hp;exact⟨x,y,z,s _ _ h⟩⟩
theorem Own.to (o:Own) {S:Addr->Prop} {p:Addr} (e:EB W B H) (f:Fw W H H') (n:∀b,S b->¬W b) (h:o.φ W B S H p):o.φ W B S H' p:=o.mono (e.keep f) (λb hb=>let⟨x,q,_⟩:=o.th h b hb;(f.fr b x (n b hb) q).trans q.symm) h
theorem Own.less (o:Own) {S T:Addr->Prop} {p:Addr} (h:o.φ W (λb=>B b∨T b) S H p):o.φ W B S H p:=o.mono (λ_ _ n h=>⟨λz=>n (.inl z),h⟩) (λ_ _=>rfl) h
theorem EE.to (e:EE W B H ρ σ) (f:Fw W H H'):EE W B H' ρ σ:=
 ⟨e.eb.to f,e.len,λi u h=>let⟨v,h1,h2⟩:=e.sh i u h;⟨v,h1,DU.mono (e.eb.keep f) u h2⟩,λi s o h hs=>let⟨p,S,h1,h2,h3⟩:=e.hd i s o h hs;⟨p,S,h1,h2,o.to e.eb f h2 h3⟩⟩
theorem Fw.none_ {p:Addr} (f:Fw W H H') (n1:H' p=none):H p=none:=by
 cases hp:H p with
 |none=>rfl
 |some o=>
  by_cases w:W p
  ·obtain⟨_,_,_,z⟩:=f.wo p w;rw [z]at n1;cases n1
  ·rw [f.fr p o w hp]at n1;cases n1
theorem RO.back {s:Sl} {v:V} (f:Fw W H H') (h:RO W B H' H2 s v):RO W B H H2 s v:=by
 match s,h with
 | .sh u,h=>exact h
 | .ow l,⟨p,xs,e1,n1,h2,h3⟩=>exact⟨p,xs,e1,f.none_ n1,h2,h3⟩
 | .br l,h=>exact h
 | .oo o,⟨p,S,e1,n1,h⟩=>exact⟨p,S,e1,λb hb=>f.none_ (n1 b hb),h⟩
 | .bo o,h=>exact h
theorem DB.to {u:U} {v:V} (h:DB W B H u v) (e:EB W B H) (f:Fw W H H'):DB W B H' u v:=by
 rcases h with h|⟨l,p,xs,e1,e2,w,h1,h2⟩
 ·exact .inl (DU.mono (e.keep f) u h)
 ·exact .inr ⟨l,p,xs,e1,e2,w,f.fr _ _ w h1,DUs.mono (e.keep f) l h2⟩
theorem DUs.less {p:Addr} {l:List U} {xs:List V} (h:DUs W (λb=>B b∨b=p) H l xs):DUs W B H l xs:=DUs.mono (λ_ _ n e=>⟨λz=>n (.inl z),e⟩) l h
theorem RO.db {s:Sl} {v:V} (e:EB W B H) (h:RO W B H H' s v):DB W B H' s.rd v:=by
 match s,h with
 | .sh u,h=>exact .inl h
 | .ow l,⟨p,xs,e1,h1,h2,h3⟩=>exact .inl ⟨p,xs,e1,e.nw h1,h2,h3.less⟩
 | .br l,⟨p,xs,e1,h1,h2,h3⟩=>exact .inr ⟨l,p,xs,rfl,e1,h1,h2,h3⟩
 | .oo _,_=>exact .inl trivial
 | .bo _,_=>exact .inl trivial
theorem RO.du {s:Sl} {v:V} {R:U->Prop} (e:EB W B H) (h:RO W B H H' s v) (r:s.es R):∃u,R u/\DU W B H' u v:=by
 match s,h,r with
 | .sh u,h,r=>exact⟨u,r,h⟩
 | .ow l,⟨p,xs,e1,h1,h2,h3⟩,r=>exact⟨.ls l,r,p,xs,e1,e.nw h1,h2,h3.less⟩
 | .oo o,⟨p,S,e1,h1,h2⟩,r=>exact⟨.op o.fz,r,p,S,e1,λb hb=>e.nw (h1 b hb),o.less h2⟩
theorem DB.int {i:Int} {y:V} (h:DB W B H (.n i) y):y= .int i:=by
 rcases h with h|⟨l,p,xs,e1,_⟩
 ·exact h.1
 ·cases e1
theorem DB.fl {x y:V} (h:DB W B H (.v x) y):y=x/\jE x=true:=by
 rcases h with h|⟨l,p,xs,e1,_⟩
 ·exact h
 ·cases e1
theorem DB.tp {l:List U} {y:V} (h:DB W B H (.tp l) y):∃p xs,y= .ref p/\¬B p/\H p=some (.tup xs)/\DUs W B H l xs:=by
 rcases h with h|⟨l,p,xs,e1,_⟩
 ·exact h
 ·cases e1
theorem DB.ob {C:Addr} {ns:List Str} {us:List U} {y:V} (h:DB W B H (.ob C ns us) y):∃p dx xs,y= .ref p/\¬B p/\H p=some (.ins C dx (ns.zip xs))/\ns.length=xs.length/\DUs W B H us xs:=by
 rcases h with h|⟨l,p,xs,e1,_⟩
 ·exact h
 ·cases e1
theorem DB.dk {ns:List Str} {us:List U} {y:V} (h:DB W B H (.dk ns us) y):∃p xs,y= .ref p/\¬B p/\H p=some (.dK ((ns.map Ct).zip xs))/\ns.length=xs.length/\DUs W B H us xs:=by
 rcases h with h|⟨l,p,xs,e1,_⟩
 ·exact h
 ·cases e1
theorem DB.ls {l:List U} {y:V} (e:EB W B H) (h:DB W B H (.ls l) y):∃p xs,y= .ref p/\¬W p/\H p=some (.lst xs)/\DUs W B H l xs:=by
 rcases h with ⟨p,xs,e1,nb,h1,h2⟩|⟨l,p,xs,e1,e2,w,h1,h2⟩
 ·exact⟨p,xs,e1,λw=>nb (e.wb p w),h1,h2⟩
 ·cases e1;exact⟨p,xs,e2,w,h1,h2⟩
end
abbrev TV:=EV->(Sl->Prop)->Prop
def VT (t:TE) (F:TV):Prop:=∀{W B:Addr->Prop} {ρ:EV} {σ:St} {H:Hp} {R:Sl->Prop} {Q:VK},EE W B H ρ σ->F ρ R->(∀s v H',R s->Fw W H H'->RO W B H H' s v->Q v H')->t σ H Q
def VE (X:Cx) (e:Expr) (F:TV):Prop:=∃t,PE X e t/\VT t F
abbrev TVc:=EV->(Bool->Prop)->Prop
def VTc (t:TT) (F:TVc):Prop:=∀{W B:Addr->Prop} {ρ:EV} {σ:St} {H:Hp} {R:Bool->Prop} {Q:Bool->Hp->Prop},EE W B H ρ σ->F ρ R->(∀c H',R c->Fw W H H'->Q c H')->t σ H Q
def VC (X:Cx) (e:Expr) (F:TVc):Prop:=∃t,PT X e t/\VTc t F
def VW (X:Cx) (e:Expr) (F:TVc):Prop:=∃t,PW X e t/\VTc t F
abbrev TVa:=EV->(List U->Prop)->Prop
def VTa (n:Nat) (t:TA) (F:TVa):Prop:=∀{W B:Addr->Prop} {ρ:EV} {σ:St} {H:Hp} {R:List U->Prop} {Q:List V->Hp->Prop},EE W B H ρ σ->F ρ R->(∀us vs H',R us->us.length=n->Fw W H H'->DUs W B H' us vs->Q vs H')->t σ H Q
def VA (X:Cx) (es:List Expr) (F:TVa):Prop:=∃t,PA X es t/\VTa es.length t F
def DBs (W B:Addr->Prop) (H:Hp):List U->List V->Prop
 | [],xs=>xs=[]
 |u::l,xs=>∃x r,xs=x::r/\DB W B H u x/\DBs W B H l r
theorem DBs.to {W B:Addr->Prop} {H H':Hp} (e:EB W B H) (f:Fw W H H'):∀{us:List U} {vs:List V},DBs W B H us vs->DBs W B H' us vs
 | [],_,h=>h
 |_::_,_,⟨x,r,e1,h,t⟩=>⟨x,r,e1,h.to e f,DBs.to e f t⟩
def VTb (t:TA) (F:TVa):Prop:=∀{W B:Addr->Prop} {ρ:EV} {σ:St} {H:Hp} {R:List U->Prop} {Q:List V->Hp->Prop},EE W B H ρ σ->F ρ R->(∀us vs H',R us->Fw W H H'->DBs W B H' us vs->Q vs H')->t σ H Q
def VB (X:Cx) (es:List Expr) (F:TVa):Prop:=∃t,PA X es t/\VTb t F
def O2 (r:R2) (g:U->U->(Sl->Prop)->Prop):Prop:=∀{W B:Addr->Prop} {H:Hp} {u v:U} {x y:V} {R:Sl->Prop} {Q:VK},EB W B H->DB W B H u x->DB W B H v y->g u v R->(∀s z H',R s->Fw W H H'->RO W B H H' s z->Q z H')->r x y H Q
def CB (r:List V->Hp->VK->Prop) (g:List U->(Sl->Prop)->Prop):Prop:=∀{W B:Addr->Prop} {H:Hp} {us:List U} {vs:List V} {R:Sl->Prop} {Q:VK},EB W B H->DBs W B H us vs->g us R->(∀s z H',R s->Fw W H H'->RO W B H H' s z->Q z H')->r vs H Q
def aN1 (i:Nat):TV:=λρ R=>match (ρ[i]? :Option Sl)with
 |some (.sh u)=>R (.sh u)
 |some (.ow l)=>R (.br l)
 |some (.br l)=>R (.br l)
 |some (.oo o)=>R (.bo o)
 |some (.bo o)=>R (.bo o)
 |_=>False
def vC (u:U):TV:=λ_ R=>R (.sh u)
def vOp (g:U->U->(Sl->Prop)->Prop) (a b:TV):TV:=λρ R=>a ρ λs=>b ρ λs'=>g s.rd s'.rd R
def qR (F:TV):TVc:=λρ R=>F ρ λs=>match s.rd with
 | .v (.bl c)=>R c
 |_=>False
def aVq (a b:TVc):TVc:=λρ R=>a ρ λc=>(c=true->b ρ R)/\(c=false->R false)
def vOr (a b:TVc):TVc:=λρ R=>a ρ λc=>(c=true->R true)/\(c=false->b ρ R)
def aVu (a:TVc):TVc:=λρ R=>a ρ λc=>R (!c)
def aLr:TVa:=λ_ R=>R []
def aHn (a:TV) (b:TVa):TVa:=λρ R=>a ρ λs=>s.es λu=>b ρ λus=>R (u::us)
def aW7 (a:TV) (b:TVa):TVa:=λρ R=>a ρ λs=>b ρ λus=>R (s.rd::us)
def aXw (a:TVa):TV:=λρ R=>a ρ λus=>R (.sh (.tp us))
def aYx (a:TVa):TV:=λρ R=>a ρ λus=>R (.ow us)
def aXe (F:List U->(Sl->Prop)->Prop) (a:TVa):TV:=λρ R=>a ρ λus=>F us R
inductive aW0 (F:List U->(Sl->Prop)->Prop) (vs:List V) (H:Hp) (Q:VK) (z3_:XK):Prop
 |mk (W B us R:_) (q0_:EB W B H) (q1_:DUs W B H us vs) (q2_:F us R) (q3_:∀s v H',R s->Fw W H H'->RO W B H H' s v->Q v H'):aW0 F vs H Q z3_
def spV (F:List U->(Sl->Prop)->Prop):Sp:=λvs H Q z3_=>aW0 F vs H Q z3_
section
variable {X:Cx}
theorem aA (i:Nat) {x:Str} {pos:Pos} (hN:X.N[i]? =some x:=by rfl) (hv:Vis X.env.scope x:=by first|exact Bw rfl|exact Cb (Bw rfl)|exact Cb (Cb rfl)) (hd:(x==("__debug__":Str))=false:=by decide)
  (hcd:(x==("__classdict__":Str))=false:=by decide):VE X (.Name x pos) (aN1 i):=⟨_,mZ hN hv hd hcd,λ{W B ρ σ H R Q} e h q=>by
 unfold aN1 at h;split at h
 ·rename_i u hu;obtain⟨v,h1,h2⟩:=e.sh i u hu;exact⟨v,h1,q _ _ _ h e.eb.refl h2⟩
 ·rename_i l hu;obtain⟨p,xs,h1,h2,h3,h4⟩:=e.ow i l (.inl hu);exact⟨_,h1,q _ _ _ h e.eb.refl ⟨p,xs,rfl,h2,h3,h4⟩⟩
 ·rename_i l hu;obtain⟨p,xs,h1,h2,h3,h4⟩:=e.ow i l (.inr hu);exact⟨_,h1,q _ _ _ h e.eb.refl ⟨p,xs,rfl,h2,h3,h4⟩⟩
 ·rename_i o hu;obtain⟨p,S,h1,h2,h3⟩:=e.hd i _ o hu rfl;exact⟨_,h1,q _ _ _ h e.eb.refl ⟨p,S,rfl,h2,h3⟩⟩
 ·rename_i o hu;obtain⟨p,S,h1,h2,h3⟩:=e.hd i _ o hu rfl;exact⟨_,h1,q _ _ _ h e.eb.refl ⟨p,S,rfl,h2,h3⟩⟩
 ·exact h.elim⟩
theorem aKz {x:V} (f:jE x=true):VT (tC x) (vC (.v x)):=λe h q=>q _ _ _ h e.eb.refl ⟨rfl,f⟩
theorem aF {i j pos}:VE X (.Constant (.int i) j pos) (vC (.n i)):=⟨_,dI,aKz rfl⟩
theorem bN {x j pos}:VE X (.Constant (.str x) j pos) (vC (.s x)):=⟨_,bU,aKz rfl⟩
theorem vI {b j pos}:VE X (.Constant (.bool b) j pos) (vC (.b b)):=⟨_,aXl,aKz rfl⟩
theorem pB {j pos}:VE X (.Constant .none j pos) (vC .no):=⟨_,aUs,aKz rfl⟩
theorem aHz {r:R2} {g:U->U->(Sl->Prop)->Prop} {ta tb:TE} {F G:TV} (o:O2 r g) (ha:VT ta F) (hb:VT tb G):VT (tOp r ta tb) (vOp g F G):=λe h q=>by
 refine ha e h λs v H1 h1 f1 r1=>?_;have e1:=e.to f1;refine hb e1 h1 λs' v' H2 h2 f2 r2=>?_;refine o (e1.to f2).eb ((r1.db e.eb).to e1.eb f2) (r2.db e1.eb) h2 λs3 z H3 h3 f3 r3=>?_;exact q _ _ _ h3 ((f1.trans f2).trans f3) (r3.back (f1.trans f2))
end
section
variable {X:Cx}
theorem aU {op:Operator} {r:R2} {g:U->U->(Sl->Prop)->Prop} {a b:Expr} {pos:Pos} {F G:TV} (ho:OpR X (binaryOp op) r) (o:O2 r g) (ha:VE X a F) (hb:VE X b G):VE X (.BinOp a op b pos) (vOp g F G):=
 let⟨_,p,f⟩:=ha;let⟨_,p',f'⟩:=hb;⟨_,pQ ho p p',aHz o f f'⟩
theorem bT {r:R2} {g:U->U->(Sl->Prop)->Prop} {a b:Expr} {pos:Pos} {F G:TV} (ho:IxR X r) (o:O2 r g) (ha:VE X a F) (hb:VE X b G) (hs:aHt b:=by exactλ_ _=>rfl):VE X (.Subscript a b pos) (vOp g F G):=
 let⟨_,p,f⟩:=ha;let⟨_,p',f'⟩:=hb;⟨_,wM ho p p' hs,aHz o f f'⟩
theorem aCg {op:CmpOp} {r:R2} {g:U->U->(Sl->Prop)->Prop} {a b:Expr} {pos:Pos} {F G:TV} (ho:OpR X (compareOp op) r) (o:O2 r g) (ha:VE X a F) (hb:VE X b G) (hm:behindInMarks op b=false:=by first|exact cZ _|rfl):VE X (.Compare a [op] [b] pos) (vOp g F G):=
 let⟨_,p,f⟩:=ha;let⟨_,p',f'⟩:=hb;⟨_,aDp ho p p' hm,aHz o f f'⟩
theorem yN {t:TE} {F:TV} (h:VT t F):VTc (aN7 t) (qR F):=λe h1 q=>h e h1 λs v H1 h2 f r=>by
 have d:=r.db e.eb;revert h2 d;generalize s.rd=u;intro h2 d;split at h2
 ·exact⟨_,d.fl.1,q _ _ h2 f⟩
 ·exact h2.elim
theorem cI {op:CmpOp} {r:R2} {g:U->U->(Sl->Prop)->Prop} {a b:Expr} {pos:Pos} {F G:TV} (ho:OpR X (compareOp op) r) (o:O2 r g) (ha:VE X a F) (hb:VE X b G) (hm:behindInMarks op b=false:=by first|exact cZ _|rfl):VC X (.Compare a [op] [b] pos) (qR (vOp g F G)):=
 let⟨_,p,f⟩:=ha;let⟨_,p',f'⟩:=hb;⟨_,cL ho p p' hm,yN (aHz o f f')⟩
theorem gW {a:Expr} {F:TV} (ha:VE X a F) (he:∀whole,isTrue a X.env whole=(do let v<-whole;standAt a.pos;holding [v] (truthy v)):=by intro _;rfl):VC X a (qR F):=
 let⟨_,p,f⟩:=ha;⟨_,zW p he,yN f⟩
theorem gJ {a:Expr} {pos:Pos} {F:TVc} (ha:VC X a F):VC X (.UnaryOp .Not a pos) (aVu F):=let⟨_,p,f⟩:=ha;⟨_,aCu p,λe h q=>f e h λc H1 h1 f1=>q _ _ h1 f1⟩
theorem uF {a:Expr} {F:TVc} (ha:VW X a F):VC X a F:=let⟨_,p,f⟩:=ha;⟨_,p.pt,f⟩
theorem aP8 {a:Expr} {pos:Pos} {F:TVc} (ha:VC X a F):VW X (.BoolOp .And [a] pos) F:=let⟨_,p,f⟩:=ha;⟨_,aC7 p,f⟩
theorem qY {a:Expr} {pos:Pos} {F:TVc} (ha:VC X a F):VW X (.BoolOp .Or [a] pos) F:=let⟨_,p,f⟩:=ha;⟨_,aNd p,f⟩
theorem aS9 {a b:Expr} {rest:List Expr} {pos:Pos} {F G:TVc} (ha:VC X a F) (hb:VW X (.BoolOp .And (b::rest) pos) G):VW X (.BoolOp .And (a::b::rest) pos) (aVq F G):=
 let⟨_,p,f⟩:=ha;let⟨_,p',f'⟩:=hb;⟨_,aFw p p',λe h q=>f e h λc H1 h1 f1=>by
  cases c with
  |true=>exact aD2 (f' (e.to f1) (h1.1 rfl) λc H2 h2 f2=>q _ _ h2 (f1.trans f2))
  |false=>exact pX (q _ _ (h1.2 rfl) f1)⟩
theorem wQ {a b:Expr} {rest:List Expr} {pos:Pos} {F G:TVc} (ha:VC X a F) (hb:VW X (.BoolOp .Or (b::rest) pos) G):VW X (.BoolOp .Or (a::b::rest) pos) (vOr F G):=
 let⟨_,p,f⟩:=ha;let⟨_,p',f'⟩:=hb;⟨_,aRr p p',λe h q=>f e h λc H1 h1 f1=>by
  cases c with
  |true=>exact aD2 (q _ _ (h1.1 rfl) f1)
  |false=>exact pX (f' (e.to f1) (h1.2 rfl) λc H2 h2 f2=>q _ _ h2 (f1.trans f2))⟩
def vB (F:TVc):TV:=λρ R=>F ρ λc=>R (.sh (.b c))
theorem aUo {t:TE} {F:TV} {ρ:EV} {σ:St} {W B:Addr->Prop} {H:Hp} {R:Bool->Prop} {Q:VK} (f:VT t F) (e:EE W B H ρ σ) (h:qR F ρ R) (q:∀c H1,R c->Fw W H H1->Q (.bl c) H1):t σ H Q:=f e h λs v H1 h1 f1 r=>by
 have d:=r.db e.eb;revert h1 d;generalize s.rd=u;intro h2 d;split at h2
 ·rw [d.fl.1];exact q _ _ h2 f1
 ·exact h2.elim
theorem aC9 {a b:Expr} {rest:List Expr} {pos:Pos} {F G:TV} (ha:VE X a F) (hb:VE X (.BoolOp .And (b::rest) pos) G):VE X (.BoolOp .And (a::b::rest) pos) (vB (aVq (qR F) (qR G))):=
 let⟨ta,p,f⟩:=ha;let⟨_,p',f'⟩:=hb;⟨_,aM9 p p',λe h q=>show ta _ _ _ from aUo f e h λc H1 h1 f1=>by
  refine⟨c,rfl,?_⟩;cases c with
  |true=>exact aD2 (aUo f' (e.to f1) (h1.1 rfl) λc H2 h2 f2=>q _ _ _ h2 (f1.trans f2) ⟨rfl,rfl⟩)
  |false=>exact pX (q _ _ _ (h1.2 rfl) f1 ⟨rfl,rfl⟩)⟩
theorem aS4 {a:Expr} {pos:Pos} {F:TV} (ha:VE X a F):VE X (.UnaryOp .Not a pos) (vB (aVu (qR F))):=
 let⟨ta,p,f⟩:=ha;⟨_,aUz p,λe h q=>show ta _ _ _ from aUo f e h λc H1 h1 f1=>⟨c,rfl,q _ _ _ h1 f1 ⟨rfl,rfl⟩⟩⟩
theorem aH:VA X [] aLr:=⟨_,aZ,λe h q=>q _ _ _ h rfl e.eb.refl rfl⟩
theorem aB {a:Expr} {es:List Expr} {F:TV} {G:TVa} (ha:VE X a F) (hb:VA X es G) (hs:starEach (a::es) X.env=(false,eval a X.env)::starEach es X.env:=by rfl):VA X (a::es) (aHn F G):=
 let⟨_,p,f⟩:=ha;let⟨_,p',f'⟩:=hb;⟨_,aM p p' hs,λe h q=>f e h λs v H1 h1 f1 r1=>by
  obtain⟨u,h1,d⟩:=r1.du e.eb h1;exact f' (e.to f1) h1 λus vs H2 h2 l2 f2 d2=>q _ _ _ h2 (by rw [Ag,l2];rfl) (f1.trans f2) ⟨v,vs,rfl,DU.mono ((e.to f1).eb.keep f2) u d,d2⟩⟩
theorem aX:VB X [] aLr:=⟨_,aZ,λe h q=>q _ _ _ h e.eb.refl rfl⟩
theorem aN {a:Expr} {es:List Expr} {F:TV} {G:TVa} (ha:VE X a F) (hb:VB X es G) (hs:starEach (a::es) X.env=(false,eval a X.env)::starEach es X.env:=by rfl):VB X (a::es) (aW7 F G):=
 let⟨_,p,f⟩:=ha;let⟨_,p',f'⟩:=hb;⟨_,aM p p' hs,λe h q=>f e h λs v H1 h1 f1 r1=>
  f' (e.to f1) h1 λus vs H2 h2 f2 d2=>q _ _ _ h2 (f1.trans f2) ⟨v,vs,rfl,(r1.db e.eb).to (e.to f1).eb f2,d2⟩⟩
theorem cW {es:List Expr} {x1} {pos:Pos} {F:TVa} (h:VA X es F) (hl:es.length<=100:=by decide):VE X (.Tuple es x1 pos) (aXw F):=
 let⟨_,p,f⟩:=h;⟨_,aTg p,λe h q=>f e h λus vs H1 h1 l1 f1 d=>⟨by
  have:=d.length;have:(100:Nat)<=sizeLine:=by decide
  omega,λp n=>by
  have e1:=(e.to f1).eb;have f2:=e1.new (o:= .tup vs) n;exact q _ _ _ h1 (f1.trans f2) ⟨p,vs,rfl,e1.nw n,aK,DUs.mono (e1.keep f2) us d⟩⟩⟩
theorem cB {es:List Expr} {pos:Pos} {F:TVa} (h:VA X es F) (hl:es.length<=100:=by decide):VE X (.List es pos) (aYx F):=
 let⟨_,p,f⟩:=h;⟨_,aMz p,λ{W B ρ σ H R Q} e h q=>f e h λus vs H1 h1 l1 f1 d=>⟨by
  have:=d.length;have:(100:Nat)<=sizeLine:=by decide
  omega,λp n=>by
  have e1:=(e.to f1).eb;have f2:=e1.new (o:= .lst vs) n;exact q _ _ _ h1 (f1.trans f2) (RO.back (s:= .ow us) f1 ⟨p,vs,rfl,n,aK,DUs.mono (λb o nb h=>⟨λz=>z.elim nb (aQ h n),(e1.keep f2 b o nb h).2⟩) us d⟩)⟩⟩
theorem aO {k:Nat} {x:Str} {ps:List Str} {F:List U->(Sl->Prop)->Prop} {a:Expr} {es:List Expr} {G:TVa} {p pos:Pos} (C:Cal X.prog X.w X.K X.mg X.base CX0 k x ps (spV F)) (hr:dN k X.A) (hg:Gl X x)
  (ha:VA X (a::es) G) (hdb:(x==("__debug__":Str))=false:=by decide) (he:starEach (a::es) X.env=(false,eval a X.env)::starEach es X.env:=by rfl) (hpl:(backTo pos (starEach es X.env)).any (·.1)=false:=by rfl):
  VE X (.Call (.Name x p) (a::es) [] pos) (aXe F G):=
 let⟨_,p,f⟩:=ha;⟨_,aT7 C hr hg bG p hdb he hpl,λe h q=>f e h λus vs H1 h1 l1 f1 d=>by
  refine⟨_,_,us,_,(e.to f1).eb,(by rw [Bo];exact d),h1,λs v H2 h2 f2 r2=>q _ _ _ h2 (f1.trans f2) (r2.back f1)⟩⟩
structure Cfl (K:Ac) (C:Addr) (fs:List Str):Prop where
 cl:Cls K C
 na:∀f∈fs,jY K C f
def wI (f:Str):List Str->List U->(Sl->Prop)->Prop
 |n::ns,u::us,R=>(n=f/\R (.sh u))∨(n≠f/\wI f ns us R)
 |_,_,_=>False
theorem aHy {W B:Addr->Prop} {H:Hp} {f:Str} {R:Sl->Prop}:∀{ns:List Str} {us:List U} {xs:List V},DUs W B H us xs->wI f ns us R->∃u v,R (.sh u)/\DU W B H u v/\(ns.zip xs).lookup f=some v
 |_::_,u::us,_,⟨x,r,e,h,t⟩,q=>by
  subst e;rcases q with ⟨rfl,q⟩|⟨n,q⟩
  ·exact⟨u,x,q,h,by simp [Bn]⟩
  ·obtain⟨u',v,h1,h2,h3⟩:=aHy t q;refine⟨u',v,h1,h2,?_⟩;rw [Gb,Bn,show(f==_)=false from beq_eq_false_iff_ne.mpr (Di n)];exact h3
def vFl (C:Addr) (a:TV) (f:Str):TV:=λρ R=>a ρ λs=>match s.rd with
 | .ob C' ns us=>C'=C/\wI f ns us R
 |_=>False
theorem dC {C:Addr} {fs:List Str} {a:Expr} {f:Str} {pos:Pos} {F:TV} (c:Cfl X.K C fs) (ha:VE X a F) (hf:f∈fs:=by decide) (hb:attributeBase a f X.env (eval a X.env)=eval a X.env:=by rfl):VE X (.Attribute a f pos) (vFl C F f):=
 let⟨_,p,g⟩:=ha;⟨_,lM p hb,λe h q=>g e h λs v H1 h1 f1 r1=>by
  have d:=r1.db e.eb;revert h1 d;generalize s.rd=u;intro h1 d;split at h1
  ·obtain⟨rfl,h1⟩:=h1;obtain⟨p,dx,xs,rfl,_,hp,hl,ds⟩:=d.ob;obtain⟨u,v,h2,h3,h4⟩:=aHy ds h1;exact⟨p,_,dx,_,v,rfl,hp,c.cl,c.na f hf,h4,q _ _ _ h2 f1 h3⟩
  ·exact h1.elim⟩
def mOb (Cs:Addr->Prop) (m:Str) (F:Addr->List U->(Sl->Prop)->Prop) (G:TVa) (ρ:EV) (R:Sl->Prop):U->Prop
 | .ob C ns us=>Cs C/\ns.elem m=false/\G ρ λvs=>F C (.ob C ns us::vs) R
 |_=>False
def aSs (Cs:Addr->Prop) (m:Str) (F:Addr->List U->(Sl->Prop)->Prop) (a:TV) (G:TVa):TV:=λρ R=>a ρ λs=>s.es (mOb Cs m F G ρ R)
theorem aGd {m:Str}:∀{ns:List Str} {xs:List V},ns.elem m=false->(ns.zip xs).lookup m=none
 | [],_,_=>by simp
 |_::_,[],_=>by simp
 |n::ns,x::xs,h=>by
  simp only [Rc]at h;rw [Gb,Bn];cases e:m==n with
  |true=>rw [e]at h;cases h
  |false=>
   rw [e]at h;exact aGd h
theorem aDi {k:Nat} {Cs:Addr->Prop} {m:Str} {ps:List Str} {F:Addr->List U->(Sl->Prop)->Prop} {o a:Expr} {es:List Expr} {apos pos:Pos} {Fo:TV} {G:TVa} {pl:Sem Bool} (ho:VE X o Fo) (D:Dis X.prog X.w X.K X.mg X.base CX0 k Cs m ps λC=>spV (F C)) (hr:dN k X.A) (ha:VA X (a::es) G)
  (hst:starEach (a::es) X.env=(false,eval a X.env)::starEach es X.env:=by rfl) (hpl:(backTo pos (starEach es X.env)).any (·.1)=false:=by rfl)
  (ht:eval (.Call (.Attribute o m apos) (a::es) [] pos) X.env=(do
   let ov<-eval o X.env
   standAt apos.atName
   let(f,first)<-holding [ov] (getMethod ov m pl)
   callWith pos f first (backTo pos (starEach (a::es) X.env)) (backToKw pos (keywordEach [] X.env))):=by rfl):
  VE X (.Call (.Attribute o m apos) (a::es) [] pos) (aSs Cs m F Fo G):=
 let⟨_,p,g⟩:=ho;let⟨_,p',g'⟩:=ha;⟨_,cF p D hr bG p' hst hpl ht,λe h q=>g e h λs v H1 h1 f1 r1=>by
  obtain⟨u,h1,d⟩:=r1.du e.eb h1;match u,h1,d with
  | .ob C ns us,⟨hC,hm,h1⟩,d=>
   obtain⟨p,dx,xs,rfl,nb,hp,hl,ds⟩:=id d;refine⟨p,C,dx,_,rfl,hp,hC,aGd hm,g' (e.to f1) h1 λvs ws H2 h2 _ f2 d2=>?_⟩;have e2:=(e.to f1).eb;exact⟨_,_,.ob C ns us::vs,_,e2.to f2,⟨_,_,rfl,DU.mono (e2.keep f2) _ d,d2⟩,h2,λs v H3 h3 f3 r3=>q _ _ _ h3 ((f1.trans f2).trans f3) (r3.back (f1.trans f2))⟩⟩
theorem cA {k:Nat} {Cs:Addr->Prop} {m:Str} {ps:List Str} {F:Addr->List U->(Sl->Prop)->Prop} {o:Expr} {apos pos:Pos} {Fo:TV} {pl:Sem Bool} (ho:VE X o Fo) (D:Dis X.prog X.w X.K X.mg X.base CX0 k Cs m ps λC=>spV (F C)) (hr:dN k X.A)
  (ht:eval (.Call (.Attribute o m apos) [] [] pos) X.env=(do
   let ov<-eval o X.env
   standAt apos.atName
   let(f,first)<-holding [ov] (getMethod ov m pl)
   callWith pos f first (backTo pos (starEach [] X.env)) (backToKw pos (keywordEach [] X.env))):=by rfl):
  VE X (.Call (.Attribute o m apos) [] [] pos) (aSs Cs m F Fo aLr):=
 let⟨_,p,g⟩:=ho;⟨_,bJ p D hr bG ht,λe h q=>g e h λs v H1 h1 f1 r1=>by
  obtain⟨u,h1,d⟩:=r1.du e.eb h1;match u,h1,d with
  | .ob C ns us,⟨hC,hm,h1⟩,d=>
   obtain⟨p,dx,xs,rfl,nb,hp,hl,ds⟩:=id d;exact⟨p,C,dx,_,rfl,hp,hC,aGd hm,_,_,[.ob C ns us],_,(e.to f1).eb,⟨_,_,rfl,d,rfl⟩,h1,λs v H3 h3 f3 r3=>q _ _ _ h3 (f1.trans f3) (r3.back f1)⟩⟩
end
def gI (f:Int->Int->V):U->U->(Sl->Prop)->Prop
 | .v (.int i),.v (.int j),R=>R (.sh (.v (f i j)))
 |_,_,_=>False
def gIC (C:Int->Int->Prop) (f:Int->Int->V):U->U->(Sl->Prop)->Prop
 | .v (.int i),.v (.int j),R=>C i j/\R (.sh (.v (f i j)))
 |_,_,_=>False
theorem cC {f:Int->Int->V} (hf:∀i j,jE (f i j)=true:=by intros;rfl):O2 (rI0 f) (gI f):=λ{W B H u v x y R Q} e d1 d2 h q=>by
 unfold gI at h;split at h
 ·rename_i i j;exact⟨i,j,d1.int,d2.int,q _ _ _ h e.refl ⟨rfl,hf i j⟩⟩
 ·exact h.elim
theorem jK {C:Int->Int->Prop} {f:Int->Int->V} (hf:∀i j,jE (f i j)=true:=by intros;rfl):O2 (rI C f) (gIC C f):=λ{W B H u v x y R Q} e d1 d2 h q=>by
 unfold gIC at h;split at h
 ·rename_i i j;exact⟨i,j,d1.int,d2.int,h.1,q _ _ _ h.2 e.refl ⟨rfl,hf i j⟩⟩
 ·exact h.elim
theorem aQr {α β:Type} {xs:List α} {ys:List β} {i:Int} {x:α} (e:xs.length=ys.length) (h:atI xs i=some x):∃(j:Nat) (y:β),xs[j]? =some x/\ys[j]? =some y/\atI ys i=some y:=by
 unfold atI at h⊢;rw [<-e];cases q:ixN xs.length i with
 |none=>rw [q]at h;cases h
 |some j=>
  rw [q]at h;have h':xs[j]? =some x:=h;have hj:=(List.getElem?_eq_some_iff.mp h').1;exact⟨j,_,h',Al (by rw [<-e];exact hj),Al (by rw [<-e];exact hj)⟩
theorem DUs.atI {W B:Addr->Prop} {H:Hp} {l:List U} {xs:List V} {i:Int} {u:U} (d:DUs W B H l xs) (h:atI l i=some u):∃x,L2.atI xs i=some x/\DU W B H u x:=by
 obtain⟨j,x,h1,h2,h3⟩:=aQr d.length h;obtain⟨y,h4,h5⟩:=d.get h1;rw [h2]at h4;cases h4;exact⟨x,h3,h5⟩
def aXb:U->U->(Sl->Prop)->Prop
 | .ls l,.v (.int i),R=>∃u,atI l i=some u/\R (.sh u)
 |_,_,_=>False
def aVr:U->U->(Sl->Prop)->Prop
 | .tp l,.v (.int i),R=>∃u,atI l i=some u/\R (.sh u)
 |_,_,_=>False
theorem aUc {K:Ac}:O2 (aTk K) aXb:=λ{W B H u v x y R Q} e d1 d2 h q=>by
 unfold aXb at h;split at h
 ·obtain⟨w,h1,h2⟩:=h;obtain⟨p,xs,rfl,_,hp,ds⟩:=d1.ls e;obtain⟨z,h3,h4⟩:=ds.atI h1;exact⟨p,xs,_,z,rfl,d2.int,SqL.of hp,h3,q _ _ _ h2 e.refl h4⟩
 ·exact h.elim
theorem aVc {K:Ac}:O2 (aT1 K) aVr:=λ{W B H u v x y R Q} e d1 d2 h q=>by
 unfold aVr at h;split at h
 ·obtain⟨w,h1,h2⟩:=h;obtain⟨p,xs,rfl,_,hp,ds⟩:=d1.tp;obtain⟨z,h3,h4⟩:=ds.atI h1;exact⟨p,xs,_,z,rfl,d2.int,SqT.of hp,h3,q _ _ _ h2 e.refl h4⟩
 ·exact h.elim
mutual
def U.d:U->D
 | .v x=> .fl x
 | .tp l=> .tp (U.ds l)
 | .ls l=> .ls (U.ds l)
 |_=> .fl .non
def U.ds:List U->List D
 | []=>[]
 |u::l=>U.d u::U.ds l
end
mutual
def U.dt:Nat->U->Prop
 |_,.v _=>True
 |n+1,.tp l=>U.dts n l
 |n+1,.ls l=>U.dts n l
 |_,_=>False
def U.dts:Nat->List U->Prop
 |_,[]=>True
 |n,u::l=>U.dt n u/\U.dts n l
end
section
variable {W B:Addr->Prop} {H:Hp} {K:Ac}
mutual
theorem DU.den:∀(n:Nat) (u:U) {v:V},u.dt n->DU W B H u v->Den K H u.d v
 |_,.v _,_,_,h=>h
 |n+1,.tp l,_,t,⟨p,xs,e,_,hp,ds⟩=>⟨p,xs,e,SqT.of hp,DUs.dens n l t ds⟩
 |n+1,.ls l,_,t,⟨p,xs,e,_,hp,ds⟩=>⟨p,xs,e,SqL.of hp,DUs.dens n l t ds⟩
theorem DUs.dens:∀(n:Nat) (l:List U) {xs:List V},U.dts n l->DUs W B H l xs->wD K H (U.ds l) xs
 |_,[],_,_,h=>h
 |n,u::l,_,⟨t,t'⟩,⟨x,r,e,h,h'⟩=>⟨x,r,e,DU.den n u t h,DUs.dens n l t' h'⟩
end
mutual
theorem U.dep:∀(n:Nat) (u:U),u.dt n->u.d.dep<=n
 |_,.v _,_=>Bb _
 |n+1,.tp l,t=>Kx (U.deps n l t)
 |n+1,.ls l,t=>Kx (U.deps n l t)
theorem U.deps:∀(n:Nat) (l:List U),U.dts n l->D.deps (U.ds l)<=n
 |_,[],_=>Bb _
 |n,u::l,⟨t,t'⟩=>Nat.max_le.mpr ⟨U.dep n u t,U.deps n l t'⟩
end
theorem DB.den {n:Nat} {u:U} {v:V} (t:u.dt n) (h:DB W B H u v):Den K H u.d v:=by
 rcases h with h|⟨l,p,xs,rfl,rfl,w,h1,h2⟩
 ·exact DU.den n u t h
 ·match n,t with
  |n+1,t=>exact⟨p,xs,rfl,SqL.of h1,DUs.dens n l t h2⟩
end
def U.eq (u v:U):Bool:=u.d.eq v.d
def gEq (neg:Bool):U->U->(Sl->Prop)->Prop:=λu v R=>u.dt 40/\v.dt 40/\R (.sh (.b (if neg then !u.eq v else u.eq v)))
theorem kO {K:Ac} {neg:Bool}:O2 (aUg K neg) (gEq neg):=λ{W B H u v x y R Q} e d1 d2 ⟨t1,t2,h⟩ q=>by
 have h1:=U.dep 40 u t1;have h2:=U.dep 40 v t2;exact⟨u.d,v.d,d1.den t1,d2.den t2,by omega,q _ _ _ h e.refl ⟨rfl,rfl⟩⟩
structure aD1 where
 nx:EV->Prop
 rt:Sl->Prop
 bk:EV->Prop:=λ_=>False
 ct:EV->Prop:=λ_=>False
abbrev TVS:=aD1->EV->Prop
def Bx (B:Addr->Prop) (A:Nat->Addr->Prop) (p:Addr):Prop:=B p∨∃i,A i p
def Sl.brd:Sl->Bool
 | .br _=>true
 | .bo _=>true
 |_=>false
structure EO (W B:Addr->Prop) (H0:Hp) (A:Nat->Addr->Prop) (ρ:EV) (σ:St) (H:Hp):Prop where
 eb:EB W B H0
 fw:Fw W H0 H
 len:ρ.length=σ.length
 an:∀i p,A i p->H0 p=none
 aw:∀i p,A i p->∃o,H p=some o/\Mt o
 inj:∀i j p,A i p->A j p->i=j
 sh:∀(i:Nat) (u:U),ρ[i]? =some (Sl.sh u)->∃v,σ[i]? =some (some v)/\DU W (Bx B A) H u v
 hd:∀(i:Nat) (s:Sl) (w:Own),ρ[i]? =some s->s.hold=some w->∃p,σ[i]? =some (some (V.ref p))/\w.φ W (Bx B A) (A i) H p
 nb:∀(i:Nat) (s:Sl),ρ[i]? =some s->s.brd=false
theorem EO.ow {W B:Addr->Prop} {H0 H:Hp} {A:Nat->Addr->Prop} {ρ:EV} {σ:St} (o:EO W B H0 A ρ σ H) (i:Nat) (l:List U) (h:ρ[i]? =some (Sl.ow l)):∃p xs,σ[i]? =some (some (V.ref p))/\(∀b,A i b↔b=p)/\H p=some (.lst xs)/\DUs W (Bx B A) H l xs:=let⟨p,h1,h2,xs,h3⟩:=o.hd i _ _ h rfl;⟨p,xs,h1,h2,h3⟩
structure aY4 (W B:Addr->Prop) (H0:Hp) (E:aD1) (D:Ends):Prop where
 nx:∀{A ρ σ H},EO W B H0 A ρ σ H->E.nx ρ->D.nx σ H
 bk:∀{A ρ σ H},EO W B H0 A ρ σ H->E.bk ρ->D.bk σ H
 ct:∀{A ρ σ H},EO W B H0 A ρ σ H->E.ct ρ->D.ct σ H
 rt:∀{s v H},Fw W H0 H->RO W B H0 H s v->E.rt s->D.rt v H
def VTs (t:TS) (G:TVS):Prop:=∀{W B:Addr->Prop} {H0:Hp} {A:Nat->Addr->Prop} {ρ:EV} {σ:St} {H:Hp} {E:aD1} {D:Ends},EO W B H0 A ρ σ H->G E ρ->aY4 W B H0 E D->t D σ H
def VS (X:Cx) (st:Stmt) (G:TVS):Prop:=∃t,PS X st t/\VTs t G
def VSs (X:Cx) (st:List Stmt) (G:TVS):Prop:=∃t,PSs X st t/\VTs t G
section
variable {W B:Addr->Prop} {H0 H H1:Hp} {A:Nat->Addr->Prop} {ρ:EV} {σ:St}
theorem EO.now (o:EO W B H0 A ρ σ H) {p:Addr} (h:H0 p=none):¬B p:=λz=>o.eb.dm p z h
theorem EO.awn (o:EO W B H0 A ρ σ H) {i:Nat} {p:Addr} (h:A i p):H p≠none:=λn=>by
 obtain⟨xs,q,_⟩:=o.aw i p h;rw [q]at n;cases n
theorem EO.nw (o:EO W B H0 A ρ σ H) {i:Nat} {p:Addr} (h:A i p):¬W p:=λz=>o.now (o.an i p h) (o.eb.wb p z)
theorem EO.ee (o:EO W B H0 A ρ σ H):EE W (Bx B A) H ρ σ:=
 ⟨⟨λp h=>h.elim ((o.eb.to o.fw).bl p) λ⟨i,h⟩=>o.aw i p h,λp w=> .inl (o.eb.wb p w),o.fw.wo⟩,o.len,o.sh,λi s w h hs=>let⟨p,h1,h3⟩:=o.hd i s w h hs;⟨p,_,h1,λ_=>o.nw,h3⟩⟩
theorem EO.to (o:EO W B H0 A ρ σ H) (f:Fw W H H1):EO W B H0 A ρ σ H1:=by
 have e:=o.ee;have e1:=e.to f;refine⟨o.eb,o.fw.trans f,o.len,o.an,λi p h=>e1.eb.bl p (.inr ⟨i,h⟩),o.inj,e1.sh,λi s w h hs=>?_,o.nb⟩;obtain⟨p,h1,h3⟩:=o.hd i s w h hs;exact⟨p,h1,w.to e.eb f (λ_=>o.nw) h3⟩
theorem cR {α:Type} {l:List α} {i j:Nat} {x y:α} (h:(l.set i x)[j]? =some y):(j=i/\y=x/\i<l.length)∨(j≠i/\l[j]? =some y):=by
 rw [Jz]at h;split at h
 ·rename_i e;split at h
  ·cases h;exact .inl ⟨e.symm,rfl,by assumption⟩
  ·cases h
 ·rename_i e;exact .inr ⟨λz=>e z.symm,h⟩
theorem get_set {α:Type} {l:List α} {i:Nat} {x:α} (h:i<l.length):(l.set i x)[i]? =some x:=by rw [Jz];simp [h]
theorem fL {α:Type} {l:List α} {i j:Nat} {x:α} (h:j≠i):(l.set i x)[j]? =l[j]? :=by rw [Jz,if_neg (Di h)]
theorem EO.kp {i:Nat}:∀b o,¬Bx B A b->H b=some o->¬Bx B (λj q=>j≠i/\A j q) b/\H b=some o:=λb o n h=>⟨λz=>n (z.elim .inl λ⟨j,h⟩=> .inr ⟨j,h.2⟩),h⟩
theorem Own.at_ (w:Own) {S T:Addr->Prop} {p:Addr} (h:w.φ W B S H p) (e:∀b,T b↔S b):w.φ W B T H p:=by
 rw [show T=S from funext λb=>propext (e b)];exact h
theorem aGs {i j:Nat} (n:j≠i):∀b,(j≠i/\A j b)↔A j b:=λ_=>⟨λh=>h.2,λh=>⟨n,h⟩⟩
theorem EO.setSh (o:EO W B H0 A ρ σ H) {i:Nat} {u:U} {v:V} (d:DU W (Bx B A) H u v):EO W B H0 (λj q=>j≠i/\A j q) (ρ.set i (.sh u)) (σ.set i (some v)) H:=by
 refine⟨o.eb,o.fw,by rw [Ck,Ck,o.len],λj p h=>o.an j p h.2,λj p h=>o.aw j p h.2,λj j' p h h'=>o.inj j j' p h.2 h'.2,λj u' h=>?_,λj s w h hs=>?_,λj s h=>?_⟩
 ·rcases cR h with ⟨rfl,e,hl⟩|⟨ne,h⟩
  ·cases e;exact⟨v,get_set (o.len▸hl),DU.mono EO.kp u d⟩
  ·obtain⟨v',h1,h2⟩:=o.sh j u' h;exact⟨v',by rw [fL ne];exact h1,DU.mono EO.kp u' h2⟩
 ·rcases cR h with ⟨rfl,rfl,hl⟩|⟨ne,h⟩
  ·cases hs
  ·obtain⟨p,h1,h3⟩:=o.hd j s w h hs;exact⟨p,by rw [fL ne];exact h1,w.at_ (w.mono EO.kp (λ_ _=>rfl) h3) (aGs ne)⟩
 ·rcases cR h with ⟨rfl,rfl,hl⟩|⟨ne,h⟩
  ·rfl
  ·exact o.nb j s h
theorem EO.setOo (o:EO W B H0 A ρ σ H) (f:Fw W H H1) {i:Nat} {s:Sl} {w:Own} {S:Addr->Prop} {p:Addr} (hs:s.hold=some w) (hb:s.brd=false) (n:∀b,S b->H b=none) (d:w.φ W (λb=>Bx B A b∨S b) S H1 p):
  EO W B H0 (λj q=>(j=i/\S q)∨(j≠i/\A j q)) (ρ.set i s) (σ.set i (some (.ref p))) H1:=by
 have o1:=o.to f;have k0:∀b o,¬(Bx B A b∨S b)->H1 b=some o->¬Bx B (λj q=>(j=i/\S q)∨(j≠i/\A j q)) b/\H1 b=some o:=λb o n h=>⟨λz=>n (z.elim (λz=> .inl (.inl z)) λ⟨j,h⟩=>h.elim (λz=> .inr z.2) λz=> .inl (.inr ⟨j,z.2⟩)),h⟩;have k:∀b o,¬Bx B A b->H b=some o->¬Bx B (λj q=>(j=i/\S q)∨(j≠i/\A j q)) b/\H1 b=some o:=λb x nb h=>k0 b x (λz=>z.elim nb λz=>by rw [n b z]at h;cases h) (o.ee.eb.keep f b x nb h).2;refine⟨o.eb,o1.fw,by rw [Ck,Ck,o.len],λj q h=>?_,λj q h=>?_,λj j' q h h'=>?_,λj u' h=>?_,λj s' w' h hs'=>?_,λj s' h=>?_⟩
 ·rcases h with ⟨_,h⟩|⟨_,h⟩
  ·exact o.fw.none_ (n q h)
  ·exact o.an j q h
 ·rcases h with ⟨_,h⟩|⟨_,h⟩
  ·exact w.th d q h
  ·exact o1.aw j q h
 ·rcases h with ⟨e1,e2⟩|⟨_,h⟩
  ·rcases h' with ⟨e3,_⟩|⟨_,h'⟩
   ·rw [e1,e3]
   ·exact(o.awn h' (n q e2)).elim
  ·rcases h' with ⟨_,e3⟩|⟨_,h'⟩
   ·exact(o.awn h (n q e3)).elim
   ·exact o.inj j j' q h h'
 ·rcases cR h with ⟨rfl,rfl,hl⟩|⟨ne,h⟩
  ·cases hs
  ·obtain⟨v',h1,h2⟩:=o.sh j u' h;exact⟨v',by rw [fL ne];exact h1,DU.mono k u' h2⟩
 ·rcases cR h with ⟨rfl,rfl,hl⟩|⟨ne,h⟩
  ·rw [hs]at hs';cases hs';exact⟨p,get_set (o.len▸hl),w.at_ (w.mono k0 (λ_ _=>rfl) d) λb=>⟨λh=>h.elim (λh=>h.2) λh=>absurd rfl h.1,λh=> .inl ⟨rfl,h⟩⟩⟩
  ·obtain⟨q,h1,h3⟩:=o.hd j s' w' h hs';exact⟨q,by rw [fL ne];exact h1,w'.at_ (w'.mono k (λb hb=>let⟨x,hx,_⟩:=w'.th h3 b hb;(f.fr b x (o.nw hb) hx).trans hx.symm) h3) λb=>⟨λh=>h.elim (λh=>absurd h.1 ne) λh=>h.2,λh=> .inr ⟨ne,h⟩⟩⟩
 ·rcases cR h with ⟨rfl,rfl,hl⟩|⟨ne,h⟩
  ·exact hb
  ·exact o.nb j s' h
theorem EO.setOw (o:EO W B H0 A ρ σ H) (f:Fw W H H1) {i:Nat} {l:List U} {p:Addr} {xs:List V} (n:H p=none) (hp:H1 p=some (.lst xs)) (d:DUs W (λb=>Bx B A b∨b=p) H1 l xs):
  EO W B H0 (λj q=>(j=i/\q=p)∨(j≠i/\A j q)) (ρ.set i (.ow l)) (σ.set i (some (.ref p))) H1:=o.setOo f (s:= .ow l) (S:=(·=p)) rfl rfl (λb hb=>by rw [hb];exact n) ⟨λ_=>Np,xs,hp,d⟩
end
section
variable {W B:Addr->Prop} {H0 H H1:Hp} {A:Nat->Addr->Prop} {ρ:EV} {σ:St}
theorem EO.chg (o:EO W B H0 A ρ σ H) {i:Nat} {s':Sl} {w':Own} {x:HO} {p q:Addr} (hg:σ[i]? =some (some (V.ref p))) (hq:A i q) (hs':s'.hold=some w') (hb:s'.brd=false) (d:w'.φ W (Bx B A) (A i) (upd H q x) p):EO W B H0 A (ρ.set i s') σ (upd H q x):=by
 have k:∀b y,¬Bx B A b->H b=some y->¬Bx B A b/\upd H q x b=some y:=λb y n h=>⟨n,(aP (λz:b=q=>n (by rw [z];exact .inr ⟨i,hq⟩))).trans h⟩;refine⟨o.eb,⟨λb y w h=>?_,λr hr=>?_⟩,by rw [Ck,o.len],o.an,λj r h=>?_,o.inj,λj u h=>?_,λj m v h hm=>?_,λj m h=>?_⟩
 ·rw [aP (aQ h (o.an i q hq))];exact o.fw.fr b y w h
 ·obtain⟨x,y,z,h⟩:=o.fw.wo r hr;exact⟨x,y,z,(aP (λe:r=q=>o.nw hq (by rw [<-e];exact hr))).trans h⟩
 ·by_cases e:r=q
  ·rw [e];exact w'.th d q hq
  ·rw [aP e];exact o.aw j r h
 ·rcases cR h with ⟨rfl,rfl,hl⟩|⟨ne,h⟩
  ·cases hs'
  ·obtain⟨v',h1,h2⟩:=o.sh j u h;exact⟨v',h1,DU.mono k u h2⟩
 ·rcases cR h with ⟨rfl,rfl,hl⟩|⟨ne,h⟩
  ·rw [hs']at hm;cases hm;exact⟨p,hg,d⟩
  ·obtain⟨r,h1,h3⟩:=o.hd j m v h hm;exact⟨r,h1,v.mono k (λb hb=>aP (λe:b=q=>ne (o.inj j i q (by rw [<-e];exact hb) hq))) h3⟩
 ·rcases cR h with ⟨rfl,rfl,hl⟩|⟨ne,h⟩
  ·exact hb
  ·exact o.nb j m h
theorem EO.own (o:EO W B H0 A ρ σ H) {i:Nat} {l':List U} {xs':List V} {p:Addr} (hg:σ[i]? =some (some (V.ref p))) (hp:∀b,A i b↔b=p) (d:DUs W (Bx B A) H l' xs'):EO W B H0 A (ρ.set i (.ow l')) σ (upd H p (.lst xs')):=
 o.chg hg ((hp p).mpr rfl) (s':= .ow l') rfl rfl ⟨hp,xs',aK,DUs.mono (λb y n h=>⟨n,(aP (λz:b=p=>n (by rw [z];exact .inr ⟨i,(hp p).mpr rfl⟩))).trans h⟩) l' d⟩
theorem EO.frz (o:EO W B H0 A ρ σ H) {i:Nat} {s:Sl} {w:Own} {u:U} (hi:ρ[i]? =some s) (hs:s.hold=some w) (hu:∀{W B S H p},(∀b,S b->¬B b)->w.φ W B S H p->DU W B H u (.ref p)):EO W B H0 (λj q=>j≠i/\A j q) (ρ.set i (.sh u)) σ H:=by
 refine⟨o.eb,o.fw,by rw [Ck,o.len],λj p h=>o.an j p h.2,λj p h=>o.aw j p h.2,λj j' p h h'=>o.inj j j' p h.2 h'.2,λj u' h=>?_,λj m v h hm=>?_,λj m h=>?_⟩
 ·rcases cR h with ⟨rfl,e,hl⟩|⟨ne,h⟩
  ·cases e;obtain⟨p,h1,h3⟩:=o.hd j s w hi hs;exact⟨_,h1,hu (λb hb z=>z.elim (o.now (o.an j b hb)) λ⟨j',h⟩=>h.1 (o.inj j' j b h.2 hb)) (w.mono EO.kp (λ_ _=>rfl) h3)⟩
  ·obtain⟨v',h1,h2⟩:=o.sh j u' h;exact⟨v',h1,DU.mono EO.kp u' h2⟩
 ·rcases cR h with ⟨rfl,rfl,hl⟩|⟨ne,h⟩
  ·cases hm
  ·obtain⟨p,h1,h3⟩:=o.hd j m v h hm;exact⟨p,h1,v.at_ (v.mono EO.kp (λ_ _=>rfl) h3) (aGs ne)⟩
 ·rcases cR h with ⟨rfl,rfl,hl⟩|⟨ne,h⟩
  ·rfl
  ·exact o.nb j m h
theorem aV7 {l:List U}:∀{W B S H p},(∀b,S b->¬B b)->(lsO l).φ W B S H p->DU W B H (.ls l) (.ref p):=λn ⟨s,xs,h,d⟩=>⟨_,xs,rfl,n _ ((s _).mpr rfl),h,d⟩
theorem aV2 {w:Own}:∀{W B S H p},(∀b,S b->¬B b)->w.φ W B S H p->DU W B H (.op w.fz) (.ref p):=λn h=>⟨_,_,rfl,n,h⟩
structure Rb (W:Addr->Prop) (H0 H1:Hp):Prop where
 le:∀b o,¬W b->H0 b=some o->H1 b=some o
 no:∀p,H1 p=none->H0 p=none
theorem EO.un {H0':Hp} (o:EO W B H0' A ρ σ H) (e:EB W B H0) (r:Rb W H0 H0'):EO W B H0 A ρ σ H:=
 ⟨e,⟨λb x w h=>o.fw.fr b x w (r.le b x w h),o.fw.wo⟩,o.len,λi p h=>r.no p (o.an i p h),o.aw,o.inj,o.sh,o.hd,o.nb⟩
theorem RO.un {H0':Hp} {s:Sl} {v:V} (r:Rb W H0 H0') (h:RO W B H0' H s v):RO W B H0 H s v:=by
 match s,h with
 | .sh u,h=>exact h
 | .ow l,⟨p,xs,e1,n1,h2,h3⟩=>exact⟨p,xs,e1,r.no p n1,h2,h3⟩
 | .br l,h=>exact h
 | .oo w,⟨p,S,e1,n1,h⟩=>exact⟨p,S,e1,λb hb=>r.no b (n1 b hb),h⟩
 | .bo w,h=>exact h
open Classical in
theorem EO.reb (o:EO W B H0 A ρ σ H):∃H0',EO W B H0' A ρ σ H/\Rb W H0 H0'/\∀b x,(¬ ∃i,A i b)->H b=some x->H0' b=some x:=by
 refine⟨λb=>if∃i,A i b then none else H b,?_,?_,λb x n h=>(if_neg n).trans h⟩
 ·have nb:∀p,B p->¬ ∃i,A i p:=λp hp ⟨i,h⟩=>o.now (o.an i p h) hp;refine⟨⟨λp hp=>by rw [if_neg (nb p hp)];exact o.ee.eb.bl p (.inl hp),o.eb.wb,λp hp=>?_⟩,⟨λb x w h=>?_,o.fw.wo⟩,o.len,λi p h=>if_pos ⟨i,h⟩,o.aw,o.inj,o.sh,o.hd,o.nb⟩
  ·obtain⟨x,y,z,h⟩:=o.fw.wo p hp;exact⟨x,y,z,(if_neg (nb p (o.eb.wb p hp))).trans h⟩
  ·split at h
   ·cases h
   ·exact h
 ·refine⟨λb x w h=>?_,λp h=>?_⟩
  ·refine(if_neg λ⟨i,q⟩=>?_).trans (o.fw.fr b x w h);rw [o.an i b q]at h;cases h
  ·split at h
   ·rename_i q;obtain⟨i,q⟩:=q;exact o.an i p q
   ·cases q:H0 p with
    |none=>rfl
    |some x=>
     by_cases w:W p
     ·obtain⟨_,_,_,z⟩:=o.fw.wo p w;rw [z]at h;cases h
     ·rw [o.fw.fr p x w q]at h;cases h
end
def aX1 (t u:TVS):TVS:=λE ρ=>t {E with nx:=u E} ρ
def aXd:TVS:=λE ρ=>E.nx ρ
def vIf (c:TVc) (t u:TVS):TVS:=λE ρ=>c ρ λb=>(b=true->t E ρ)/\(b=false->u E ρ)
def aVo (i:Nat) (ρ:EV) (k:EV->Prop):Sl->Prop
 | .sh u=>k (ρ.set i (.sh u))
 | .ow l=>k (ρ.set i (.ow l))
 | .oo w=>k (ρ.set i (.oo w))
 |_=>False
def aXc (i:Nat) (F:TV):TVS:=λE ρ=>F ρ (aVo i ρ E.nx)
def aXz (F:TV):TVS:=λE ρ=>F ρ λs=>match s with
 | .br _=>False
 | .bo _=>False
 |s=>E.rt s
def aLc (i:Nat):TVS:=λE ρ=>match (ρ[i]? :Option Sl)with
 |some (.sh u)=>E.rt (.sh u)
 |some (.ow l)=>E.rt (.ow l)
 |some (.oo w)=>E.rt (.oo w)
 |_=>False
def vDo (F:TV):TVS:=λE ρ=>F ρ λ_=>E.nx ρ
def aXk (i:Nat) (G:TVS):TVS:=λE ρ=>match (ρ[i]? :Option Sl)with
 |some (.ow l)=>G E (ρ.set i (.sh (.ls l)))
 |some (.oo w)=>G E (ρ.set i (.sh (.op w.fz)))
 |_=>G E ρ
def aXm (i:Nat) (F:TV):TVS:=λE ρ=>match (ρ[i]? :Option Sl)with
 |some (.ow l)=>l.length<10000/\F ρ λs=>s.es λu=>E.nx (ρ.set i (.ow (l++[u])))
 |_=>False
def aUe (i:Nat) (F:TV):TVS:=λE ρ=>match (ρ[i]? :Option Sl)with
 |some (.ow l)=>F ρ λs=>match s.rd with
  | .ls m=>l.length+m.length<10000/\E.nx (ρ.set i (.ow (l++m)))
  |_=>False
 |_=>False
abbrev TVg:=U->EV->(EV->Prop)->Prop
def VTg (g:TG) (G:TVg):Prop:=∀{W B:Addr->Prop} {H0:Hp} {A:Nat->Addr->Prop} {ρ:EV} {σ:St} {H:Hp} {u:U} {v:V} {k:EV->Prop} {Q:St->Hp->Prop},EO W B H0 A ρ σ H->DU W (Bx B A) H u v->G u ρ k->(∀A' ρ' σ',EO W B H0 A' ρ' σ' H->k ρ'->Q σ' H)->g v σ H Q
def VG (X:Cx) (tg:Expr) (G:TVg):Prop:=∃g,PG X tg g/\VTg g G
def aYl (g:TGs) (is:List Nat):Prop:=∀{W B:Addr->Prop} {H0:Hp} {A:Nat->Addr->Prop} {ρ:EV} {σ:St} {H:Hp} {us:List U} {vs:List V} {k:EV->Prop} {Q:St->Hp->Prop},EO W B H0 A ρ σ H->DUs W (Bx B A) H us vs->us.length=is.length->k ((is.zip us).foldl (λρ x=>ρ.set x.1 (.sh x.2)) ρ)->(∀A' ρ' σ',EO W B H0 A' ρ' σ' H->k ρ'->Q σ' H)->g vs σ H Q
def VGs (X:Cx) (es:List Expr) (is:List Nat):Prop:=∃g,PGs X es g/\aYl g is
def sY (i:Nat):TVg:=λu ρ k=>k (ρ.set i (.sh u))
def aSa (is:List Nat):TVg:=λu ρ k=>match u with
 | .tp us=>us.length=is.length/\k ((is.zip us).foldl (λρ x=>ρ.set x.1 (.sh x.2)) ρ)
 |_=>False
def nM (g:TVg) (b:TVS) (E:aD1):List U->EV->Prop
 | [],ρ=>E.nx ρ
 |u::r,ρ=>g u ρ λρ1=>b {E with nx:=nM g b E r,ct:=nM g b E r,bk:=E.nx} ρ1
def aX0 (g:TVg) (F:TVa) (b:TVS):TVS:=λE ρ=>F ρ λl=>nM g b E l ρ
def aX8 (g:TVg) (F:TV):TVS:=λE ρ=>F ρ λs=>s.es λu=>g u ρ E.nx
section
variable {X:Cx}
theorem bK:VSs X [] aXd:=⟨_,bY,λo h i=>i.nx o h⟩
theorem aG {st:Stmt} {G:TVS} (h:VS X st G):VSs X [st] G:=let⟨_,p,f⟩:=h;⟨_,aR p,f⟩
theorem aD {st:Stmt} {rest:List Stmt} {F G:TVS} (h:VS X st F) (h':VSs X rest G):VSs X (st::rest) (aX1 F G):=
 let⟨_,p,f⟩:=h;let⟨_,p',f'⟩:=h';⟨_,aJ p p',λo h i=>f o h ⟨λo1 h1=>f' o1 h1 i,i.bk,i.ct,i.rt⟩⟩
theorem pF {st:List Stmt} {G:TVS} (i:Nat) (h:VSs X st G):VSs X st (aXk i G):=let⟨_,p,f⟩:=h;⟨_,p,λo h j=>by
 unfold aXk at h;split at h
 ·rename_i hi;exact f (o.frz hi rfl aV7) h j
 ·rename_i hi;exact f (o.frz hi rfl aV2) h j
 ·exact f o h j⟩
theorem cU {c:Expr} {a b:List Stmt} {pos:Pos} {C:TVc} {F G:TVS} (hc:VC X c C) (ha:VSs X a F) (hb:VSs X b G):VS X (.If c a b pos) (vIf C F G):=
 let⟨_,p,f⟩:=hc;let⟨_,p1,f1⟩:=ha;let⟨_,p2,f2⟩:=hb;⟨_,eQ p p1 p2,λo h i=>f o.ee h λc H1 h1 w=>by
  cases c with
  |true=>exact aD2 (f1 (o.to w) (h1.1 rfl) i)
  |false=>exact pX (f2 (o.to w) (h1.2 rfl) i)⟩
theorem aM5 {W B:Addr->Prop} {H0 H H1:Hp} {A:Nat->Addr->Prop} {ρ:EV} {σ:St} {i:Nat} {s:Sl} {v:V} {k:EV->Prop} {Q:St->Hp->Prop} (o:EO W B H0 A ρ σ H) (f:Fw W H H1) (r:RO W (Bx B A) H H1 s v) (h:aVo i ρ k s) (q:∀{A' ρ' σ'},EO W B H0 A' ρ' σ' H1->k ρ'->Q σ' H1):Q (σ.set i (some v)) H1:=by
 match s,r,h with
 | .sh u,r,h=>exact q ((o.to f).setSh r) h
 | .ow l,⟨p,xs,e1,h1,h2,h3⟩,h=>
  subst e1;exact q (o.setOw f h1 h2 h3) h
 | .oo w,⟨p,S,e1,h1,h2⟩,h=>
  subst e1;exact q (o.setOo f (s:= .oo w) rfl rfl h1 h2) h
theorem bF {i:Nat} {x:Str} {e:Expr} {pos pos':Pos} {F:TV} (hN:X.N.Nodup) (he:VE X e F) (hi:X.N[i]? =some x:=by rfl) (hx:Loc X.env.scope x:=by first|exact Bw rfl|exact Cb rfl) (hs:swapsWith e (some (.Name x pos')) pos.line X.env=pure false:=by rfl) (hf:X.fn x=true∨X.env.scope.names.lookup x=some .local:=by first|exact .inl rfl|exact .inr rfl|assumption):
  VS X (.Assign [.Name x pos'] e pos) (aXc i F):=
 let⟨_,p,f⟩:=he;⟨_,iB hN hi hx p hs hf,λo h j=>f o.ee h λs v H1 h1 w r=>aM5 o w r h1 j.nx⟩
theorem aY {e:Expr} {pos:Pos} {F:TV} (he:VE X e F):VS X (.Return (some e) pos) (aXz F):=
 let⟨_,p,f⟩:=he;⟨_,cQ p,λ{W B H0 A ρ σ H E D} o h j=>f o.ee h λs v H1 h1 w r=>by
  have fw:=o.fw.trans w;have less:∀{H:Hp} b (x:HO),¬Bx B A b->H b=some x->¬B b/\H b=some x:=λb x n h=>⟨λz=>n (.inl z),h⟩;match s,h1,r with
  | .sh u,h1,r=>exact j.rt fw (s:= .sh u) (DU.mono less u r) h1
  | .ow l,h1,⟨p,xs,e1,h2,h3,h4⟩=>
   refine j.rt fw (s:= .ow l) ?_ h1;exact RO.back (s:= .ow l) o.fw ⟨p,xs,e1,h2,h3,DUs.mono (λb x n h=>⟨λz=>n (z.elim (λz=> .inl (.inl z)) .inr),h⟩) l h4⟩
  | .oo w,h1,⟨p,S,e1,h2,h3⟩=>
   refine j.rt fw (s:= .oo w) ?_ h1;exact RO.back (s:= .oo w) o.fw ⟨p,S,e1,h2,w.mono (λb x n h=>⟨λz=>n (z.elim (λz=> .inl (.inl z)) .inr),h⟩) (λ_ _=>rfl) h3⟩
  | .no,_,r=>exact r.elim⟩
theorem iV {x:Str} {pos p':Pos} (i:Nat) (hN:X.N[i]? =some x:=by rfl) (hv:Vis X.env.scope x:=by first|exact Bw rfl|exact Cb (Bw rfl)|exact Cb (Cb rfl)) (hd:(x==("__debug__":Str))=false:=by decide)
  (hcd:(x==("__classdict__":Str))=false:=by decide):VS X (.Return (some (.Name x p')) pos) (aLc i):=⟨_,cQ (mZ hN hv hd hcd),λ{W B H0 A ρ σ H E D} o h j=>by
 unfold aLc at h;have less:∀{H:Hp} b (x:HO),¬Bx B A b->H b=some x->¬B b/\H b=some x:=λb x n h=>⟨λz=>n (.inl z),h⟩;split at h
 ·rename_i u hs;obtain⟨v,h1,h2⟩:=o.sh i u hs;exact⟨v,h1,j.rt (s:= .sh u) o.fw (DU.mono less u h2) h⟩
 ·rename_i l hs;obtain⟨p,xs,h1,h2,h3,h4⟩:=o.ow i l hs;exact⟨_,h1,j.rt (s:= .ow l) o.fw ⟨p,xs,rfl,o.an i p ((h2 p).mpr rfl),h3,DUs.mono (λb x n h=>⟨λz=>n (z.elim .inl λe=> .inr ⟨i,(h2 b).mpr e⟩),h⟩) l h4⟩ h⟩
 ·rename_i w hs;obtain⟨p,h1,h3⟩:=o.hd i _ w hs rfl;exact⟨_,h1,j.rt (s:= .oo w) o.fw ⟨p,_,rfl,o.an i,w.mono (λb x n h=>⟨λz=>n (z.elim .inl λe=> .inr ⟨i,e⟩),h⟩) (λ_ _=>rfl) h3⟩ h⟩
 ·exact h.elim⟩
end
section
variable {X:Cx}
theorem zJ {x:Str} {a:Expr} {p' apos cpos pos:Pos} {F:TV} (i:Nat) (ha:VE X a F) (hN:X.N[i]? =some x:=by rfl) (hv:Vis X.env.scope x:=by first|exact Bw rfl|exact Cb (Bw rfl)|exact Cb (Cb rfl)) (hd:(x==("__debug__":Str))=false:=by decide)
  (hcd:(x==("__classdict__":Str))=false:=by decide)
  (hbase:attributeBase (.Name x p') "append" X.env (eval (.Name x p') X.env)=eval (.Name x p') X.env:=by rfl)
  (hfew:((backTo cpos (starEach [a] X.env)).all (λx=> !x.1) && (backToKw cpos (keywordEach [] X.env)).all (λx=>x.1.isSome)
   && decide ([a].length+([]:List Keyword).length+(if([]:List Keyword).isEmpty then 0 else 1)<30))=true:=by rfl)
  (hline:(apos.endLine==cpos.line)=true:=by rfl) (hs:starEach [a] X.env=(false,eval a X.env)::starEach [] X.env:=by rfl) (hplain:(backTo cpos (starEach [] X.env)).any (·.1)=false:=by rfl)
  (hsw:swapsWith (.Call (.Attribute (.Name x p') "append" apos) [a] [] cpos) none pos.line X.env=pure false:=by rfl):
  VS X (.Expr (.Call (.Attribute (.Name x p') "append" apos) [a] [] cpos) pos) (aXm i F):=
 let⟨_,p,f⟩:=ha;⟨_,cX (aAh Ep Hl Hk oG (mZ hN hv hd hcd) (aM p aZ hs) hbase hfew hline hs hplain) hsw,λ{W B H0 A ρ σ H E D} o h j=>by
  unfold aXm at h;split at h
  ·rename_i l hi;obtain⟨q,xs,h1,h2,h3,h4⟩:=o.ow i l hi;refine⟨_,h1,.inl ⟨rfl,_,SqL.of h3⟩,f o.ee h.2 λs v H1 h5 w r=>?_⟩;obtain⟨u,h6,d⟩:=r.du o.ee.eb h5;have o1:=o.to w;obtain⟨q',ys,g1,g2,g3,g4⟩:=o1.ow i l hi;rw [h1]at g1;cases g1;refine⟨q,ys,v,rfl,rfl,g3,?_,j.nx (o1.own h1 h2 (g4.app (DUs.one d))) h6⟩;have:=g4.length;have:(10000:Nat)<=sizeLine:=by decide
   omega
  ·exact h.elim⟩
theorem aLo {x:Str} {a:Expr} {p' apos cpos pos:Pos} {F:TV} (i:Nat) (ha:VE X a F) (hN:X.N[i]? =some x:=by rfl) (hv:Vis X.env.scope x:=by first|exact Bw rfl|exact Cb (Bw rfl)|exact Cb (Cb rfl)) (hd:(x==("__debug__":Str))=false:=by decide)
  (hcd:(x==("__classdict__":Str))=false:=by decide)
  (hbase:attributeBase (.Name x p') "extend" X.env (eval (.Name x p') X.env)=eval (.Name x p') X.env:=by rfl)
  (hfew:((backTo cpos (starEach [a] X.env)).all (λx=> !x.1) && (backToKw cpos (keywordEach [] X.env)).all (λx=>x.1.isSome)
   && decide ([a].length+([]:List Keyword).length+(if([]:List Keyword).isEmpty then 0 else 1)<30))=true:=by rfl)
  (hline:(apos.endLine==cpos.line)=true:=by rfl) (hs:starEach [a] X.env=(false,eval a X.env)::starEach [] X.env:=by rfl) (hplain:(backTo cpos (starEach [] X.env)).any (·.1)=false:=by rfl)
  (hsw:swapsWith (.Call (.Attribute (.Name x p') "extend" apos) [a] [] cpos) none pos.line X.env=pure false:=by rfl):
  VS X (.Expr (.Call (.Attribute (.Name x p') "extend" apos) [a] [] cpos) pos) (aUe i F):=
 let⟨_,p,f⟩:=ha;⟨_,cX (aAh Ep PySem.F.slot_list_extend PySem.F.type_list_extend aKj (mZ hN hv hd hcd) (aM p aZ hs) hbase hfew hline hs hplain) hsw,λ{W B H0 A ρ σ H E D} o h j=>by
  unfold aUe at h
  split at h
  ·rename_i l hi
   obtain⟨q,xs,h1,h2,h3,h4⟩:=o.ow i l hi
   refine⟨_,h1,.inl ⟨rfl,_,SqL.of h3⟩,f o.ee h λs v H1 h5 w r=>?_⟩
   have d:=r.db o.ee.eb
   revert h5 d
   generalize s.rd=u
   intro h5 d
   split at h5<;>try exact h5.elim
   rename_i m
   have o1:=o.to w
   obtain⟨q',ys,g1,g2,g3,g4⟩:=o1.ow i l hi
   rw [h1]at g1
   cases g1
   obtain⟨b,zs,rfl,_,b2,b3⟩:=d.ls (o.ee.to w).eb
   refine⟨q,b,ys,zs,rfl,rfl,g3,b2,?_,j.nx (o1.own h1 h2 (g4.app b3)) h5.2⟩
   have:=g4.length
   have:=b3.length
   have:(10000:Nat)<=sizeLine:=by decide
   omega
  ·exact h.elim⟩
theorem dX {i:Nat} {x:Str} {pos:Pos} (hN:X.N.Nodup) (hi:X.N[i]? =some x:=by rfl) (hx:Loc X.env.scope x:=by first|exact Bw rfl|exact Cb rfl) (hf:X.fn x=true∨X.env.scope.names.lookup x=some .local:=by first|exact .inl rfl|exact .inr rfl|assumption):VG X (.Name x pos) (sY i):=
 ⟨_,bO hN hi hx hf,λo d h q=>q _ _ _ (o.setSh d) h⟩
theorem yF:VGs X [] []:=⟨_,yE,λ{W B H0 A ρ σ H us vs k Q} o d l h q=>by
 match us,l with
 | [],_=>exact⟨d,q _ _ _ o h⟩⟩
theorem jV {i:Nat} {is:List Nat} {x:Str} {es:List Expr} {pos:Pos} (hN:X.N.Nodup) (h2:VGs X es is) (hi:X.N[i]? =some x:=by rfl) (hx:Loc X.env.scope x:=by first|exact Bw rfl|exact Cb rfl) (hf:X.fn x=true∨X.env.scope.names.lookup x=some .local:=by first|exact .inl rfl|exact .inr rfl|assumption)
  (hs:(assignEach (.Name x pos::es) X.env).map (·.2)=assign (.Name x pos) X.env::(assignEach es X.env).map (·.2):=by rfl):VGs X (.Name x pos::es) (i::is):=
 let⟨_,p,f⟩:=h2;⟨_,lN (bO hN hi hx hf) p hs,λ{W B H0 A ρ σ H us vs k Q} o d l h q=>by
  match us,d,l with
  |u::us,⟨v,r,e,d1,d2⟩,l=>
   refine⟨v,r,e,f (o.setSh (i:=i) d1) (DUs.mono (λb x n h=>⟨λz=>n (z.elim .inl λ⟨j,e⟩=> .inr ⟨j,e.2⟩),h⟩) us d2) (Hc l) h q⟩⟩
theorem aC1 {es:List Expr} {c:Nat} {is:List Nat} {n:Nat} {pos:Pos} (hc:X.calm=true) (h:VGs X es is) (hl:is.length=n:=by rfl) (hn:(assignEach es X.env).length=n:=by rfl) (hst:(assignEach es X.env).findIdx? (·.1)=none:=by rfl):VG X (.Tuple es c pos) (aSa is):=
 let⟨_,p,f⟩:=h;⟨_,aCp hc p hn hst,λ{W B H0 A ρ σ H u v k Q} o d h q=>by
  match u,d,h with
  | .tp us,⟨a,xs,e,_,ha,ds⟩,⟨l,h⟩=>exact⟨a,xs,e,SqT.of ha,by rw [<-ds.length,l,hl],f o ds l h q⟩⟩
theorem aSy {tg e:Expr} {F:TV} {G:TVg} {pos:Pos} (he:VE X e F) (hg:VG X tg G) (hs:swapsWithSole [tg] e pos.line X.env=pure false:=by rfl) (hw:swappedStores [tg] e X.env=pure none:=by rfl) (h1:(assignEach [tg] X.env).map (·.2)=[assign tg X.env]:=by rfl):VS X (.Assign [tg] e pos) (aX8 G F):=
 let⟨_,p,f⟩:=he;let⟨_,p',f'⟩:=hg;⟨_,aGl p p' hs hw h1,λo h j=>f o.ee h λs v H1 h1 w r=>by
  obtain⟨u,h2,d⟩:=r.du o.ee.eb h1;exact f' (o.to w) d h2 λA' ρ' σ' o' h'=>j.nx o' h'⟩
abbrev Tr (B:Addr->Prop) (H1:Hp) (B2:Addr->Prop) (H2:Hp):Prop:=∀b o,¬B b->H1 b=some o->¬B2 b/\H2 b=some o
structure WkU (W B:Addr->Prop) (H1:Hp) (J:It) (l:List U):Prop where
 stop:∀{B2 H2},Tr B H1 B2 H2->J.stop l.length H2
 go:∀{B2 H2} i,Tr B H1 B2 H2->i<l.length->J.go i H2
 yld:∀{B2 H2} (i:Nat) {x H' u},EB W B2 H2->Tr B H1 B2 H2->l[i]? =some u->J.yld i H2 x H'->Fw W H2 H'/\DU W B2 H' u x
def VTi (wi:TI) (F:TVa):Prop:=∀{W B:Addr->Prop} {ρ:EV} {σ:St} {H:Hp} {R:List U->Prop} {Q:It->Hp->Prop},EE W B H ρ σ->F ρ R->(∀l J H',R l->Fw W H H'->WkU W B H' J l->Q J H')->wi σ H Q
def VI (X:Cx) (tg iter:Expr) (F:TVa):Prop:=∃wi,PI X tg iter wi/\VTi wi F
def vLs (F:TV):TVa:=λρ R=>F ρ λs=>s.es λu=>match u with
 | .ls l=>R l
 |_=>False
def vTp (F:TV):TVa:=λρ R=>F ρ λs=>s.es λu=>match u with
 | .tp l=>R l
 |_=>False
theorem aPf {W B:Addr->Prop} {H:Hp} {K:Ac} {a:Addr} {l:List U} {xs:List V} (nb:¬B a) (ha:H a=some (.lst xs)) (ds:DUs W B H l xs):WkU W B H (Itl K a) l:=
 ⟨λt=>⟨xs,SqL.of (t a _ nb ha).2,by rw [ds.length];exact Am _⟩,λi t h=>⟨xs,xs[i]'(by rw [<-ds.length];exact h),SqL.of (t a _ nb ha).2,Al _⟩,λi x H' u e t h y=>by
  obtain⟨rfl,y⟩:=y;obtain⟨x',h1,d⟩:=ds.get h;rw [y xs (SqL.of (t a _ nb ha).2)]at h1;cases h1;exact⟨e.refl,DU.mono t u d⟩⟩
theorem aSw {W B:Addr->Prop} {H:Hp} {K:Ac} {a:Addr} {l:List U} {xs:List V} (nb:¬B a) (ha:H a=some (.tup xs)) (ds:DUs W B H l xs):WkU W B H (Itt K a) l:=
 ⟨λt=>⟨xs,SqT.of (t a _ nb ha).2,by rw [ds.length];exact Am _⟩,λi t h=>⟨xs,xs[i]'(by rw [<-ds.length];exact h),SqT.of (t a _ nb ha).2,Al _⟩,λi x H' u e t h y=>by
  obtain⟨rfl,y⟩:=y;obtain⟨x',h1,d⟩:=ds.get h;rw [y xs (SqT.of (t a _ nb ha).2)]at h1;cases h1;exact⟨e.refl,DU.mono t u d⟩⟩
def pR (lo:Int) (n:Nat):List U:=(Bp n).map λi:Nat=> .n (lo+(i:Int))
theorem aE7 {W B:Addr->Prop} {H:Hp} {lo:Int} {n:Nat}:WkU W B H (Itr lo n) (pR lo n):=
 ⟨λ_=>by show n<=_;simp [pR],λi _ h=>by show i<n;simpa [pR]using h,λi x H' u e _ h y=>by
  obtain⟨rfl,rfl⟩:=y;unfold pR at h;rw [Ay]at h;cases q:(Bp n)[i]? with
  |none=>rw [q]at h;cases h
  |some j=>
   rw [q]at h;cases h;have hj:=(List.getElem?_eq_some_iff.mp q).2;rw [List.getElem_range]at hj;subst hj;exact⟨e.refl,rfl,rfl⟩⟩
theorem cH {tg e:Expr} {F:TV} (h:VE X e F):VI X tg e (vLs F):=let⟨_,p,f⟩:=h;⟨_,aP0 p,λe h q=>f e h λs v H1 h1 w r=>by
 obtain⟨u,h2,d⟩:=r.du e.eb h1;match u,h2,d with
 | .ls l,h2,⟨a,xs,e1,nb,ha,ds⟩=>exact⟨a,e1,⟨xs,SqL.of ha⟩,q l _ _ h2 w (aPf nb ha ds)⟩⟩
theorem aKq {tg e:Expr} {F:TV} (h:VE X e F):VI X tg e (vTp F):=let⟨_,p,f⟩:=h;⟨_,aN2 p,λe h q=>f e h λs v H1 h1 w r=>by
 obtain⟨u,h2,d⟩:=r.du e.eb h1;match u,h2,d with
 | .tp l,h2,⟨a,xs,e1,nb,ha,ds⟩=>exact⟨a,e1,⟨xs,SqT.of ha⟩,q l _ _ h2 w (aSw nb ha ds)⟩⟩
def vRg (F:TVa):TVa:=λρ R=>F ρ λus=>match us with
 | [.v (.int j)]=> -(2 ^ 62)<=j/\j<2 ^ 62/\R (pR 0 j.toNat)
 |_=>False
def aYq (F:TVa):TVa:=λρ R=>F ρ λus=>match us with
 | [.v (.int i),.v (.int j)]=>(-(2 ^ 62)<=i/\i<2 ^ 62/\ -(2 ^ 62)<=j/\j<2 ^ 62)/\R (pR i (j-i).toNat)
 |_=>False
theorem iU {tg a:Expr} {F:TVa} {p pos:Pos} (hm:X.mg "range"=none) (hi:VB X [a] F) (hgl:Gl X "range":=by rfl) (hs1:starEach [a] X.env=[(false,eval a X.env)]:=by rfl):VI X tg (.Call (.Name "range" p) [a] [] pos) (vRg F):=
 let⟨_,p,f⟩:=hi;⟨_,aI4 hgl hm p hs1,λe h q=>f e h λus vs H1 h1 w d=>by
  match us,h1,d with
  | [.v (.int i)],⟨h2,h3,h4⟩,⟨x,r,e,d1,d2⟩=>
   obtain rfl:r=[]:=d2;rw [d1.int]at e;exact⟨i,e,h2,h3,q _ _ _ h4 w aE7⟩⟩
theorem wJ {tg a b:Expr} {F:TVa} {p pos:Pos} (hm:X.mg "range"=none) (hi:VB X [a,b] F) (hgl:Gl X "range":=by rfl) (hs1:starEach [a,b] X.env=[(false,eval a X.env),(false,eval b X.env)]:=by rfl) (hs2:starEach [b] X.env=[(false,eval b X.env)]:=by rfl):VI X tg (.Call (.Name "range" p) [a,b] [] pos) (aYq F):=
 let⟨_,p,f⟩:=hi;⟨_,aJi hgl hm p hs1 hs2,λe h q=>f e h λus vs H1 h1 w d=>by
  match us,h1,d with
  | [.v (.int i),.v (.int j)],⟨h2,h4⟩,d=>
   obtain⟨x,_,e,d1,y,r,rfl,d2,d3⟩:=d;obtain rfl:r=[]:=d3;rw [d1.int,d2.int]at e;exact⟨i,j,e,h2,q _ _ _ h4 w aE7⟩⟩
def aBa (l:List U):List U:=l.zipIdx.map λx=> .tp [.n (x.2:Nat),x.1]
theorem aQ1 {W B:Addr->Prop} {H:Hp} {K:Ac} {a:Addr} {l:List U} {xs:List V} (nb:¬B a) (ha:H a=some (.lst xs)) (ds:DUs W B H l xs):WkU W B H (Ite K a) (aBa l):=
 ⟨λt=>⟨xs,SqL.of (t a _ nb ha).2,by simp [aBa,ds.length]⟩,λi t h=>⟨xs,xs[i]'(by rw [<-ds.length];simpa [aBa]using h),SqL.of (t a _ nb ha).2,Al _⟩,λi x H' u e t h y=>by
  obtain⟨p,x',n,rfl,rfl,y⟩:=y;have hx:=y xs (SqL.of (t a _ nb ha).2);obtain⟨u',hu,d⟩:=ds.getV hx;have hu2:(aBa l)[i]? =some (.tp [.n (i:Nat),u']):=by simp [aBa,Ay,List.getElem?_zipIdx,hu]
  rw [h]at hu2;cases hu2;have f:=e.new (o:= .tup [.int i,x']) n;exact⟨f,p,_,rfl,e.nw n,aK,_,_,rfl,⟨rfl,rfl⟩,_,_,rfl,DU.mono (λb o n h=>e.keep f b o (t b o n h).1 (t b o n h).2) u' d,rfl⟩⟩
def vEn (F:TVa):TVa:=λρ R=>F ρ λus=>match us with
 | [.ls l]=>R (aBa l)
 |_=>False
theorem aIm {es:List Expr} {k:Nat} {pos':Pos} {a:Expr} {F:TVa} {p pos:Pos} (hm:X.mg "enumerate"=none) (hi:VA X [a] F) (hgl:Gl X "enumerate":=by rfl) (hs1:starEach [a] X.env=[(false,eval a X.env)]:=by rfl):VI X (.Tuple es k pos') (.Call (.Name "enumerate" p) [a] [] pos) (vEn F):=
 let⟨_,p,f⟩:=hi;⟨_,aQ0 hgl hm p hs1,λe h q=>f e h λus vs H1 h1 _ w d=>by
  match us,h1,d with
  | [.ls l],h4,d=>
   obtain⟨x,r,e,⟨a,xs,rfl,nb,ha,ds⟩,d2⟩:=d;obtain rfl:r=[]:=d2;exact⟨a,e,⟨xs,SqL.of ha⟩,q _ _ _ h4 w (aQ1 nb ha ds)⟩⟩
theorem eY {tg iter:Expr} {body:List Stmt} {F:TVa} {G:TVg} {b:TVS} {pos:Pos} (hp:PassesOwn (model X.prog X.w) X.A X.env X.xe) (hc:X.calm=true) (hi:VI X tg iter F) (hg:VG X tg G) (hb:VSs X body b)
  (hs:∀x,foldedSetIterable iter X.env x=pure x:=by intro _;rfl):VS X (.For tg iter body [] pos) (aX0 G F b):=
 let⟨_,p,f⟩:=hi;let⟨_,p1,f1⟩:=hg;let⟨_,p2,f2⟩:=hb;⟨_,aMp hp hc p p1 p2 hs,λ{W B H0 A0 ρ0 σ0 H E D} o0 h j=>f o0.ee h λl J H1 h1 w wk=>by
  have o:=o0.to w;obtain⟨H0',o',rb,kp⟩:=o.reb;have st:∀{A ρ σ H},EO W B H0' A ρ σ H->Tr (Bx B A0) H1 (Bx B A) H:=λ{A ρ σ H} o2 p x n hp=>by
   have h0:=kp p x (λz=>n (.inr z)) hp;refine⟨λz=>z.elim (λz=>n (.inl z)) λ⟨i,z⟩=>?_,o2.fw.fr p x (λw=>n (.inl (o.eb.wb p w))) h0⟩;rw [o2.an i p z]at h0;cases h0
  refine⟨λi m σ H=>m=l.length-i/\i<=l.length/\∃A ρ,EO W B H0' A ρ σ H/\nM G b E (l.drop i) ρ,⟨l.length,by simp,Bb _,A0,ρ0,o',h1⟩,?_⟩;rintro i m σ H ⟨rfl,hi,A,ρ,o2,h2⟩;by_cases hlt:i<l.length
  ·have e:l.drop i=l[i]::l.drop (i+1):=Bh hlt;rw [e]at h2;refine .inr ⟨wk.go i (st o2) hlt,λσ H=>∃A ρ,EO W B H0' A ρ σ H/\nM G b E (l.drop (i+1)) ρ,λσ' H' h=>⟨l.length-(i+1),by omega,rfl,hlt,h⟩,λx H' y=>?_⟩;obtain⟨w2,d⟩:=wk.yld i o2.ee.eb (st o2) (Al hlt) y;exact f1 (o2.to w2) d h2 λA' ρ' σ' o3 h3=>f2 o3 h3 ⟨λo4 h4=>⟨_,_,o4,h4⟩,λo4 h4=>j.nx (o4.un o.eb rb) h4,λo4 h4=>⟨_,_,o4,h4⟩,λw r h4=>j.rt ⟨λb x nw hb=>w.fr b x nw (rb.le b x nw hb),w.wo⟩ (r.un rb) h4⟩
  ·have e:i=l.length:=by omega
   subst e;rw [Kr]at h2;exact .inl ⟨wk.stop (st o2),j.nx (o2.un o.eb rb) h2⟩⟩
theorem vfn {P:Program} {w:World} {K:Ac} {mg:Str->Option Value} {base:Heap} {x qual:Str} {st:Stmt} {f:Addr} {fd:FuncData} {N ps:List Str} {k:Nat} {G:TVS} {F:List U->(Sl->Prop)->Prop} (Fn:Fun K x qual st f fd) (S:aL N ps (aC st))
  (hb:∀(cdv:Value) (A:Around) (outer:List Env) (s:Shared) (H:Hp) (E:XK),dN k (A.deeper (envOfC qual (aC st) s.heap.objs.size f cdv))->VSs (aEp CX0 P w K mg base N qual (aC st) f cdv A outer s H E).nox (fV st) G)
  (hF:∀us R,F us R->us.length=ps.length/\G {nx:=λ_=>R (.sh .no),rt:=R} (us.map .sh++Jj (N.length-us.length) .no)):bB P w K mg base CX0 (k+1) f fd ps (spV F):=by
 refine Fn.ok S (λvs H Q E h=>?_) (λcdv A outer s H vs Q E hr h=>?_)
 ·obtain⟨W,B,us,R,eb,d,h,_⟩:=h;rw [<-d.length];exact(hF us R h).1
 ·obtain⟨t,p,g⟩:=hb cdv A outer s H E hr;obtain⟨W,B,us,R,eb,d,h,q⟩:=h;refine⟨t,p,g (W:=W) (B:=B) (H0:=H) (A:=λ_ _=>False) ⟨eb,eb.refl,?_,λ_ _ z=>z.elim,λ_ _ z=>z.elim,λ_ _ _ z=>z.elim,λi u h=>?_,λi s w h hs=>?_,λi s h=>?_⟩ (hF us R h).2 ⟨λo h=>?_,λ_ z=>z.elim,λ_ z=>z.elim,λw r h=>q _ _ _ h w r⟩⟩
  ·simp only [start,Ah,Ab,Ej,d.length]
  ·rw [Gy]at h;split at h
   ·rename_i hl;rw [Ab]at hl;rw [Ay,Al hl]at h;cases h;obtain⟨v,h1,h2⟩:=d.get (Al hl);refine⟨v,?_,DU.mono (λb x n h=>⟨λz=>z.elim n λ⟨_,z⟩=>z,h⟩) _ h2⟩;unfold start;rw [Dq (by rw [Ab, <-d.length];exact hl),Ay,h1];rfl
   ·rw [Dy]at h;split at h<;>cases h
  ·rw [Gy]at h;split at h
   ·rw [Ay]at h;cases hu:us[i]? <;>rw [hu]at h<;>cases h;cases hs
   ·rw [Dy]at h;split at h<;>cases h;cases hs
  ·rw [Gy]at h;split at h
   ·rw [Ay]at h;cases hu:us[i]? <;>rw [hu]at h<;>cases h;rfl
   ·rw [Dy]at h;split at h<;>cases h;rfl
  ·exact q _ _ _ h o.fw ⟨rfl,rfl⟩
end
inductive ItV (F:TV) (σ:St) (H:Hp) (Q:VK):Prop
 |mk (W B ρ R:_) (q0_:EE W B H ρ σ) (q1_:F ρ R) (q2_:∀s v H',R s->Fw W H H'->RO W B H H' s v->Q v H'):ItV F σ H Q
def tV (F:TV):TE:=λσ H Q=>ItV F σ H Q
inductive aWw (F:TVc) (σ:St) (H:Hp) (Q:(Bool->Hp->Prop)):Prop
 |mk (W B ρ R:_) (q0_:EE W B H ρ σ) (q1_:F ρ R) (q2_:∀c H',R c->Fw W H H'->Q c H'):aWw F σ H Q
def tVc (F:TVc):TT:=λσ H Q=>aWw F σ H Q
theorem VE.can {X:Cx} {e:Expr} {F:TV} (h:VE X e F):PE X e (tV F):=let⟨_,p,f⟩:=h;λpins s σ H Q I ⟨_,_,_,_,e,h,q⟩=>p pins s σ H Q I (f e h q)
theorem VC.can {X:Cx} {e:Expr} {F:TVc} (h:VC X e F):PT X e (tVc F):=let⟨_,p,f⟩:=h;λpins s σ H Q I ⟨_,_,_,_,e,h,q⟩=>p pins s σ H Q I (f e h q)
def VTh (own:Nat) (g:TG) (G:TVg):Prop:=∀{W B:Addr->Prop} {H:Hp} {ρ:EV} {σ:St} {u:U} {v:V} {k:EV->Prop} {Q:St->Hp->Prop},EE W B H ρ σ->DU W B H u v->G u ρ k->(∀ρ' σ',EE W B H ρ' σ'->σ'.length=σ.length->(∀i,own<=i->σ'[i]? =σ[i]?)->k ρ'->Q σ' H)->g v σ H Q
theorem EE.set {W B:Addr->Prop} {H:Hp} {ρ:EV} {σ:St} {u:U} {v:V} {i:Nat} (e:EE W B H ρ σ) (d:DU W B H u v):EE W B H (ρ.set i (.sh u)) (σ.set i (some v)):=by
 refine⟨e.eb,by rw [Ck,Ck,e.len],λj u' h=>?_,λj s w h hs=>?_⟩
 ·rcases cR h with ⟨rfl,q,hl⟩|⟨ne,h⟩
  ·cases q;exact⟨v,get_set (e.len▸hl),d⟩
  ·obtain⟨v',h1,h2⟩:=e.sh j u' h;exact⟨v',by rw [fL ne];exact h1,h2⟩
 ·rcases cR h with ⟨rfl,rfl,hl⟩|⟨ne,h⟩
  ·cases hs
  ·obtain⟨p,S,h1,h2⟩:=e.hd j s w h hs;exact⟨p,S,by rw [fL ne];exact h1,h2⟩
theorem dB {own i:Nat} (h:i<own):VTh own (uB i) (sY i):=λe d h1 q=>q _ _ (e.set d) (Ck ..) (λj hj=>fL (by omega)) h1
def aGk:List Nat->TGs
 | []=>aWx
 |i::is=>aR1 (uB i) (aGk is)
theorem aEj {own:Nat} {W B:Addr->Prop} {H:Hp} {Q:St->Hp->Prop} {k:EV->Prop}:∀{is:List Nat} {us:List U} {vs:List V} {ρ:EV} {σ:St},(∀i∈is,i<own)->EE W B H ρ σ->DUs W B H us vs->us.length=is.length->k ((is.zip us).foldl (λρ x=>ρ.set x.1 (.sh x.2)) ρ)->
  (∀ρ' σ',EE W B H ρ' σ'->σ'.length=σ.length->(∀i,own<=i->σ'[i]? =σ[i]?)->k ρ'->Q σ' H)->aGk is vs σ H Q
 | [],[],_,_,_,_,e,d,_,h,q=>⟨d,q _ _ e rfl (λ_ _=>rfl) h⟩
 |i::is,u::us,_,ρ,σ,hi,e,⟨v,r,e1,d1,d2⟩,l,h,q=>⟨v,r,e1,aEj (λj hj=>hi j (Ae _ hj)) (e.set (i:=i) d1) d2 (Hc l) h λρ' σ' e' l' a' h'=>q ρ' σ' e' (l'.trans (Ck ..)) (λj hj=>(a' j hj).trans (fL (by have:=hi i Af;omega))) h'⟩
theorem aF9 {own:Nat} {K:Ac} {is:List Nat} {n:Nat} (hl:is.length=n) (h:∀i∈is,i<own):VTh own (aW9 K n (aGk is)) (aSa is):=λ{W B H ρ σ u v k Q} e d h1 q=>by
 match u,d,h1 with
 | .tp us,⟨a,xs,e1,_,ha,ds⟩,⟨l,h1⟩=>exact⟨a,xs,e1,SqT.of ha,by rw [<-ds.length,l,hl],aEj h e ds l h1 q⟩
def aT5:Sl->Sl
 | .ow l=> .br l
 | .oo w=> .bo w
 |s=>s
theorem aJ2:∀s:Sl,(aT5 s).hold=s.hold
 | .no=>rfl
 | .sh _=>rfl
 | .ow _=>rfl
 | .br _=>rfl
 | .oo _=>rfl
 | .bo _=>rfl
def uW (no:Nat) (cap:List (Str×Nat)) (ρ:EV):EV:=Jj no .no++cap.map λp=>match (ρ[p.2]? :Option Sl)with
 |some s=>aT5 s
 |_=> .no
theorem aCs {no:Nat} {cap:List (Str×Nat)} {ρ:EV} {i:Nat} {s:Sl} (h:(uW no cap ρ)[i]? =some s) (hs:s≠ .no):∃(j:Nat) (s0:Sl),no<=i/\(∀σ:St,(jQ no cap σ)[i]? =some ((σ[j]? :Option (Option V))).join)/\ρ[j]? =some s0/\s=aT5 s0:=by
 unfold uW at h;rw [Gy]at h;split at h
 ·rw [Dy]at h;split at h
  ·cases h;exact(hs rfl).elim
  ·cases h
 ·rename_i hn;rw [Ej]at hn h;rw [Ay]at h;cases hc:cap[i-no]? with
  |none=>rw [hc]at h;cases h
  |some p=>
   rw [hc]at h;have h':=Bm h;dsimp only at h';split at h'
   ·rename_i s0 h0;refine⟨p.2,s0,by omega,λσ=>?_,h0,h'.symm⟩;unfold jQ;rw [Cu (by rw [Ej];omega),Ej,Ay,hc];rfl
   ·exact(hs h'.symm).elim
theorem EE.cap {W B:Addr->Prop} {H:Hp} {ρ:EV} {σ:St} {no:Nat} {cap:List (Str×Nat)} (e:EE W B H ρ σ):EE W B H (uW no cap ρ) (jQ no cap σ):=by
 refine⟨e.eb,by simp [uW,jQ],λi u h=>?_,λi s w h hs=>?_⟩
 ·obtain⟨j,s0,_,c,h,e0⟩:=aCs h (by intro z;cases z);have:s0= .sh u:=by cases s0<;>cases e0<;>rfl
  obtain⟨v,h1,h2⟩:=e.sh j u (this▸h);exact⟨v,by rw [c,h1];rfl,h2⟩
 ·obtain⟨j,s0,_,c,h0,rfl⟩:=aCs h (by rintro rfl;cases hs);rw [aJ2]at hs;obtain⟨p,S,h1,h2⟩:=e.hd j s0 w h0 hs;exact⟨p,S,by rw [c,h1];rfl,h2⟩
def iI (f:U->(Option U->Prop)->Prop):List U->List U->(List U->Prop)->Prop
 | [],acc,R=>R acc
 |u::r,acc,R=>f u λo=>match o with
  |some x=>iI f r (acc++[x]) R
  |none=>iI f r acc R
def aVk (G:TVg) (F:TV) (ρ:EV):U->(Option U->Prop)->Prop:=λu k=>G u ρ λρ1=>F ρ1 λs=>s.es λx=>k (some x)
def aTi (G:TVg) (C:TVc) (F:TV) (ρ:EV):U->(Option U->Prop)->Prop:=λu k=>G u ρ λρ1=>C ρ1 λc=>(c=true->F ρ1 λs=>s.es λx=>k (some x))/\(c=false->k none)
structure CI (W B:Addr->Prop) (H1:Hp) (D:Addr) (ρ:EV) (us:List U) (acc:List V) (σ:St) (H:Hp):Prop where
 ee:EE W (λb=>B b∨b=D) H ρ σ
 od:∀(i:Nat) (s:Sl) (w:Own),ρ[i]? =some s->s.hold=some w->∃p S,σ[i]? =some (some (V.ref p))/\(∀b,S b->¬W b)/\¬S D/\w.φ W (λb=>B b∨b=D) S H p
 fw:Fw W H1 H
 dl:H D=some (.lst acc)
 du:DUs W (λb=>B b∨b=D) H us acc
theorem EE.plus {W B:Addr->Prop} {H:Hp} {ρ:EV} {σ:St} {D:Addr} {x:HO} (e:EE W B H ρ σ) (n:H D=none) (m:Mt x:=by trivial):EE W (λb=>B b∨b=D) (upd H D x) ρ σ:=by
 have f:=e.eb.new (o:=x) n;have k:∀b o,¬B b->H b=some o->¬(B b∨b=D)/\upd H D x b=some o:=λb o nb h=>⟨λz=>z.elim nb (aQ h n),(e.eb.keep f b o nb h).2⟩;refine⟨⟨λp hp=>?_,λp hp=> .inl (e.eb.wb p hp),f.wo⟩,e.len,λi u h=>?_,λi s w h hs=>?_⟩
 ·rcases hp with hp|hp
  ·exact(e.eb.to f).bl p hp
  ·rw [hp,aK];exact⟨_,rfl,m⟩
 ·obtain⟨v,h1,h2⟩:=e.sh i u h;exact⟨v,h1,DU.mono k u h2⟩
 ·obtain⟨p,S,h1,h2,h3⟩:=e.hd i s w h hs;exact⟨p,S,h1,h2,w.mono k (λb hb=>let⟨y,hx,_⟩:=w.th h3 b hb;aP (aQ hx n)) h3⟩
theorem EE.as {W B:Addr->Prop} {H:Hp} {ρ:EV} {σ σ':St} (e:EE W B H ρ σ) (ρo:∀(i:Nat) (s:Sl),ρ[i]? =some s->s≠Sl.no->σ'[i]? =σ[i]?) (l:σ'.length=σ.length):EE W B H ρ σ':=
 ⟨e.eb,e.len.trans l.symm,λi u h=>by rw [ρo i _ h (by intro z;cases z)];exact e.sh i u h,λi s w h hs=>by
  rw [ρo i s h (by rintro rfl;cases hs)];exact e.hd i s w h hs⟩
theorem CI.to {W B:Addr->Prop} {H1 H H2:Hp} {D:Addr} {ρ:EV} {us:List U} {acc:List V} {σ σ':St} (c:CI W B H1 D ρ us acc σ H) (nw:¬W D) (f:Fw W H H2) (ρo:∀(i:Nat) (s:Sl),ρ[i]? =some s->s≠Sl.no->σ'[i]? =σ[i]?) (l:σ'.length=σ.length):CI W B H1 D ρ us acc σ' H2:=
 ⟨(c.ee.to f).as ρo l,λi m w h hs=>by
  rw [ρo i m h (by rintro rfl;cases hs)];obtain⟨p,S,h1,h2,h3,h4⟩:=c.od i m w h hs;exact⟨p,S,h1,h2,h3,w.to c.ee.eb f h2 h4⟩,c.fw.trans f,f.fr _ _ nw c.dl,DUs.mono (c.ee.eb.keep f) us c.du⟩
theorem CI.put {W B:Addr->Prop} {H1 H:Hp} {D:Addr} {ρ:EV} {us:List U} {acc:List V} {σ:St} {u:U} {v:V} (c:CI W B H1 D ρ us acc σ H) (n1:H1 D=none) (nw:¬W D) (d:DU W (λb=>B b∨b=D) H u v):CI W B H1 D ρ (us++[u]) (acc++[v]) σ (upd H D (.lst (acc++[v]))):=by
 have k:∀b o,¬(B b∨b=D)->H b=some o->¬(B b∨b=D)/\upd H D (.lst (acc++[v])) b=some o:=λb o nb h=>⟨nb,(aP (λz=>nb (.inr z))).trans h⟩;have ww:∀p,W p->Wll (upd H D (.lst (acc++[v]))) p:=λp hp=>by
  obtain⟨x,y,z,h⟩:=c.fw.wo p hp;exact⟨x,y,z,(aP (λq:p=D=>nw (by rw [<-q];exact hp))).trans h⟩
 have od:∀(i:Nat) (s:Sl) (w:Own),ρ[i]? =some s->s.hold=some w->∃p S,σ[i]? =some (some (V.ref p))/\(∀b,S b->¬W b)/\¬S D/\w.φ W (λb=>B b∨b=D) S (upd H D (.lst (acc++[v]))) p:=λi s w h hs=>by
  obtain⟨p,S,h1,h2,h3,h4⟩:=c.od i s w h hs;exact⟨p,S,h1,h2,h3,w.mono k (λb hb=>aP (λq:b=D=>h3 (by rw [<-q];exact hb))) h4⟩
 refine⟨⟨⟨λp hp=>?_,c.ee.eb.wb,ww⟩,c.ee.len,λi u' h=>?_,λi m w h hs=>let⟨p,S,h1,h2,_,h4⟩:=od i m w h hs;⟨p,S,h1,h2,h4⟩⟩,od,⟨λb o w h=>?_,ww⟩,aK,DUs.mono k _ (c.du.app (DUs.one d))⟩
 ·by_cases z:p=D
  ·rw [z,aK];exact⟨_,rfl,trivial⟩
  ·rw [aP z];exact c.ee.eb.bl p hp
 ·obtain⟨v',h1,h2⟩:=c.ee.sh i u' h;exact⟨v',h1,DU.mono k u' h2⟩
 ·rw [aP (aQ h n1)];exact c.fw.fr b o w h
theorem aOl {no:Nat} {cap:List (Str×Nat)} {ρ:EV} {σ σ':St} (a:∀i,no<=i->σ'[i]? =σ[i]?):∀(i:Nat) (s:Sl),(uW no cap ρ)[i]? =some s->s≠Sl.no->σ'[i]? =σ[i]? :=λi s h n=>let⟨_,_,q,_⟩:=aCs h n;a i q
structure WkC (W B:Addr->Prop) (H1:Hp) (J:It) (l:List U):Prop where
 stop:∀{B2 H2},Tr B H1 B2 H2->Fw W H1 H2->J.stop l.length H2
 go:∀{B2 H2} i,Tr B H1 B2 H2->Fw W H1 H2->i<l.length->J.go i H2
 yld:∀{B2 H2} (i:Nat) {x H' u},EB W B2 H2->Tr B H1 B2 H2->Fw W H1 H2->l[i]? =some u->J.yld i H2 x H'->Fw W H2 H'/\DU W B2 H' u x
def aUf (wi:TI) (F:TVa):Prop:=∀{W B:Addr->Prop} {ρ:EV} {σ:St} {H:Hp} {R:List U->Prop} {Q:It->Hp->Prop},EE W B H ρ σ->F ρ R->(∀l J H',R l->Fw W H H'->WkC W B H' J l->Q J H')->wi σ H Q
def VIc (X:Cx) (tg iter:Expr) (F:TVa):Prop:=∃wi,PI X tg iter wi/\aUf wi F
theorem vic {X:Cx} {tg iter:Expr} {F:TVa} (h:VI X tg iter F):VIc X tg iter F:=let⟨wi,p,f⟩:=h;⟨wi,p,λe h q=>f e h λl J H' h1 w k=>q l J H' h1 w ⟨λt _=>k.stop t,λi t _ hi=>k.go i t hi,λi _ _ _ e t _ h y=>k.yld i e t h y⟩⟩
def aE0 (no:Nat) (cap:List (Str×Nat)) (Fi:TVa) (G:TVg) (F:TV):TV:=λρ R=>Fi ρ λl=>l.length<=10000/\iI (aVk G F (uW no cap ρ)) l [] λus=>R (.ow us)
def aL6 (no:Nat) (cap:List (Str×Nat)) (Fi:TVa) (G:TVg) (C:TVc) (F:TV):TV:=λρ R=>Fi ρ λl=>l.length<=10000/\iI (aTi G C F (uW no cap ρ)) l [] λus=>R (.ow us)
def CW (W B:Addr->Prop) (H1:Hp) (D:Addr) (ρ:EV) (l:List U) (f:U->(Option U->Prop)->Prop) (R:List U->Prop) (i m:Nat) (σ:St) (H:Hp):Prop:=m=l.length-i/\i<=l.length/\∃us acc,CI W B H1 D ρ us acc σ H/\us.length<=i/\iI f (l.drop i) us R
theorem CW.beg {W B:Addr->Prop} {H1:Hp} {D:Addr} {ρ:EV} {σ:St} {no:Nat} {cap:List (Str×Nat)} {l:List U} {f:U->(Option U->Prop)->Prop} {R:List U->Prop} (e:EE W B H1 ρ σ) (n1:H1 D=none) (h:iI f l [] R):CW W B H1 D (uW no cap ρ) l f R 0 l.length (jQ no cap σ) (upd H1 D (.lst [])):=by
 refine⟨by simp,Bb _,[],[],⟨e.cap.plus n1,λi m w h hs=>?_,e.eb.new n1,aK,rfl⟩,Am _,h⟩;obtain⟨p,S,h1,h2,h3⟩:=e.cap.hd i m w h hs;have f:=e.eb.new (o:= .lst []) n1;refine⟨p,S,h1,h2,λz=>?_,w.mono (λb o nb h=>⟨λz=>z.elim nb (aQ h n1),(e.eb.keep f b o nb h).2⟩) (λb hb=>let⟨x,hx,_⟩:=w.th h3 b hb;aP (aQ hx n1)) h3⟩;obtain⟨x,hx,_⟩:=w.th h3 D z;rw [n1]at hx;cases hx
theorem CW.turn {W B:Addr->Prop} {H1 H H3:Hp} {D:Addr} {ρ:EV} {σ σ0:St} {no:Nat} {cap:List (Str×Nat)} {l:List U} {f:U->(Option U->Prop)->Prop} {R:List U->Prop} {i m:Nat} {J:It} {x:V} (e:EE W B H1 ρ σ0) (n1:H1 D=none) (ll:l.length<=10000) (wk:WkC W B H1 J l) (hlt:i<l.length) (c:CW W B H1 D (uW no cap ρ) l f R i m σ H) (y:J.yld i H x H3):
  ∃u us,EE W (λb=>B b∨b=D) H3 (uW no cap ρ) σ/\DU W (λb=>B b∨b=D) H3 u x/\f u (λo=>match o with|some y=>iI f (l.drop (i+1)) (us++[y]) R|none=>iI f (l.drop (i+1)) us R)/\
   (∀(y:U) (v:V) (σ':St) (H':Hp),iI f (l.drop (i+1)) (us++[y]) R->Fw W H3 H'->DU W (λb=>B b∨b=D) H' y v->σ'.length=σ.length->(∀i,no<=i->σ'[i]? =σ[i]?)->∃ys,H' D=some (.lst ys)/\ys.length<sizeLine/\∃m',m'<m/\CW W B H1 D (uW no cap ρ) l f R (i+1) m' σ' (upd H' D (.lst (ys++[v]))))/\
   (∀(σ':St) (H':Hp),iI f (l.drop (i+1)) us R->Fw W H3 H'->σ'.length=σ.length->(∀i,no<=i->σ'[i]? =σ[i]?)->∃m',m'<m/\CW W B H1 D (uW no cap ρ) l f R (i+1) m' σ' H'):=by
 have nw:¬W D:=λw=>e.eb.dm D (e.eb.wb D w) n1;obtain⟨rfl,hi,us,acc,c,hl,h2⟩:=c;rw [Bh hlt]at h2;have tr:Tr B H1 (λb=>B b∨b=D) H:=λb o nb h=>⟨λz=>z.elim nb (aQ h n1),(e.eb.keep c.fw b o nb h).2⟩;obtain⟨w3,d⟩:=wk.yld i c.ee.eb tr c.fw (Al hlt) y;have c3:=c.to (σ':=σ) nw w3 (λ_ _ _ _=>rfl) rfl;have hz:(10000:Nat)<sizeLine:=by decide
 refine⟨l[i],us,c3.ee,d,h2,λy v σ' H' h3 f3 d3 l3 a3=>?_,λσ' H' h3 f3 l3 a3=>⟨l.length-(i+1),by omega,rfl,hlt,us,acc,c3.to nw f3 (aOl a3) l3,by omega,h3⟩⟩;have c4:=c3.to nw f3 (aOl a3) l3;have hz2:=c4.du.length;refine⟨acc,c4.dl,by omega,l.length-(i+1),by omega,rfl,hlt,us++[y],acc++[v],c4.put n1 nw d3,?_,h3⟩;rw [Ah];show us.length+1<=i+1;omega
theorem CW.end_ {W B:Addr->Prop} {H0 H1 H:Hp} {D:Addr} {ρ:EV} {σ:St} {l:List U} {f:U->(Option U->Prop)->Prop} {R:Sl->Prop} {Q:VK} {m:Nat} (w:Fw W H0 H1) (n1:H1 D=none) (c:CW W B H1 D ρ l f (λus=>R (.ow us)) l.length m σ H) (q:∀s v H',R s->Fw W H0 H'->RO W B H0 H' s v->Q v H'):Q (.ref D) H:=by
 obtain⟨_,_,us,acc,c,_,h2⟩:=c;rw [Kr]at h2;exact q _ _ _ h2 (w.trans c.fw) (RO.back (s:= .ow us) w ⟨D,acc,rfl,n1,c.dl,c.du⟩)
theorem aDe {no:Nat} {cap:List (Str×Nat)} {wi:TI} {Fi:TVa} {g:TG} {G:TVg} {F:TV} (hi:aUf wi Fi) (hg:VTh no g G):VT (aBg no cap wi g (tV F)) (aE0 no cap Fi G F):=λ{W B ρ σ H R Q} e h q=>hi e h λl J H1 h1 w wk D n1=>by
 have e1:=e.to w;refine⟨CW W B H1 D (uW no cap ρ) l _ _,⟨_,CW.beg e1 n1 h1.2⟩,λi m σ2 H2 c=>?_⟩;have tr:Tr B H1 (λb=>B b∨b=D) H2:=let⟨_,_,_,_,c,_⟩:=c;λb o nb h=>⟨λz=>z.elim nb (aQ h n1),(e1.eb.keep c.fw b o nb h).2⟩;have fw:Fw W H1 H2:=let⟨_,_,_,_,c,_⟩:=c;c.fw;by_cases hlt:i<l.length
 ·refine .inr ⟨wk.go i tr fw hlt,λx H3 y=>?_⟩;obtain⟨u,us,e3,d3,h3,put,_⟩:=c.turn e1 n1 h1.1 wk hlt y;refine hg e3 d3 h3 λρ' σ' e' l' a' h'=>⟨W,_,ρ',_,e',h',λs v H5 h5 w5 r5=>?_⟩;obtain⟨y,hy,dy⟩:=r5.du e'.eb h5;exact put y v σ' H5 hy w5 dy l' a'
 ·have hi':=c.2.1;obtain rfl:i=l.length:=by omega
  exact .inl ⟨wk.stop tr fw,c.end_ w n1 q⟩
theorem aOo {no:Nat} {cap:List (Str×Nat)} {wi:TI} {Fi:TVa} {g:TG} {G:TVg} {C:TVc} {F:TV} (hi:aUf wi Fi) (hg:VTh no g G):VT (aGc no cap wi g (tVc C) (tV F)) (aL6 no cap Fi G C F):=λ{W B ρ σ H R Q} e h q=>hi e h λl J H1 h1 w wk D n1=>by
 have e1:=e.to w;refine⟨CW W B H1 D (uW no cap ρ) l _ _,⟨_,CW.beg e1 n1 h1.2⟩,λi m σ2 H2 c=>?_⟩;have tr:Tr B H1 (λb=>B b∨b=D) H2:=let⟨_,_,_,_,c,_⟩:=c;λb o nb h=>⟨λz=>z.elim nb (aQ h n1),(e1.eb.keep c.fw b o nb h).2⟩;have fw:Fw W H1 H2:=let⟨_,_,_,_,c,_⟩:=c;c.fw;by_cases hlt:i<l.length
 ·refine .inr ⟨wk.go i tr fw hlt,λx H3 y=>?_⟩;obtain⟨u,us,e3,d3,h3,put,skip⟩:=c.turn e1 n1 h1.1 wk hlt y;refine hg e3 d3 h3 λρ' σ' e' l' a' h'=>⟨W,_,ρ',_,e',h',λc H4 h4 w4=>?_⟩;cases c with
  |true=>
   refine aD2 ⟨W,_,ρ',_,e'.to w4,h4.1 rfl,λs v H5 h5 w5 r5=>?_⟩;obtain⟨y,hy,dy⟩:=r5.du (e'.to w4).eb h5;exact put y v σ' H5 hy (w4.trans w5) dy l' a'
  |false=>exact pX (skip σ' H4 (h4.2 rfl) w4 l' a')
 ·have hi':=c.2.1;obtain rfl:i=l.length:=by omega
  exact .inl ⟨wk.stop tr fw,c.end_ w n1 q⟩
section
variable {X:Cx}
theorem lK {elt iter tg:Expr} {scope:Scope} {own:List Str} {cap:List (Str×Nat)} {pos:Pos} {Fi:TVa} {g:TG} {G:TVg} {F:TV} (sc0:Scope) (N0:List Str) (hsc:X.env.scope=sc0) (hN:X.N=N0) (hcell:∀x,X.env.scope.names.lookup x=some .cell->∃c,X.env.cells.lookup x=some c)
  (ok:tO scope sc0 cap N0) (hc:X.calm=true) (hi:VIc X tg iter Fi) (hg:∀cl C s2 H2 fp,PG (bV X (eO own cap) scope cl C s2 H2 fp) tg g) (hG:VTh own.length g G) (he:∀cl C s2 H2 fp,VE (bV X (eO own cap) scope cl C s2 H2 fp) elt F)
  (hs:∀x,foldedSetIterable iter X.env x=pure x:=by intro _;rfl):VE X (.ListComp elt [⟨tg,iter,[],0⟩] scope pos) (aE0 own.length cap Fi G F):=
 let⟨_,p,f⟩:=hi;⟨_,aRd sc0 N0 hsc hN hcell ok hc p hg (λcl C s2 H2 fp=>(he cl C s2 H2 fp).can) hs,aDe f hG⟩
theorem aT0 {elt iter tg ci:Expr} {scope:Scope} {own:List Str} {cap:List (Str×Nat)} {pos:Pos} {Fi:TVa} {g:TG} {G:TVg} {C:TVc} {F:TV} (sc0:Scope) (N0:List Str) (hsc:X.env.scope=sc0) (hN:X.N=N0) (hcell:∀x,X.env.scope.names.lookup x=some .cell->∃c,X.env.cells.lookup x=some c)
  (ok:tO scope sc0 cap N0) (hc:X.calm=true) (hi:VIc X tg iter Fi) (hg:∀cl C s2 H2 fp,PG (bV X (eO own cap) scope cl C s2 H2 fp) tg g) (hG:VTh own.length g G) (hC:∀cl C' s2 H2 fp,VC (bV X (eO own cap) scope cl C' s2 H2 fp) ci C) (he:∀cl C s2 H2 fp,VE (bV X (eO own cap) scope cl C s2 H2 fp) elt F)
  (hs:∀x,foldedSetIterable iter X.env x=pure x:=by intro _;rfl):VE X (.ListComp elt [⟨tg,iter,[ci],0⟩] scope pos) (aL6 own.length cap Fi G C F):=
 let⟨_,p,f⟩:=hi;⟨_,aT9 sc0 N0 hsc hN hcell ok hc p hg (λcl C s2 H2 fp=>(hC cl C s2 H2 fp).can) (λcl C s2 H2 fp=>(he cl C s2 H2 fp).can) hs,aOo f hG⟩
theorem aH1 {i:Nat} {x:Str} {elt iter tg:Expr} {scope:Scope} {own:List Str} {cap:List (Str×Nat)} {pos spos py:Pos} {Fi:TVa} {g:TG} {G:TVg} {F:TV} (hnd:X.N.Nodup) (sc0:Scope) (N0:List Str) (hsc:X.env.scope=sc0) (hN:X.N=N0) (hcell:∀x,X.env.scope.names.lookup x=some .cell->∃c,X.env.cells.lookup x=some c)
  (ok:tO scope sc0 cap N0) (hc:X.calm=true) (hi:VIc X tg iter Fi) (hg:∀cl C s2 H2 fp,PG (bV X (eO own cap) scope cl C s2 H2 fp) tg g) (hG:VTh own.length g G) (he:∀cl C s2 H2 fp,VE (bV X (eO own cap) scope cl C s2 H2 fp) elt F)
  (hi':X.N[i]? =some x:=by rfl) (hx:Loc X.env.scope x:=by exact Bw rfl) (hsw:swapsWith (.ListComp elt [⟨tg,iter,[],0⟩] scope pos) (some (.Name x py)) spos.line X.env=pure true:=by rfl)
  (hs:∀x,foldedSetIterable iter X.env x=pure x:=by intro _;rfl) (hf:X.fn x=true∨X.env.scope.names.lookup x=some .local:=by first|exact .inl rfl|exact .inr rfl|assumption):VS X (.Assign [.Name x py] (.ListComp elt [⟨tg,iter,[],0⟩] scope pos) spos) (aXc i (aE0 own.length cap Fi G F)):=
 let⟨_,p,f⟩:=hi;⟨_,aWf hnd hi' hx sc0 N0 hsc hN hcell ok hc p hg (λcl C s2 H2 fp=>(he cl C s2 H2 fp).can) hsw hs hf,λo h j=>aDe f hG o.ee h λs v H1 h1 w r=>aM5 o w r h1 j.nx⟩
theorem aTa {elt iter tg:Expr} {scope:Scope} {own:List Str} {pos:Pos} {Fi:TVa} {g:TG} {G:TVg} {F:TV} (ok:aCq scope) (hc:X.calm=true) (hi:VIc X tg iter Fi)
  (hg:∀cl C s2 H2 fp,PG (bV X (eO own []) scope cl C s2 H2 fp) tg g) (hG:VTh own.length g G) (he:∀cl C s2 H2 fp,VE (bV X (eO own []) scope cl C s2 H2 fp) elt F)
  (hs:∀x,foldedSetIterable iter X.env x=pure x:=by intro _;rfl):VE X (.ListComp elt [⟨tg,iter,[],0⟩] scope pos) (aE0 own.length [] Fi G F):=
 let⟨_,p,f⟩:=hi;⟨_,aVd ok hc p hg (λcl C s2 H2 fp=>(he cl C s2 H2 fp).can) hs,aDe f hG⟩
theorem aDy {a:Expr} {op} {pos:Pos} {F:TV} (h:VE X a F):VE X (.BoolOp op [a] pos) F:=let⟨_,p,f⟩:=h;⟨_,aLz p,f⟩
def aO0 (g:List U->(Sl->Prop)->Prop) (G:TVa):TV:=λρ R=>G ρ λus=>g us R
theorem bI {id:String} {r:List V->Hp->VK->Prop} {g:List U->(Sl->Prop)->Prop} {x:Str} {a:Expr} {es:List Expr} {G:TVa} {p pos:Pos} (hc:eV X (.builtin id) r) (cb:CB r g) (hm:X.mg x=none) (hv:bootBuiltins x=some (.builtin id)) (ha:VB X (a::es) G) (hg:Gl X x:=by rfl) (hn:x≠"__name__":=by decide) (hdb:(x==("__debug__":Str))=false:=by decide)
  (he:starEach (a::es) X.env=(false,eval a X.env)::starEach es X.env:=by rfl) (hpl:(backTo pos (starEach es X.env)).any (·.1)=false:=by rfl):VE X (.Call (.Name x p) (a::es) [] pos) (aO0 g G):=
 let⟨_,p,f⟩:=ha;⟨_,gM hc hg hm hv p hn hdb he hpl,λe h q=>f e h λus vs H1 h1 w d=>cb (e.to w).eb d h1 λs z H2 h2 w2 r=>q _ _ _ h2 (w.trans w2) (r.back w)⟩
theorem dU {T:String} {r:List V->Hp->VK->Prop} {g:List U->(Sl->Prop)->Prop} {x:Str} {a:Expr} {es:List Expr} {G:TVa} {p pos:Pos} (hc:eV X (.type T) r) (cb:CB r g) (hm:X.mg x=none) (hv:bootBuiltins x=some (.type T)) (ha:VB X (a::es) G) (hg:Gl X x:=by rfl) (hn:x≠"__name__":=by decide) (hdb:(x==("__debug__":Str))=false:=by decide)
  (he:starEach (a::es) X.env=(false,eval a X.env)::starEach es X.env:=by rfl) (hpl:(backTo pos (starEach es X.env)).any (·.1)=false:=by rfl):VE X (.Call (.Name x p) (a::es) [] pos) (aO0 g G):=
 let⟨_,p,f⟩:=ha;⟨_,nZ hc hg hm hv p hn hdb he hpl,λe h q=>f e h λus vs H1 h1 w d=>cb (e.to w).eb d h1 λs z H2 h2 w2 r=>q _ _ _ h2 (w.trans w2) (r.back w)⟩
end
def gIx:U->U->(Sl->Prop)->Prop
 | .ls l,.v (.int i),R=>∃u,atI l i=some u/\R (.sh u)
 | .tp l,.v (.int i),R=>∃u,atI l i=some u/\R (.sh u)
 |_,_,_=>False
theorem bR {K:Ac}:O2 (rIx K) gIx:=λ{W B H u v x y R Q} e d1 d2 h q=>by
 unfold gIx at h;split at h
 ·exact .inl (aUc e d1 d2 h q)
 ·exact .inr (.inl (aVc e d1 d2 h q))
 ·exact h.elim
def aU9:U->U->(Sl->Prop)->Prop
 | .v (.int i),.v (.int j),R=>R (.sh (.n (i+j)))
 | .v (.str a),.v (.str b),R=>a.length+b.length<=10000/\R (.sh (.s (a++b)))
 | .ls l,.ls m,R=>l.length+m.length<=10000/\R (.ow (l++m))
 | .tp l,.tp m,R=>l.length+m.length<=10000/\R (.sh (.tp (l++m)))
 |_,_,_=>False
theorem sz4 {n:Nat} (h:n<=10000):n<=sizeLine:=Co h (by decide)
section
variable {X:Cx}
def aSg (X:Cx):R2:=λx y H Q=>(∃i j,x= .int i/\y= .int j/\Q (.int (i+j)) H)∨(∃i j,x= .str i/\y= .str j/\i.length+j.length<=sizeLine/\Q (.str (i++j)) H)∨aW4 x y H Q∨aR4 X.K x y H Q∨∃a b ys,x= .ref a/\y= .ref b/\SqT X.K H a []/\SqT X.K H b ys/\Q (.ref b) H
theorem bA:OpR X (binaryOp .Add) (aSg X):=tE.or (zQ.or (aUv.or (aP1.or aMr)))
theorem bM:O2 (aSg X) aU9:=λ{W B H u v x y R Q} e d1 d2 h q=>by
 unfold aU9 at h;split at h
 ·exact .inl ⟨_,_,d1.int,d2.int,q _ _ _ h e.refl ⟨rfl,rfl⟩⟩
 ·exact .inr (.inl ⟨_,_,d1.fl.1,d2.fl.1,sz4 h.1,q _ _ _ h.2 e.refl ⟨rfl,rfl⟩⟩)
 ·obtain⟨p,xs,rfl,_,h1,ds⟩:=d1.ls e;obtain⟨p',ys,rfl,_,h2,ds'⟩:=d2.ls e;have:=ds.length;have:=ds'.length;refine .inr (.inr (.inl ⟨p,p',xs,ys,rfl,rfl,h1,h2,sz4 (by omega),λr n=>?_⟩));have f:=e.new (o:= .lst (xs++ys)) n;exact q _ _ _ h.2 f ⟨r,_,rfl,n,aK,DUs.mono (λb o nb h=>⟨λz=>z.elim nb (aQ h n),(e.keep f b o nb h).2⟩) _ (ds.app ds')⟩
 ·rename_i l m;obtain⟨p,xs,rfl,_,h1,ds⟩:=d1.tp;obtain⟨p',ys,rfl,nb,h2,ds'⟩:=d2.tp;have:=ds.length;have:=ds'.length;cases l with
  |nil=>
   rw [show xs=[]from ds]at h1;exact .inr (.inr (.inr (.inr ⟨p,p',ys,rfl,rfl,SqT.of h1,SqT.of h2,q (.sh (.tp m)) _ _ h.2 e.refl ⟨p',ys,rfl,nb,h2,ds'⟩⟩)))
  |cons a l=>
   refine .inr (.inr (.inr (.inl ⟨p,p',xs,ys,rfl,rfl,SqT.of h1,SqT.of h2,?_,sz4 (by omega),λz=>?_,λ_ r n=>?_⟩)))
   ·intro z;rw [z]at ds;obtain⟨_,_,e1,_⟩:=ds;cases e1
   ·subst z;have hm:m=[]:=List.length_eq_zero_iff.mp (by simpa using this);subst hm;exact q _ _ _ h.2 e.refl ⟨p,xs,rfl,by assumption,h1,by rw [Bo];exact ds⟩
   ·have f:=e.new (o:= .tup (xs++ys)) n;exact q _ _ _ h.2 f ⟨r,_,rfl,e.nw n,aK,DUs.mono (e.keep f) _ (ds.app ds')⟩
 ·exact h.elim
def aG4 (g g':U->U->(Sl->Prop)->Prop) (a b c:TV):TV:=λρ R=>a ρ λs=>b ρ λs'=>g s.rd s'.rd λr=>match r.rd with
 | .v (.bl k)=>(k=true->c ρ λs''=>g' s'.rd s''.rd R)/\(k=false->R (.sh (.b false)))
 |_=>False
theorem aEi {r r':R2} {g g':U->U->(Sl->Prop)->Prop} {ta tb tc:TE} {F G E:TV} (o:O2 r g) (o':O2 r' g') (ha:VT ta F) (hb:VT tb G) (hc:VT tc E):VT (aG9 r r' ta tb tc) (aG4 g g' F G E):=λe h q=>by
 refine ha e h λs v H1 h1 f1 r1=>?_;have e1:=e.to f1;refine hb e1 h1 λs' v' H2 h2 f2 r2=>?_;have e2:=e1.to f2;have db2:=r2.db e1.eb;refine o e2.eb ((r1.db e.eb).to e1.eb f2) db2 h2 λs3 z H3 h3 f3 r3=>?_;have d:=r3.db e2.eb;revert h3 d;generalize s3.rd=u;intro h3 d;split at h3
 ·rename_i k;refine⟨k,d.fl.1,?_⟩;have e3:=e2.to f3;cases k with
  |true=>
   refine aD2 (hc e3 (h3.1 rfl) λs4 v4 H4 h4 f4 r4=>?_);refine o' (e3.to f4).eb ((db2.to e2.eb f3).to e3.eb f4) (r4.db e3.eb) h4 λs5 v5 H5 h5 f5 r5=>?_;have ff:=((f1.trans f2).trans f3).trans f4;exact q _ _ _ h5 (ff.trans f5) (r5.back ff)
  |false=>exact pX (q _ _ _ (h3.2 rfl) ((f1.trans f2).trans f3) ⟨rfl,rfl⟩)
 ·exact h3.elim
theorem aD9 {op op':CmpOp} {r r':R2} {g g':U->U->(Sl->Prop)->Prop} {a b c:Expr} {pos:Pos} {F G E:TV} (ho:OpR X (compareOp op) r) (ho':OpR X (compareOp op') r') (o:O2 r g) (o':O2 r' g') (ha:VE X a F) (hb:VE X b G) (hc:VE X c E) (hm:lastMarks [op,op'] [b,c]=false:=by with_unfolding_all rfl):VE X (.Compare a [op,op'] [b,c] pos) (aG4 g g' F G E):=
 let⟨_,p,f⟩:=ha;let⟨_,p1,f1⟩:=hb;let⟨_,p2,f2⟩:=hc;⟨_,aLx ho ho' p p1 p2 hm,aEi o o' f f1 f2⟩
theorem uO {op op':CmpOp} {r r':R2} {g g':U->U->(Sl->Prop)->Prop} {a b c:Expr} {pos:Pos} {F G E:TV} (ho:OpR X (compareOp op) r) (ho':OpR X (compareOp op') r') (o:O2 r g) (o':O2 r' g') (ha:VE X a F) (hb:VE X b G) (hc:VE X c E) (hm:lastMarks [op,op'] [b,c]=false:=by with_unfolding_all rfl):VC X (.Compare a [op,op'] [b,c] pos) (qR (aG4 g g' F G E)):=
 let⟨_,p,f⟩:=ha;let⟨_,p1,f1⟩:=hb;let⟨_,p2,f2⟩:=hc;⟨_,aMc ho ho' p p1 p2 hm,yN (aEi o o' f f1 f2)⟩
def vUn (g:Int->Int) (a:TV):TV:=λρ R=>a ρ λs=>match s.rd with
 | .v (.int i)=>R (.sh (.n (g i)))
 |_=>False
theorem aNa {a:Expr} {pos:Pos} {F:TV} (ha:VE X a F):VE X (.UnaryOp .USub a pos) (vUn (λi=> -i) F):=let⟨_,p,f⟩:=ha;⟨_,aK7 aHb p,λe h q=>f e h λs v H1 h1 f1 r=>by
 have d:=r.db e.eb;revert h1 d;generalize s.rd=u;intro h1 d;split at h1
 ·exact⟨_,d.int,q _ _ _ h1 f1 ⟨rfl,rfl⟩⟩
 ·exact h1.elim⟩
def aYb (a:TV) (k:Str):TV:=λρ R=>a ρ λs=>match s.rd with
 | .dk ns us=>wI k ns us R
 |_=>False
theorem yI {W B:Addr->Prop} {H:Hp} {f:Str} {R:Sl->Prop}:∀{ns:List Str} {us:List U} {xs:List V},DUs W B H us xs->wI f ns us R->∃u v,R (.sh u)/\DU W B H u v/\lZ ((ns.map Ct).zip xs:List (Key×V)) (Ct f)=some v
 |n::ns,u::us,_,⟨x,r,e,h,t⟩,q=>by
  subst e;rcases q with ⟨rfl,q⟩|⟨ne,q⟩
  ·exact⟨u,x,q,h,by rw [Aw,Gb,oF rfl]⟩
  ·obtain⟨u',v,h1,h2,h3⟩:=yI t q;refine⟨u',v,h1,h2,?_⟩;rw [Aw,Gb,nJ (λz=>ne (Ng z))];exact h3
theorem lV {a:Expr} {k:Str} {j pos p} {F:TV} (hu:X.A.units+1<cLine) (ha:VE X a F) (hs:aP2 (.Constant (.str k) j p):=by exactλ_ _=>rfl):VE X (.Subscript a (.Constant (.str k) j p) pos) (aYb F k):=let⟨_,p,f⟩:=ha;⟨_,aC0 hu p bU hs,λe h q=>f e h λs v H1 h1 f1 r=>by
 have d:=r.db e.eb;revert h1 d;generalize s.rd=u;intro h1 d;split at h1
 ·obtain⟨p,xs,rfl,_,hp,_,ds⟩:=d.dk;obtain⟨u,v,h2,h3,h4⟩:=yI ds h1;refine⟨p,v,rfl,?_,q _ _ _ h2 f1 h3⟩;rw [<-h4];exact zV.k (k:=Ct k) hp
 ·exact h1.elim⟩
end
theorem DBs.one {W B:Addr->Prop} {H:Hp} {u:U} {vs:List V} (h:DBs W B H [u] vs):∃x,vs=[x]/\DB W B H u x:=by
 obtain⟨x,r,e,d,t⟩:=h;obtain rfl:r=[]:=t;exact⟨x,e,d⟩
theorem DBs.two {W B:Addr->Prop} {H:Hp} {u v:U} {vs:List V} (h:DBs W B H [u,v] vs):∃x y,vs=[x,y]/\DB W B H u x/\DB W B H v y:=by
 obtain⟨x,r,e,d,y,r',rfl,d',t⟩:=h;obtain rfl:r'=[]:=t;exact⟨x,y,e,d,d'⟩
def aWm:List U->(Sl->Prop)->Prop
 | [.ls l],R=>R (.sh (.n l.length))
 | [.tp l],R=>R (.sh (.n l.length))
 |_,_=>False
theorem dM {K:Ac}:CB (λxs H Q=>∃p ys,xs=[.ref p]/\(SqL K H p ys∨SqT K H p ys)/\Q (.int ys.length) H) aWm:=λ{W B H us vs R Q} e d h q=>by
 unfold aWm at h;split at h
 ·obtain⟨x,rfl,dd⟩:=DBs.one d;obtain⟨p,xs,rfl,_,hp,ds⟩:=dd.ls e;exact⟨p,xs,rfl,.inl (SqL.of hp),by rw [<-ds.length];exact q _ _ _ h e.refl ⟨rfl,rfl⟩⟩
 ·obtain⟨x,rfl,dd⟩:=DBs.one d;obtain⟨p,xs,rfl,_,hp,ds⟩:=dd.tp;exact⟨p,xs,rfl,.inr (SqT.of hp),by rw [<-ds.length];exact q _ _ _ h e.refl ⟨rfl,rfl⟩⟩
 ·exact h.elim
theorem DUs.bls {W B:Addr->Prop} {H:Hp}:∀{bs:List Bool} {xs:List V},DUs W B H (bs.map U.b) xs->xs=bs.map V.bl
 | [],_,h=>h
 |_::_,_,⟨x,r,e,d,t⟩=>by rw [e,d.1,DUs.bls t];rfl
theorem DUs.ints {W B:Addr->Prop} {H:Hp}:∀{ns:List Int} {xs:List V},DUs W B H (ns.map U.n) xs->xs=ns.map V.int
 | [],_,h=>h
 |_::_,_,⟨x,r,e,d,t⟩=>by rw [e,d.1,DUs.ints t];rfl
inductive aR3 (f:List Bool->Bool) (us:List U) (R:(Sl->Prop)):Prop
 |mk (bs:List Bool) (q0_:us=[.ls (bs.map U.b)]) (q1_:R (.sh (.b (f bs)))):aR3 f us R
def aYt (f:List Bool->Bool):List U->(Sl->Prop)->Prop:=λus R=>aR3 f us R
theorem aG2 {X:Cx} {f:List Bool->Bool} (hc:X.calm=true):CB (λxs H Q=>∃(p:Addr) (bs:List Bool),xs=[.ref p]/\SqL X.K H p (bs.map V.bl)/\X.calm=true/\Q (.bl (f bs)) H) (aYt f):=λ{W B H us vs R Q} e d ⟨bs,eu,h⟩ q=>by
 subst eu;obtain⟨x,rfl,dd⟩:=DBs.one d;obtain⟨p,xs,rfl,_,hp,ds⟩:=dd.ls e;rw [ds.bls]at hp;exact⟨p,bs,rfl,SqL.of hp,hc,q _ _ _ h e.refl ⟨rfl,rfl⟩⟩
def aXx:List U->(Sl->Prop)->Prop
 | [.v (.int i)],R=>R (.sh (.n i))
 | [.v (.bl k)],R=>R (.sh (.n (if k then 1 else 0)))
 |_,_=>False
theorem aNk:CB (λxs H Q=>(∃i,xs=[.int i]/\Q (.int i) H)∨∃k,xs=[.bl k]/\Q (.int (if k then 1 else 0)) H) aXx:=λ{W B H us vs R Q} e d h q=>by
 unfold aXx at h;split at h
 ·obtain⟨x,rfl,dd⟩:=DBs.one d;exact .inl ⟨_,by rw [dd.int],q _ _ _ h e.refl ⟨rfl,rfl⟩⟩
 ·obtain⟨x,rfl,dd⟩:=DBs.one d;exact .inr ⟨_,by rw [dd.fl.1],q _ _ _ h e.refl ⟨rfl,rfl⟩⟩
 ·exact h.elim
def aSf:List U->(Sl->Prop)->Prop
 | [.ls l],R=>R (.ow l)
 | [.tp l],R=>R (.ow l)
 |_,_=>False
theorem uM {K:Ac}:CB (aKw K) aSf:=λ{W B H us vs R Q} e d h q=>by
 have fin:∀{l ys} (ds:DUs W B H l ys) (h:R (.ow l)) r,H r=none->Q (.ref r) (upd H r (.lst ys)):=λ{l ys} ds h r n=>by
  have f:=e.new (o:= .lst ys) n;exact q _ _ _ h f ⟨r,_,rfl,n,aK,DUs.mono (λb o nb h=>⟨λz=>z.elim nb (aQ h n),(e.keep f b o nb h).2⟩) _ ds⟩
 unfold aSf at h;split at h
 ·obtain⟨x,rfl,dd⟩:=DBs.one d;obtain⟨p,xs,rfl,_,hp,ds⟩:=dd.ls e;exact⟨p,xs,rfl,.inl (SqL.of hp),fin ds h⟩
 ·obtain⟨x,rfl,dd⟩:=DBs.one d;obtain⟨p,xs,rfl,_,hp,ds⟩:=dd.tp;exact⟨p,xs,rfl,.inr (SqT.of hp),fin ds h⟩
 ·exact h.elim
def aLq:List U->(Sl->Prop)->Prop
 | [.ls l],R=>R (.sh (.tp l))
 | [.tp l],R=>R (.sh (.tp l))
 |_,_=>False
theorem aD3 {K:Ac}:CB (aIc K) aLq:=λ{W B H us vs R Q} e d h q=>by
 unfold aLq at h;split at h
 ·obtain⟨x,rfl,dd⟩:=DBs.one d;obtain⟨p,xs,rfl,_,hp,ds⟩:=dd.ls e;refine⟨p,xs,rfl,.inl ⟨SqL.of hp,λr n=>?_⟩⟩;have f:=e.new (o:= .tup xs) n;exact q _ _ _ h f ⟨r,_,rfl,e.nw n,aK,DUs.mono (e.keep f) _ ds⟩
 ·obtain⟨x,rfl,dd⟩:=DBs.one d;obtain⟨p,xs,rfl,nb,hp,ds⟩:=dd.tp;exact⟨p,xs,rfl,.inr ⟨SqT.of hp,q _ _ _ h e.refl ⟨p,xs,rfl,nb,hp,ds⟩⟩⟩
 ·exact h.elim
section
variable {X:Cx}
theorem dG {x:Str} {i:Int} {t:Tok} {pos:Pos} (hm:X.mg x=some (.int i t)) (hg:Gl X x:=by rfl) (hd:(x==("__debug__":Str))=false:=by decide):VE X (.Name x pos) (vC (.n i)):=⟨_,yM (v:= .int i) hg hm ⟨_,rfl⟩ hd,aKz rfl⟩
theorem lO {st:Stmt}:VS X st (λ_ _=>False):=⟨_,dO,λ_ h _=>h⟩
theorem aSt {e:Expr} {pos:Pos} {F:TV} (he:VE X e F) (hs:swapsWith e none pos.line X.env=pure false:=by rfl):VS X (.Expr e pos) (vDo F):=let⟨_,p,f⟩:=he;⟨_,cX p hs,λo h j=>f o.ee h λs v H1 h1 w r=>j.nx (o.to w) h1⟩
def aQg (neg:Bool) (F:TV):TV:=λρ R=>F ρ λs=>match s.rd with
 | .v x=>R (.sh (.b (if neg then !decide (x= .non)else decide (x= .non))))
 | .op _=>False
 |_=>R (.sh (.b neg))
theorem DB.non {W B:Addr->Prop} {H:Hp} {u:U} {y:V} (e:EB W B H) (d:DB W B H u y) (h1:∀x,u≠ .v x) (h2:∀o,u≠ .op o):y≠ .non:=by
 intro z;subst z;cases u with
 |v x=>exact h1 x rfl
 |op o=>exact h2 o rfl
 |tp l=>obtain⟨_,_,q,_⟩:=d.tp;cases q
 |ls l=>obtain⟨_,_,q,_⟩:=d.ls e;cases q
 |ob C ns us=>obtain⟨_,_,_,q,_⟩:=d.ob;cases q
 |dk ns us=>obtain⟨_,_,q,_⟩:=d.dk;cases q
 |wl=>
  rcases d with ⟨_,q,_⟩|⟨_,_,_,q,_⟩<;>cases q
theorem aU3 {t:TE} {F:TV} (f:VT t F):VT (aXa t) (aQg false F):=λe h q=>f e h λs v H1 h1 w r=>by
 have d:=r.db e.eb;revert h1 d;generalize s.rd=u;intro h1 d;split at h1
 ·rw [d.fl.1];exact q _ _ _ h1 w ⟨rfl,rfl⟩
 ·exact h1.elim
 ·rename_i n1 n2;rw [decide_eq_false (d.non (e.to w).eb n1 n2)];exact q _ _ _ h1 w ⟨rfl,rfl⟩
theorem aQj {t:TE} {F:TV} (f:VT t F):VT (aSi t) (aQg true F):=λe h q=>f e h λs v H1 h1 w r=>by
 have d:=r.db e.eb;revert h1 d;generalize s.rd=u;intro h1 d;split at h1
 ·rw [d.fl.1];exact q _ _ _ h1 w ⟨rfl,rfl⟩
 ·exact h1.elim
 ·rename_i n1 n2;rw [decide_eq_false (d.non (e.to w).eb n1 n2)];exact q _ _ _ h1 w ⟨rfl,rfl⟩
theorem aR0 {t:TE} {F:TV} (h:VT t F):VTc (tB t) (qR F):=yN h
theorem aTx {a:Expr} {j pos pos'} {F:TV} (ha:VE X a F):VC X (.Compare a [.Is] [.Constant .none j pos'] pos) (qR (aQg false F)):=let⟨_,p,f⟩:=ha;⟨_,aOm (aS2 p),aR0 (aU3 f)⟩
theorem aIv {a:Expr} {j pos pos'} {F:TV} (ha:VE X a F):VC X (.Compare a [.IsNot] [.Constant .none j pos'] pos) (qR (aQg true F)):=let⟨_,p,f⟩:=ha;⟨_,aOm (aO9 p),aR0 (aQj f)⟩
inductive Tg where
 |non|bl|int|str|tp|ls|dk
def tyU:U->Option Tg
 | .v .non=>some .non
 | .v (.bl _)=>some .bl
 | .v (.int _)=>some .int
 | .v (.str _)=>some .str
 | .tp _=>some .tp
 | .ls _=>some .ls
 | .dk _ _=>some .dk
 |_=>none
def Tg.nm:Tg->String
 | .non=>"NoneType"| .bl=>"bool"| .int=>"int"| .str=>"str"| .tp=>"tuple"| .ls=>"list"| .dk=>"dict"
def isT:Tg->Tg->Bool
 | .non,.non=>true
 | .bl,.bl=>true
 | .bl,.int=>true
 | .int,.int=>true
 | .str,.str=>true
 | .tp,.tp=>true
 | .ls,.ls=>true
 | .dk,.dk=>true
 |_,_=>false
theorem aV9 {W B:Addr->Prop} {H:Hp} {u:U} {y:V} {t:Tg} {K:Ac} (e:EB W B H) (d:DB W B H u y) (h:tyU u=some t):uQ K H y (.type t.nm):=by
 unfold tyU at h;split at h<;>cases h
 ·rw [d.fl.1];exact .non
 ·rw [d.fl.1];exact .bl _
 ·rw [d.fl.1];exact .int _
 ·rw [d.fl.1];exact .str _
 ·obtain⟨p,xs,rfl,_,h,_⟩:=d.tp;exact .tup h
 ·obtain⟨p,xs,rfl,_,h,_⟩:=d.ls e;exact .lst h
 ·obtain⟨p,xs,rfl,_,h,_⟩:=d.dk;exact .dK h
theorem aTr {K:Ac} {t n:Tg} (hn:n≠ .non):Kv K (.type t.nm) (.type n.nm)=some (isT t n):=by
 cases t<;>cases n<;>first|rfl|exact(hn rfl).elim
def aYg (n:Tg) (F:TV):TV:=λρ R=>F ρ λs=>∃t,tyU s.rd=some t/\R (.sh (.b (isT t n)))
theorem qI {x:Str} {a:Expr} {F:TV} {p p' pos:Pos} (n:Tg) (hn:n≠ .non) (hm:X.mg "isinstance"=none) (hm2:X.mg x=none) (hv:bootBuiltins x=some (.type n.nm)) (ha:VE X a F) (hg:Gl X "isinstance":=by rfl) (hg2:Gl X x:=by rfl) (h1:x≠"__name__":=by decide) (h2:(x==("__debug__":Str))=false:=by decide)
  (hs:starEach [a,.Name x p'] X.env=(false,eval a X.env)::starEach [.Name x p'] X.env:=by rfl) (hs2:starEach [.Name x p'] X.env=(false,eval (.Name x p') X.env)::starEach [] X.env:=by rfl) (hpl:(backTo pos (starEach [.Name x p'] X.env)).any (·.1)=false:=by rfl):
  VE X (.Call (.Name "isinstance" p) [a,.Name x p'] [] pos) (aYg n F):=
 let⟨_,q,f⟩:=ha;⟨_,gM wW hg hm Uw (aM q (aM (aH6 (v:= .ty n.nm) hg2 hm2 hv rfl h1 h2) aZ hs2) hs) (by decide) (by decide) hs hpl,λe h q=>f e h λs v H1 ⟨t,ht,h1⟩ w r=>
  ⟨_,_,_,_,rfl,aV9 (K:=X.K) (e.to w).eb (r.db e.eb) ht,aTr hn,q _ _ _ h1 w ⟨rfl,rfl⟩⟩⟩
end
def gIn (neg:Bool):U->U->(Sl->Prop)->Prop
 |u,.ls l,R=>u.dt 40/\U.dts 40 l/\R (.sh (.b (if neg then !(l.any λe=>e.eq u)else l.any λe=>e.eq u)))
 |u,.tp l,R=>u.dt 40/\U.dts 40 l/\R (.sh (.b (if neg then !(l.any λe=>e.eq u)else l.any λe=>e.eq u)))
 |_,_,_=>False
theorem aGe (u:U):∀l:List U,((U.ds l).any λe=>e.eq u.d)=l.any λe=>e.eq u
 | []=>rfl
 |a::l=>by rw [U.ds,Ds,Ds,aGe u l];rfl
theorem aOn {K:Ac} {neg:Bool}:O2 (aU6 K neg) (gIn neg):=λ{W B H u v x y R Q} e d1 d2 h q=>by
 unfold gIn at h;split at h
 ·obtain⟨t1,t2,h⟩:=h;obtain⟨p,xs,rfl,_,hp,ds⟩:=d2.ls e;have h1:=U.dep 40 u t1;have h2:=U.deps 40 _ t2;exact⟨u.d,p,xs,_,d1.den t1,rfl,.inl (SqL.of hp),DUs.dens 40 _ t2 ds,by omega,by rw [aGe];exact q _ _ _ h e.refl ⟨rfl,rfl⟩⟩
 ·obtain⟨t1,t2,h⟩:=h;obtain⟨p,xs,rfl,_,hp,ds⟩:=d2.tp;have h1:=U.dep 40 u t1;have h2:=U.deps 40 _ t2;exact⟨u.d,p,xs,_,d1.den t1,rfl,.inr (SqT.of hp),DUs.dens 40 _ t2 ds,by omega,by rw [aGe];exact q _ _ _ h e.refl ⟨rfl,rfl⟩⟩
 ·exact h.elim
inductive aRz (us:List U) (R:(Sl->Prop)):Prop
 |mk (ns:List Int) (q0_:us=[.ls (ns.map U.n)]) (q1_:ns.length<=1000) (q2_:(∀n∈ns,0<=n/\n<=1000)) (q3_:R (.sh (.n ns.sum))):aRz us R
def aYf:List U->(Sl->Prop)->Prop:=λus R=>aRz us R
theorem aUa {K:Ac}:CB (aXh K) aYf:=λ{W B H us vs R Q} e d ⟨ns,eu,hl,hn,h⟩ q=>by
 subst eu;obtain⟨x,rfl,dd⟩:=DBs.one d;obtain⟨p,xs,rfl,_,hp,ds⟩:=dd.ls e;rw [ds.ints]at hp;exact⟨p,ns,rfl,SqL.of hp,hl,hn,q _ _ _ h e.refl ⟨rfl,rfl⟩⟩
def gII (f:Int->Int->Int):List U->(Sl->Prop)->Prop
 | [.v (.int i),.v (.int j)],R=>R (.sh (.n (f i j)))
 |_,_=>False
theorem aV0 {f:Int->Int->Int}:CB (λxs H Q=>∃i j,xs=[.int i,.int j]/\Q (.int (f i j)) H) (gII f):=λ{W B H us vs R Q} e d h q=>by
 unfold gII at h;split at h
 ·obtain⟨x,y,rfl,d1,d2⟩:=DBs.two d;exact⟨_,_,by rw [d1.int,d2.int],q _ _ _ h e.refl ⟨rfl,rfl⟩⟩
 ·exact h.elim
section
variable {X:Cx}
def aV4 (F:TVa) (D:TV):TV:=λρ R=>F ρ λus=>D ρ λs=>∃ns:List Int,us=[.ls (ns.map U.n)]/\match s.rd with
 | .v (.int d)=>(ns=[]->R (.sh (.n d)))/\∀m:Int,m∈ns->(∀a∈ns,a<=m)->R (.sh (.n m))
 |_=>False
theorem aIz {a:Expr} {k:Expr} {kp:Pos} {F:TVa} {D:TV} {p pos:Pos} (hc:X.calm=true) (hm:X.mg "max"=none) (ha:VB X [a] F) (hk:VE X k D) (hg:Gl X "max":=by rfl)
  (hkw:∀{tk:TE},PE X k tk->PK X [⟨some "default",k,kp⟩] (aNi tk aQh):=by exactλh=>aPo h aUj)
  (hall:(backToKw pos (keywordEach [⟨some "default",k,kp⟩] X.env)).all (·.1.isSome)=true:=by rfl) (hks:(backToKw pos (keywordEach [⟨some "default",k,kp⟩] X.env)).filterMap (·.1)=[("default":Str)]:=by rfl)
  (he:starEach [a] X.env=(false,eval a X.env)::starEach [] X.env:=by rfl) (hpl:(backTo pos (starEach [a] X.env)).any (·.1)=false:=by rfl) (hpk:(backToKw pos (keywordEach [⟨some "default",k,kp⟩] X.env)).any (·.1.isNone)=false:=by rfl):
  VE X (.Call (.Name "max" p) [a] [⟨some "default",k,kp⟩] pos) (aV4 F D):=
 let⟨_,q1,f1⟩:=ha;let⟨_,q2,f2⟩:=hk;⟨_,aI5 (aJe hc) hg hm boot_max q1 (hkw q2) hall hks (by decide) (by decide) he hpl hpk,λe h q=>f1 e h λus vs H1 h1 w1 d1=>f2 (e.to w1) h1 λs v H2 h2 w2 r2=>by
  obtain⟨ns,eu,h2⟩:=h2;subst eu;have e2:=(e.to w1).to w2;obtain⟨x,rfl,d⟩:=DBs.one (DBs.to (e.to w1).eb w2 d1);obtain⟨p,xs,rfl,_,hp,ds⟩:=d.ls e2.eb;rw [ds.ints]at hp;have dd:=r2.db (e.to w1).eb;revert h2 dd;generalize s.rd=u;intro h2 dd;split at h2
  ·rw [dd.int];exact⟨p,ns,_,rfl,rfl,SqL.of hp,λz=>q _ _ _ (h2.1 z) (w1.trans w2) ⟨rfl,rfl⟩,λm hm ha=>q _ _ _ (h2.2 m hm ha) (w1.trans w2) ⟨rfl,rfl⟩⟩
  ·exact h2.elim⟩
end
theorem huD {A:Around} {k:Nat} (hr:dN k A):A.units+101<cLine:=by have:=hr.un;omega
theorem Rbl {R:Sl->Prop} {c d:Bool} (q:R (.sh (.b d))) (h:c=d):R (.sh (.b c)):=h▸q
theorem cD {g:TVg} {b:TVS} {E:aD1} (I:List U->EV->Prop) (hn:∀ρ,I [] ρ->E.nx ρ) (hc:∀u r ρ,I (u::r) ρ->(∀ρ',I r ρ'->nM g b E r ρ')->nM g b E (u::r) ρ):∀{l ρ},I l ρ->nM g b E l ρ
 | [],ρ,h=>hn ρ h
 |u::r,ρ,h=>hc u r ρ h λ_ h'=>cD I hn hc h'
theorem fH {f:U->(Option U->Prop)->Prop} {R:List U->Prop} {h:U->U}:∀{l acc:List U},(∀u∈l,∀k,k (some (h u))->f u k)->R (acc++l.map h)->iI f l acc R
 | [],acc,_,r=>by rw [Du,Bo]at r;exact r
 |u::l,acc,hf,r=>hf u Af _ (fH (λx hx=>hf x (Ae _ hx)) (by rw [Bj];exact r))
abbrev Tke:Type:=Int×List Int
def tkU (x:Tke):U:= .tp [.n x.1,.tp (x.2.map U.n)]
theorem DUs.mapInts {W B:Addr->Prop} {H:Hp}:∀{ns:List Int},DUs W B H (ns.map U.n) (ns.map V.int)
 | []=>rfl
 |_::_=>⟨_,_,rfl,⟨rfl,rfl⟩,DUs.mapInts⟩
theorem aMl {W B:Addr->Prop} {H:Hp}:∀{xs:List Tke} {zs:List V},DUs W B H (xs.map tkU) zs->∃ps:List (Tke×Addr),zs=ps.map (λx=>V.ref x.2)/\ps.map (·.1)=xs/\∀x∈ps,PKy H x/\DU W B H (tkU x.1) (.ref x.2)
 | [],_,h=>⟨[],h,rfl,λ_ z=>nomatch z⟩
 |x::xs,_,⟨v,r,e,d,t⟩=>by
  obtain⟨ps,e1,e2,h⟩:=aMl t;obtain⟨a,ys,rfl,nb,ha,y1,_,rfl,f1,y2,r2,rfl,⟨q,zs,rfl,nq,hq,dz⟩,e3⟩:=id d;obtain rfl:r2=[]:=e3;rw [f1.1]at ha;refine⟨(x,a)::ps,by rw [e,e1];rfl,by rw [Aw,e2],λz hz=>?_⟩;rcases List.mem_cons.mp hz with rfl|hz
  ·exact⟨⟨q,ha,by rw [dz.ints]at hq;exact hq⟩,d⟩
  ·exact h z hz
theorem aGn {W B:Addr->Prop} {H:Hp}:∀{ps:List (Tke×Addr)},(∀x∈ps,DU W B H (tkU x.1) (.ref x.2))->DUs W B H ((ps.map (·.1)).map tkU) (ps.map λx=>V.ref x.2)
 | [],_=>rfl
 |x::ps,h=>⟨_,_,rfl,h x Af,aGn λy hy=>h y (Ae _ hy)⟩
def aVv (F:TVa):TV:=λρ R=>F ρ λus=>∃xs ks:List Tke,us=[.ls (xs.map tkU)]/\xs.length<=60/\ks.length<18/\(∀x∈xs,x∈ks)/\∀ys:List Tke,ys.Pairwise (λx y=>lQ x y=true)->(∀y,y∈ys↔y∈xs)->R (.ow (ys.map tkU))
def aUw (F:TVa):TV:=λρ R=>F ρ λus=>∃ns:List Nat,us=[.ls (ns.map λk:Nat=>U.n k)]/\(∀n∈ns,n∈[1,2,3])/\∀zs∈fC,(∀z,z∈zs↔z∈ns)->R (.ow (zs.map λk:Nat=>U.n k))
theorem DUs.nats {W B:Addr->Prop} {H:Hp}:∀{ns:List Nat} {xs:List V},DUs W B H (ns.map λk:Nat=>U.n k) xs->xs=wY ns
 | [],_,h=>h
 |_::_,_,⟨x,r,e,d,t⟩=>by rw [e,d.1,DUs.nats t];rfl
theorem DUs.ofNats {W B:Addr->Prop} {H:Hp}:∀{ns:List Nat},DUs W B H (ns.map λk:Nat=>U.n k) (wY ns)
 | []=>rfl
 |_::_=>⟨_,_,rfl,⟨rfl,rfl⟩,DUs.ofNats⟩
section
variable {X:Cx}
theorem aCw {k:Nat} {a:Expr} {F:TVa} {p p' pos pos':Pos} (hr:dN k X.A) (hc:X.calm=true) (h1:X.mg "sorted"=none) (h2:X.mg "set"=none) (ha:VB X [a] F) (g1:Gl X "sorted":=by rfl) (g2:Gl X "set":=by rfl) (hs:starEach [a] X.env=(false,eval a X.env)::starEach [] X.env:=by rfl) (hpl:(backTo pos' (starEach [] X.env)).any (·.1)=false:=by rfl)
  (hs':starEach [.Call (.Name "set" p') [a] [] pos'] X.env=(false,eval (.Call (.Name "set" p') [a] [] pos') X.env)::starEach [] X.env:=by rfl) (hpl':(backTo pos (starEach [] X.env)).any (·.1)=false:=by rfl):VE X (.Call (.Name "sorted" p) [.Call (.Name "set" p') [a] [] pos'] [] pos) (aVv F):=
 let⟨_,q,f⟩:=ha;⟨_,gM (aCn (by have:=hr.un;omega) hc) g1 h1 Qw (aM (nZ (aJy (by have:=hr.un;omega) hc) g2 h2 boot_set q (by decide) (by decide) hs hpl) aZ hs') (by decide) (by decide) hs' hpl',λ{W B ρ σ H R Q} e h q=>f e h λus vs H1 ⟨xs,ks,eu,xl,kl,km,h1⟩ w1 d=>by
  subst eu;have e1:=e.to w1;obtain⟨x,rfl,dd⟩:=DBs.one d;obtain⟨p,zs,rfl,_,hp,ds⟩:=dd.ls e1.eb;obtain⟨ps,rfl,rfl,hk⟩:=aMl ds;rw [Ab]at xl;refine⟨p,ps,rfl,SqL.of hp,λx hx=>(hk x hx).1,by omega,⟨ks,kl,λx hx=>km _ (List.mem_map.mpr ⟨x,hx,rfl⟩)⟩,λl zs nl nd sub all zl=>?_⟩;have w2:=e1.eb.new (o:= .ext (kZ X.prog X.w l zs)) nl;have k2:∀x∈zs,PKy (upd H1 l (.ext (kZ X.prog X.w l zs))) x/\DU W B (upd H1 l (.ext (kZ X.prog X.w l zs))) (tkU x.1) (.ref x.2):=λx hx=>by
   obtain⟨⟨q,a1,a2⟩,a3⟩:=hk x (sub x hx);exact⟨⟨q,(aP (aQ a1 nl)).trans a1,(aP (aQ a2 nl)).trans a2⟩,DU.mono (e1.eb.keep w2) _ a3⟩
  have e2:=e1.to w2;refine⟨l,zs,rfl,aK,λx hx=>(k2 x hx).1,by omega,λm ys nm pm pw=>?_⟩;have w3:=e2.eb.new (o:= .lst (ys.map λx=>V.ref x.2)) nm;refine q (.ow ((ys.map (·.1)).map tkU)) _ _ (h1 _ ?_ λy=>?_) ((w1.trans w2).trans w3) (RO.back (s:= .ow _) (w1.trans w2) ⟨m,_,rfl,nm,aK,aGn λx hx=>?_⟩)
  ·rw [Fh];exact pw
  ·constructor
   ·intro hy;obtain⟨x,hx,rfl⟩:=List.mem_map.mp hy;exact List.mem_map.mpr ⟨x,sub x (pm.mem_iff.mp hx),rfl⟩
   ·intro hy;obtain⟨x,hx,rfl⟩:=List.mem_map.mp hy;obtain⟨z,hz,e⟩:=all x hx;exact List.mem_map.mpr ⟨z,pm.mem_iff.mpr hz,e⟩
  ·exact DU.mono (λb o nb h=>⟨λz=>z.elim nb (aQ h nm),(e2.eb.keep w3 b o nb h).2⟩) _ (k2 x (pm.mem_iff.mp hx)).2⟩
theorem aK1 {a:Expr} {F:TVa} {p p' pos pos':Pos} (hc:X.calm=true) (h1:X.mg "sorted"=none) (h2:X.mg "set"=none) (ha:VB X [a] F) (g1:Gl X "sorted":=by rfl) (g2:Gl X "set":=by rfl) (hs:starEach [a] X.env=(false,eval a X.env)::starEach [] X.env:=by rfl) (hpl:(backTo pos' (starEach [] X.env)).any (·.1)=false:=by rfl)
  (hs':starEach [.Call (.Name "set" p') [a] [] pos'] X.env=(false,eval (.Call (.Name "set" p') [a] [] pos') X.env)::starEach [] X.env:=by rfl) (hpl':(backTo pos (starEach [] X.env)).any (·.1)=false:=by rfl):VE X (.Call (.Name "sorted" p) [.Call (.Name "set" p') [a] [] pos'] [] pos) (aUw F):=
 let⟨_,q,f⟩:=ha;⟨_,gM (aDn hc) g1 h1 Qw (aM (nZ (aKo hc) g2 h2 boot_set q (by decide) (by decide) hs hpl) aZ hs') (by decide) (by decide) hs' hpl',λ{W B ρ σ H R Q} e h q=>f e h λus vs H1 ⟨ns,eu,hn,h1⟩ w1 d=>by
  subst eu;have e1:=e.to w1;obtain⟨x,rfl,dd⟩:=DBs.one d;obtain⟨p,zs,rfl,_,hp,ds⟩:=dd.ls e1.eb;rw [ds.nats]at hp;refine⟨p,ns,rfl,SqL.of hp,hn,λl zs nl sub all=>?_⟩;have w2:=e1.eb.new (o:= .ext (aBx X.w l zs)) nl;have e2:=e1.to w2;refine⟨l,zs,rfl,aK,λm nm=>?_⟩;have w3:=e2.eb.new (o:= .lst (wY zs)) nm;exact q (.ow _) _ _ (h1 zs sub all) ((w1.trans w2).trans w3) (RO.back (s:= .ow _) (w1.trans w2) ⟨m,_,rfl,nm,aK,DUs.ofNats⟩)⟩
end
inductive aVl (C:Addr) (F:List U->(List Str->List U->Prop)->Prop) (vs:List V) (H:Hp) (Q:VK) (z3_:XK):Prop
 |mk (x dx vs' H1 W B us R:_) (q0_:vs= .ref x::vs') (q1_:H1 x=none) (q2_:H x=some (.ins C dx [])) (q3_:eU H1 H) (q4_:EB W B H1) (q5_:DUs W B H1 us vs') (q6_:F us R) (q7_:∀ns ws xs H',R ns ws->Fw W H1 H'->H' x=some (.ins C dx (ns.zip xs))->ns.length=xs.length->DUs W B H' ws xs->Q .non H'):aVl C F vs H Q z3_
def spI (C:Addr) (F:List U->(List Str->List U->Prop)->Prop):Sp:=λvs H Q z3_=>aVl C F vs H Q z3_
structure MkU (P:Program) (w:World) (K:Ac) (mg:Str->Option Value) (base:Heap) (k:Nat) (C:Addr) (x:Str) (ps:List Str) (F:List U->(List Str->List U->Prop)->Prop):Prop where
 ex:∃f fd,bB P w K mg base CX0 k f fd ps (spI C F)/\Mk K C f/\mg x=some (.ref C)/\Binds K fd ps []
def aW5 (C:Addr) (F:List U->(List Str->List U->Prop)->Prop) (a:TVa):TV:=λρ R=>a ρ λus=>F us λns ws=>R (.sh (.ob C ns ws))
section
variable {X:Cx}
theorem aI2 {k:Nat} {C:Addr} {x:Str} {ps:List Str} {F:List U->(List Str->List U->Prop)->Prop} {a:Expr} {es:List Expr} {G:TVa} {p pos:Pos} (M:MkU X.prog X.w X.K X.mg X.base k C x ps F) (hr:dN (k+1) X.A) (ha:VA X (a::es) G) (hg:Gl X x:=by rfl)
  (hdb:(x==("__debug__":Str))=false:=by decide) (he:starEach (a::es) X.env=(false,eval a X.env)::starEach es X.env:=by rfl) (hpl:(backTo pos (starEach es X.env)).any (·.1)=false:=by rfl):VE X (.Call (.Name x p) (a::es) [] pos) (aW5 C F G):=by
 obtain⟨f,fd,Fo,Mk_,hm,hb⟩:=M.ex;obtain⟨_,p,g⟩:=ha;refine⟨_,aHx Mk_ Fo hr hg hm hb .nil (E:=E0) bG p hdb he hpl,λ{W B ρ σ H R Q} e h q=>g e h λus vs H1 h1 _ w d=>λx dx nx nd ne=>?_⟩;have e1:=(e.to w).eb;refine⟨x,dx,vs,H1,W,B,us,_,by rw [Bo],nx,aK,λb o hb=>?_,e1,d,h1,λns ws xs H' hR fw hx hl ds=>⟨rfl,q (.sh (.ob C ns ws)) _ _ hR (w.trans fw) ⟨x,dx,xs,rfl,e1.nw nx,hx,hl,ds⟩⟩⟩;rw [aP (aQ hb nx),aP (aQ hb nd)];exact hb
end
theorem aB3 {F:TV} {σ:St} {H:Hp} {Q:VK} {W B:Addr->Prop} {ρ:EV} {R:Sl->Prop} (e:EE W B H ρ σ) (h:F ρ R) (q:∀s v H',R s->Fw W H H'->RO W B H H' s v->Q v H'):tV F σ H Q:=⟨W,B,ρ,R,e,h,q⟩
theorem zZ {F:TVc} {σ:St} {H:Hp} {Q:Bool->Hp->Prop} {W B:Addr->Prop} {ρ:EV} {R:Bool->Prop} (e:EE W B H ρ σ) (h:F ρ R) (q:∀c H',R c->Fw W H H'->Q c H'):tVc F σ H Q:=⟨W,B,ρ,R,e,h,q⟩
section
variable {W B:Addr->Prop} {H H':Hp}
theorem mL {ρ:EV} {σ:St} {u:U} {v:V} (d:DU W B H u v) (e:EE W B H ρ σ):EE W B H (.sh u::ρ) (some v::σ):=by
 refine⟨e.eb,by rw [Ag,Ag,e.len],λi u' h=>?_,λi s w h hs=>?_⟩
 ·cases i with
  |zero=>cases h;exact⟨v,rfl,d⟩
  |succ i=>exact e.sh i u' h
 ·cases i with
  |zero=>cases h;cases hs
  |succ i=>exact e.hd i s w h hs
theorem aLb (e:EB W B H):EE W B H [] []:=⟨e,rfl,nofun,nofun⟩
theorem pA {ρ:EV} {σ:St} {v:Option V} (e:EE W B H ρ σ):EE W B H (.no::ρ) (v::σ):=by
 refine⟨e.eb,by rw [Ag,Ag,e.len],λi u' h=>?_,λi s w h hs=>?_⟩
 ·cases i with
  |zero=>cases h
  |succ i=>exact e.sh i u' h
 ·cases i with
  |zero=>cases h;cases hs
  |succ i=>exact e.hd i s w h hs
mutual
theorem DU.data (k:∀b o,¬B b->H b=some o->(∃xs,o= .tup xs)∨(∃xs,o= .lst xs)->H' b=some o):∀(n:Nat) (u:U) {v:V},u.dt n->DU W B H u v->DU W B H' u v
 |_,.v _,_,_,h=>h
 |n+1,.tp l,_,t,⟨p,xs,e,nb,hp,ds⟩=>⟨p,xs,e,nb,k _ _ nb hp (.inl ⟨_,rfl⟩),DUs.data k n l t ds⟩
 |n+1,.ls l,_,t,⟨p,xs,e,nb,hp,ds⟩=>⟨p,xs,e,nb,k _ _ nb hp (.inr ⟨_,rfl⟩),DUs.data k n l t ds⟩
theorem DUs.data (k:∀b o,¬B b->H b=some o->(∃xs,o= .tup xs)∨(∃xs,o= .lst xs)->H' b=some o):∀(n:Nat) (l:List U) {xs:List V},U.dts n l->DUs W B H l xs->DUs W B H' l xs
 |_,[],_,_,h=>h
 |n,u::l,_,⟨t,t'⟩,⟨x,r,e,h,h'⟩=>⟨x,r,e,DU.data k n u t h,DUs.data k n l t' h'⟩
end
theorem Fw.upd {H1:Hp} {x:Addr} {o:HO} (f:Fw W H1 H) (n:H1 x=none) (nw:¬W x):Fw W H1 (upd H x o):=⟨λb u w h=>(aP (aQ h n)).trans (f.fr b u w h),λp hp=>by
 obtain⟨a,b,c,h⟩:=f.wo p hp;exact⟨a,b,c,(aP (λz:p=x=>nw (by rw [<-z];exact hp))).trans h⟩⟩
theorem fM {x C dx:Addr} {fs:List (Str×V)} {o:HO} (h:H x=some (.ins C dx fs)):∀b u,¬B b->H b=some u->(∃xs,u= .tup xs)∨(∃xs,u= .lst xs)->upd H x o b=some u:=λb u _ hb ht=>by
 refine(aP (λz:b=x=>?_)).trans hb;rw [z,h]at hb;rcases ht with ⟨xs,rfl⟩|⟨xs,rfl⟩<;>cases hb
end
section
variable {W W' B:Addr->Prop} {H:Hp}
mutual
def Nw:U->Prop
 | .v _=>True
 | .tp l=>Nws l
 | .ls l=>Nws l
 | .ob _ _ us=>Nws us
 | .dk _ us=>Nws us
 |_=>False
def Nws:List U->Prop
 | []=>True
 |u::l=>Nw u/\Nws l
end
mutual
theorem DU.nw:∀(u:U) {v:V},Nw u->DU W B H u v->DU W' B H u v
 | .v _,_,_,h=>h
 | .tp l,_,n,⟨p,xs,e,nb,hp,t⟩=>⟨p,xs,e,nb,hp,DUs.nw l n t⟩
 | .ls l,_,n,⟨p,xs,e,nb,hp,t⟩=>⟨p,xs,e,nb,hp,DUs.nw l n t⟩
 | .ob _ _ us,_,n,⟨p,dx,xs,e,nb,hp,hl,t⟩=>⟨p,dx,xs,e,nb,hp,hl,DUs.nw us n t⟩
 | .dk _ us,_,n,⟨p,xs,e,nb,hp,hl,t⟩=>⟨p,xs,e,nb,hp,hl,DUs.nw us n t⟩
theorem DUs.nw:∀(l:List U) {xs:List V},Nws l->DUs W B H l xs->DUs W' B H l xs
 | [],_,_,h=>h
 |u::l,_,⟨n,n'⟩,⟨x,r,e,h,t⟩=>⟨x,r,e,DU.nw u n h,DUs.nw l n' t⟩
end
end
def Sl.nw:Sl->Prop
 | .sh u=>Nw u
 | .ow l=>Nws l
 |_=>False
def vWl (i:Nat) (G:TVS):TVS:=λE ρ=>match (ρ[i]? :Option Sl)with
 |some (.ow [.v (.int _),.v (.int _),.v (.int _)])=>G {nx:=λ_=>False,rt:=λs=>s.nw/\E.rt s} (ρ.set i (.sh .wl))
 |_=>False
open Classical in
theorem aLy {X:Cx} {st:List Stmt} {G:TVS} (i:Nat) (h:VSs X st G):VSs X st (vWl i G):=let⟨_,p,f⟩:=h;⟨_,p,λ{W B H0 A ρ σ H E D} o h j=>by
 unfold vWl at h;split at h
 ·rename_i a b c hi;obtain⟨q,xs,h1,h2,h3,h4⟩:=o.ow i _ hi;have ex:xs=[.int a,.int b,.int c]:=DUs.ints (ns:=[a,b,c]) h4;subst ex;have hq:=(h2 q).mpr rfl;have nq:H0 q=none:=o.an i q hq;have nB:¬B q:=o.now nq;have bx:∀b,Bx (λb=>B b∨b=q) (λj q=>j≠i/\A j q) b↔Bx B A b:=λb=>by
   constructor
   ·rintro((h|rfl)|⟨j,h⟩)
    ·exact .inl h
    ·exact .inr ⟨i,hq⟩
    ·exact .inr ⟨j,h.2⟩
   ·rintro(hb|⟨j,hb⟩)
    ·exact .inl (.inl hb)
    ·by_cases e:j=i
     ·rw [e]at hb;exact .inl (.inr ((h2 b).mp hb))
     ·exact .inr ⟨j,e,hb⟩
  have k:∀b x,¬Bx B A b->H b=some x->¬Bx (λb=>B b∨b=q) (λj q=>j≠i/\A j q) b/\H b=some x:=λb x n h=>⟨λz=>n ((bx b).mp z),h⟩;have own:∀b,B b->¬ ∃j,j≠i/\A j b:=λb hb ⟨j,_,h⟩=>o.now (o.an j b h) hb;have ownq:¬ ∃j,j≠i/\A j q:=λ⟨j,n,h⟩=>n (o.inj j i q h hq);let H2:Hp:=λb=>if∃j,j≠i/\A j b then none else H b
  have hH2:∀b x,H2 b=some x->H b=some x:=λb x h=>by
   have h:(if∃j,j≠i/\A j b then none else H b)=some x:=h;split at h
   ·cases h
   ·exact h
  have hH:∀b,(¬ ∃j,j≠i/\A j b)->H2 b=H b:=λb n=>if_neg n;have e0:=o.ee.eb;have Wl:∀p,(W p∨p=q)->Wll H p:=λp hp=>hp.elim (o.fw.wo p) λe=>⟨a,b,c,by rw [e];exact h3⟩;have wq:∀p,(W p∨p=q)->¬ ∃j,j≠i/\A j p:=λp hp=>hp.elim (λw=>own p (o.eb.wb p w)) λe=>by rw [e];exact ownq
  have o2:EO (λp=>W p∨p=q) (λb=>B b∨b=q) H2 (λj q=>j≠i/\A j q) (ρ.set i (.sh .wl)) σ H:=by
   refine⟨⟨λp hp=>?_,λp hp=>hp.elim (λw=> .inl (o.eb.wb p w)) .inr,λp hp=>?_⟩,⟨λb x _ h=>hH2 b x h,Wl⟩,by rw [Ck,o.len],λj p h=>if_pos ⟨j,h⟩,λj p h=>o.aw j p h.2,λj j' p h h'=>o.inj j j' p h.2 h'.2,λj u h=>?_,λj m w h hm=>?_,λj m h=>?_⟩
   ·rcases hp with hp|hp
    ·obtain⟨xs,e,m⟩:=e0.bl p (.inl hp);exact⟨xs,(hH p (own p hp)).trans e,m⟩
    ·exact⟨.lst _,(hH p (wq p (.inr hp))).trans (by rw [hp];exact h3),trivial⟩
   ·obtain⟨x,y,z,e⟩:=Wl p hp;exact⟨x,y,z,(hH p (wq p hp)).trans e⟩
   ·rcases cR h with ⟨rfl,e,hl⟩|⟨ne,h⟩
    ·cases e;exact⟨_,h1,q,rfl,.inr rfl⟩
    ·obtain⟨v',g1,g2⟩:=o.sh j u h;exact⟨v',g1,DU.wm (λ_=> .inl) u (DU.mono k u g2)⟩
   ·rcases cR h with ⟨rfl,rfl,hl⟩|⟨ne,h⟩
    ·cases hm
    ·obtain⟨p,g1,g3⟩:=o.hd j m w h hm;exact⟨p,g1,w.at_ (w.wm (λ_=> .inl) (w.mono k (λ_ _=>rfl) g3)) (aGs ne)⟩
   ·rcases cR h with ⟨rfl,rfl,hl⟩|⟨ne,h⟩
    ·rfl
    ·exact o.nb j m h
  have keep:∀b x,H0 b=some x->H b=some x->H2 b=some x:=λb x h0 h=>(hH b λ⟨j,_,e⟩=>by rw [o.an j b e]at h0;cases h0).trans h;refine f o2 h ⟨λ_ z=>z.elim,λ_ z=>z.elim,λ_ z=>z.elim,λ{s v Hf} fw r hs=>?_⟩;have fW:Fw W H0 Hf:=⟨λb x w h0=>fw.fr b x (λz=>z.elim w λe=>by rw [e,nq]at h0;cases h0) (keep b x h0 (o.fw.fr b x w h0)),λp hp=>fw.wo p (.inl hp)⟩;have kb:∀b x,¬(B b∨b=q)->Hf b=some x->¬B b/\Hf b=some x:=λb x n h=>⟨λz=>n (.inl z),h⟩;refine j.rt fW ?_ hs.2;match s,r,hs.1 with
  | .sh u,r,n=>exact DU.nw u n (DU.mono kb u r)
  | .ow l,⟨p',ys,e1,e2,e3,e4⟩,n=>
   refine⟨p',ys,e1,?_,e3,DUs.nw l n (DUs.mono (λb x n h=>⟨λz=>n (z.elim (λz=> .inl (.inl z)) .inr),h⟩) l e4)⟩;cases z:H0 p' with
   |none=>rfl
   |some x=>
    by_cases w:W p'
    ·obtain⟨_,_,_,y⟩:=o2.eb.wo p' (.inl w);rw [y]at e2;cases e2
    ·rw [keep p' x z (o.fw.fr p' x w z)]at e2;cases e2
 ·exact h.elim⟩
theorem nO {f:U->(Option U->Prop)->Prop} {R:List U->Prop} (P:U->Prop):∀{l acc:List U},(∀u∈l,∀k:Option U->Prop,(∀x,P x->k (some x))->f u k)->(∀xs:List U,xs.length=l.length->(∀x∈xs,P x)->R (acc++xs))->iI f l acc R
 | [],acc,_,r=>by
  have:=r [] rfl nofun
  rw [Bo]at this;exact this
 |u::l,acc,hf,r=>hf u Af _ λx hx=>nO P (λy hy=>hf y (Ae _ hy)) λxs el hp=>by
  rw [Bj];exact r (x::xs) (by rw [Ag,Ag,el]) λy hy=>by
   rcases List.mem_cons.mp hy with rfl|hy
   ·exact hx
   ·exact hp y hy
def aWe:List U->(Sl->Prop)->Prop
 | [.v (.int i)],R=>i.natAbs.log2<1920/\R (.sh (.s (tx (itx i))))
 |_,_=>False
theorem aCj:CB aSc aWe:=λ{W B H us vs R Q} e d h q=>by
 unfold aWe at h;split at h
 ·obtain⟨x,rfl,dd⟩:=DBs.one d;exact⟨_,by rw [dd.int],h.1,q _ _ _ h.2 e.refl ⟨rfl,rfl⟩⟩
 ·exact h.elim
def aA7 (ls:List (List Nat)):List U:=ls.map λl=> .s (tx l)
theorem DUs.strs {W B:Addr->Prop} {H:Hp}:∀{ls:List (List Nat)} {xs:List V},DUs W B H (aA7 ls) xs->xs=ls.map λl=>V.str (tx l)
 | [],_,h=>h
 |_::_,_,⟨x,r,e,d,t⟩=>by rw [e,d.1,DUs.strs t];rfl
def aWv (a:TV) (b:TVa):TV:=λρ R=>a ρ λs=>∃sep:List Nat,s.rd= .s (tx sep)/\b ρ λus=>∃ls:List (List Nat),us=[.ls (aA7 ls)]/\(ls.map Cd).sum+ls.length*sep.length<=100000/\R (.sh (.s (tx (glu sep ls))))
section
variable {X:Cx}
theorem aQ9 {o a:Expr} {apos cpos:Pos} {F:TV} {G:TVa} (ho:VE X o F) (ha:VB X [a] G) (hbase:attributeBase o "join" X.env (eval o X.env)=eval o X.env:=by rfl)
  (hfew:((backTo cpos (starEach [a] X.env)).all (λx=> !x.1) && (backToKw cpos (keywordEach [] X.env)).all (λx=>x.1.isSome)
   && decide ([a].length+([]:List Keyword).length+(if([]:List Keyword).isEmpty then 0 else 1)<30))=true:=by rfl)
  (hline:(apos.endLine==cpos.line)=true:=by rfl) (hs:starEach [a] X.env=(false,eval a X.env)::starEach [] X.env:=by rfl) (hplain:(backTo cpos (starEach [] X.env)).any (·.1)=false:=by rfl):VE X (.Call (.Attribute o "join" apos) [a] [] cpos) (aWv F G):=
 let⟨_,p,f⟩:=ho;let⟨_,p',f'⟩:=ha;⟨_,aAh Mc PySem.F.slot_str_join PySem.F.type_str_join aQf p p' hbase hfew hline hs hplain,λ{W B ρ σ H R Q} e h q=>f e h λs v H1 h1 w1 r1=>by
  have d1:=r1.db e.eb;obtain⟨sep,e1,h1⟩:=h1;rw [e1]at d1;obtain rfl:=d1.fl.1;refine⟨rfl,f' (e.to w1) h1 λus vs H2 ⟨ls,e2,hz,h2⟩ w2 d2=>?_⟩;subst e2;obtain⟨x,rfl,dd⟩:=DBs.one d2;obtain⟨p,zs,rfl,_,hp,ds⟩:=dd.ls ((e.to w1).to w2).eb;rw [ds.strs]at hp;exact⟨sep,p,ls,rfl,rfl,hp,hz,q _ _ _ h2 (w1.trans w2) ⟨rfl,rfl⟩⟩⟩
def aWh (i j:Nat) (F:TV):TVS:=λE ρ=>match (ρ[j]? :Option Sl)with
 |some (.ow l)=>F ρ λs=>∃(n:Nat) (u:U),s.rd= .n (n:Int)/\l[n]? =some u/\l.length<10000/\E.nx ((ρ.set j (.ow (l.eraseIdx n))).set i (.sh u))
 |_=>False
theorem DUs.erase {W B:Addr->Prop} {H:Hp}:∀{l:List U} {xs:List V} (n:Nat),DUs W B H l xs->DUs W B H (l.eraseIdx n) (xs.eraseIdx n)
 | [],_,_,h=>by rw [show _=[]from h];exact rfl
 |_::_,_,0,⟨x,r,e,_,t⟩=>by rw [e];exact t
 |_::_,_,n+1,⟨x,r,e,h,t⟩=>by rw [e];exact⟨x,_,rfl,h,DUs.erase n t⟩
theorem aHf {y x:Str} {a:Expr} {py p' apos cpos pos:Pos} {F:TV} {i:Nat} (j:Nat) (hNd:X.N.Nodup) (ha:VE X a F) (hi:X.N[i]? =some y:=by rfl) (hy:Loc X.env.scope y:=by first|exact Bw rfl|exact Cb rfl) (hf:X.fn y=true∨X.env.scope.names.lookup y=some .local:=by first|exact .inl rfl|exact .inr rfl|assumption)
  (hN:X.N[j]? =some x:=by rfl) (hv:Vis X.env.scope x:=by first|exact Bw rfl|exact Cb (Bw rfl)|exact Cb (Cb rfl)) (hd:(x==("__debug__":Str))=false:=by decide) (hcd:(x==("__classdict__":Str))=false:=by decide)
  (hbase:attributeBase (.Name x p') "pop" X.env (eval (.Name x p') X.env)=eval (.Name x p') X.env:=by rfl)
  (hfew:((backTo cpos (starEach [a] X.env)).all (λx=> !x.1) && (backToKw cpos (keywordEach [] X.env)).all (λx=>x.1.isSome)
   && decide ([a].length+([]:List Keyword).length+(if([]:List Keyword).isEmpty then 0 else 1)<30))=true:=by rfl)
  (hline:(apos.endLine==cpos.line)=true:=by rfl) (hs:starEach [a] X.env=(false,eval a X.env)::starEach [] X.env:=by rfl) (hplain:(backTo cpos (starEach [] X.env)).any (·.1)=false:=by rfl)
  (hsw:swapsWith (.Call (.Attribute (.Name x p') "pop" apos) [a] [] cpos) (some (.Name y py)) pos.line X.env=pure false:=by rfl):
  VS X (.Assign [.Name y py] (.Call (.Attribute (.Name x p') "pop" apos) [a] [] cpos) pos) (aWh i j F):=
 let⟨_,p,f⟩:=ha;⟨_,iB hNd hi hy (aAh Ep PySem.F.slot_list_pop PySem.F.type_list_pop aL7 (mZ hN hv hd hcd) (aM p aZ hs) hbase hfew hline hs hplain) hsw hf,λ{W B H0 A ρ σ H E D} o h jj=>by
  unfold aWh at h;split at h
  ·rename_i l hl;obtain⟨q,xs,h1,h2,h3,h4⟩:=o.ow j l hl;refine⟨_,h1,.inl ⟨rfl,_,SqL.of h3⟩,f o.ee h λs v H1 h5 w r=>?_⟩;obtain⟨n,u,e1,e2,e3,h6⟩:=h5;have d:=r.db o.ee.eb;rw [e1]at d;have o1:=o.to w;obtain⟨q',ys,g1,g2,g3,g4⟩:=o1.ow j l hl;rw [h1]at g1;cases g1;obtain⟨z,hz,dz⟩:=g4.get e2;have hn:n<ys.length:=(List.getElem?_eq_some_iff.mp hz).1;have ll:=g4.length;have o2:=o1.own (l':=l.eraseIdx n) (xs':=ys.eraseIdx n) h1 h2 (g4.erase n);refine⟨q,ys,n,n,z,rfl,by rw [d.int],g3,by omega,by omega,Sg (by omega) (by omega),hz,jj.nx (o2.setSh (i:=i) (DU.mono (λb x nb h=>⟨nb,(aP (λe:b=q=>nb (by rw [e];exact .inr ⟨j,(h2 q).mpr rfl⟩))).trans h⟩) u dz)) h6⟩
  ·exact h.elim⟩
def aUq (C:TVc) (b:TVS):TVS:=λE ρ=>∃I:Nat->EV->Prop,(∃m,I m ρ)/\∀m ρ,I m ρ->C ρ λc=>(c=true->b {E with nx:=λρ'=>∃m',m'<m/\I m' ρ',ct:=λρ'=>∃m',m'<m/\I m' ρ',bk:=E.nx} ρ)/\(c=false->E.nx ρ)
theorem aD0 {c:Expr} {body:List Stmt} {pos:Pos} {C:TVc} {b:TVS} (hp:PassesOwn (model X.prog X.w) X.A X.env X.xe) (hc:VC X c C) (hb:VSs X body b):VS X (.While c body [] pos) (aUq C b):=
 let⟨_,p,f⟩:=hc;let⟨_,p',f'⟩:=hb;⟨_,uA hp p p',λ{W B H0 A ρ σ H E D} o h j=>by
  obtain⟨I,⟨m0,i0⟩,turn⟩:=h;refine⟨λm σ H=>∃A ρ,EO W B H0 A ρ σ H/\I m ρ,⟨m0,A,ρ,o,i0⟩,?_⟩;rintro m σ H ⟨A,ρ,o,hi⟩;refine f o.ee (turn m ρ hi) λc H1 h1 w=>?_;cases c with
  |true=>exact aD2 ⟨λσ H=>∃m',m'<m/\∃A ρ,EO W B H0 A ρ σ H/\I m' ρ,λσ' H' z=>z,f' (o.to w) (h1.1 rfl) ⟨λo2 ⟨m',l,i⟩=>⟨m',l,_,_,o2,i⟩,λo2 h2=>j.nx o2 h2,λo2 ⟨m',l,i⟩=>⟨m',l,_,_,o2,i⟩,j.rt⟩⟩
  |false=>exact pX (j.nx (o.to w) (h1.2 rfl))⟩
end
section
variable {X:Cx}
inductive aMk (K:Ac) (xs:List V) (H:Hp) (Q:VK):Prop
 |mk (p:Addr) (ns:List Int) (q0_:xs=[.ref p]) (q1_:SqL K H p (ns.map V.int)) (q2_:ns≠[]) (q3_:∀m:Int,m∈ns->(∀a∈ns,a<=m)->Q (.int m) H):aMk K xs H Q
def aSq (K:Ac):List V->Hp->VK->Prop:=λxs H Q=>aMk K xs H Q
theorem aJ5 (hc:X.calm=true):eV X (.builtin "max") (aSq X.K):=by
 intro pins s σ H xs us Q I r h;obtain⟨p,ns,rfl,hq,hne,q⟩:=h;obtain⟨u,rfl,ru⟩:=vals1 r;cases ru;obtain⟨its,rv,pl,hz⟩:=I.list hq;have hi:IntsAre its ns:=intsAre_of rv;obtain⟨ys,e⟩:=hi.allInts.items;have hns:ns=ys.toList.map (·.1):=by
  rw [<-hi.numsOf, <-Oz, <-e]
 have hsz:0<ys.size:=by
  have h3:0<ns.length:=List.length_pos_iff.mpr hne;rw [hns,Ab,Ap]at h3;exact h3
 have hl:=pl.isList;rw [e]at hl;refine max_intList (I.ok.hd hc) hl hsz λv h' tk hv hk=>?_;obtain⟨t,rfl⟩:=Qv hv;obtain⟨h1,h2⟩:=argBest_gt (numAt ys) (ys.size-1);refine⟨.int _,H,I.kept (t':=tk) hk,⟨t,rfl⟩,q _ ?_ λa ha=>?_⟩
 ·rw [hns,Pa];exact getD_mem (by rw [Ab,Ap];omega)
 ·rw [hns]at ha;obtain⟨j,hj,rfl⟩:=mem_getD ha;rw [Ab,Ap]at hj;rw [<-Pa];exact h2 j (by omega)
end
inductive aNx (us:List U) (R:(Sl->Prop)):Prop
 |mk (ns:List Int) (q0_:us=[.ls (ns.map U.n)]) (q1_:ns≠[]) (q2_:∀m:Int,m∈ns->(∀a∈ns,a<=m)->R (.sh (.n m))):aNx us R
def aVx:List U->(Sl->Prop)->Prop:=λus R=>aNx us R
theorem aPk {K:Ac}:CB (aSq K) aVx:=λ{W B H us vs R Q} e d ⟨ns,eu,hn,h⟩ q=>by
 subst eu;obtain⟨x,rfl,dd⟩:=DBs.one d;obtain⟨p,xs,rfl,_,hp,ds⟩:=dd.ls e;rw [ds.ints]at hp;exact⟨p,ns,rfl,SqL.of hp,hn,λm h1 h2=>q _ _ _ (h m h1 h2) e.refl ⟨rfl,rfl⟩⟩
section
variable {W B:Addr->Prop} {H H':Hp} {ρ ρ':EV} {σ:St}
end
abbrev zk (ns:List Str) (xs:List V):List (Key×V):=(ns.map Ct).zip xs
theorem aCi {ns:List Str} {xs:List V} {k:Str} {v:V} (l:ns.length=xs.length) (h:k∉ns):putK (zk ns xs) (Ct k) v=zk (ns++[k]) (xs++[v]):=by
 unfold putK zk;rw [if_neg,Bc,Lb (by rw [Ab];exact l)]
 ·rfl
 ·intro z;obtain⟨x,hx,e⟩:=List.any_eq_true.mp z;have e:=of_decide_eq_true e;have h2:=(Hg (show(x.1,x.2)∈_ from hx)).1;rw [e]at h2;obtain⟨n,hn,en⟩:=List.mem_map.mp h2;cases en;exact h hn
theorem aOh {ns:List Str} {xs:List V} {k:Str} {v v':V} (l:ns.length=xs.length) (h:k∉ns):putK (zk (ns++[k]) (xs++[v])) (Ct k) v'=zk (ns++[k]) (xs++[v']):=by
 unfold putK zk;rw [Bc,Lb (by rw [Ab];exact l),Lb (by rw [Ab];exact l)];have hk:∀x∈(ns.map Ct:List Key).zip xs,¬x.1=Ct k:=λx hx e=>by
  have h2:=(Hg (show(x.1,x.2)∈_ from hx)).1;rw [e]at h2;obtain⟨n,hn,en⟩:=List.mem_map.mp h2;cases en;exact h hn
 rw [if_pos]
 ·rw [Bc];congr 1
  ·refine(Jl λx hx=>?_).trans (Uk _);rw [if_neg (hk x hx)];rfl
  ·simp
 ·rw [List.any_append];simp
theorem zL {ns:List Str} {xs:List V} {k:Str} {v:V} (l:ns.length=xs.length) (h:k∉ns):lZ (zk (ns++[k]) (xs++[v])) (Ct k)=some v:=by
 induction ns generalizing xs with
 |nil=>
  cases xs with
  |nil=>exact oF rfl
  |cons _ _=>cases l
 |cons n ns ih=>
  cases xs with
  |nil=>cases l
  |cons x xs=>
   show lZ ((Ct n,x)::zk (ns++[k]) (xs++[v])) _=_;rw [nJ (λz=>h (by cases z;exact Af))];exact ih (Hc l) λz=>h (Ae _ z)
def iW (P:Program) (w:World) (a:Addr) (xs:List (Tke×Addr×Value)) (h:Heap):Prop:=(a==sysModules)=false/\∃o es ep,h.get? a=some o/\o.ExactDict/\o.data= .dict es ep/\es.toList=xs.map (entryOfKey (gO (intKind P w)))/\(xs.map (·.1)).Nodup
theorem iW.stay {P:Program} {w:World} {a:Addr} {xs:List (Tke×Addr×Value)} (h1 h2:Heap) (p:iW P w a xs h1) (k:∀o,h1.get? a=some o->h2.get? a=some o):iW P w a xs h2:=let⟨y,o,es,ep,e,c⟩:=p;⟨y,o,es,ep,k _ e,c⟩
def PdR (W B:Addr->Prop) (H:Hp):List (Tke×U)->List (Tke×Addr×Value)->Prop
 | [],xs=>xs=[]
 |p::l,xs=>∃q r,xs=q::r/\q.1=p.1/\DU W B H (tkU p.1) (.ref q.2.1)/\(∃v,RelV v q.2.2/\DU W B H p.2 v)/\PdR W B H l r
def uE:List (Tke×U)->Tke->Option U
 | [],_=>none
 |p::l,k=>if p.1=k then some p.2 else uE l k
def aDk (l:List (Tke×U)) (k:Tke) (u:U):List (Tke×U):=if(uE l k).isSome then l.map (λp=>if p.1=k then(p.1,u)else p)else l++[(k,u)]
section
variable {W W' B B':Addr->Prop} {H H':Hp}
theorem PdR.mono (k:∀b o,¬B b->H b=some o->¬B' b/\H' b=some o):∀{l:List (Tke×U)} {xs:List (Tke×Addr×Value)},PdR W B H l xs->PdR W B' H' l xs
 | [],_,h=>h
 |_::_,_,⟨q,r,e,e1,d,⟨v,rv,dv⟩,t⟩=>⟨q,r,e,e1,DU.mono k _ d,⟨v,rv,DU.mono k _ dv⟩,PdR.mono k t⟩
theorem PdR.wm (k:∀p,W p->W' p):∀{l:List (Tke×U)} {xs:List (Tke×Addr×Value)},PdR W B H l xs->PdR W' B H l xs
 | [],_,h=>h
 |_::_,_,⟨q,r,e,e1,d,⟨v,rv,dv⟩,t⟩=>⟨q,r,e,e1,DU.wm k _ d,⟨v,rv,DU.wm k _ dv⟩,PdR.wm k t⟩
theorem PdR.keys:∀{l:List (Tke×U)} {xs:List (Tke×Addr×Value)},PdR W B H l xs->xs.map (·.1)=l.map (·.1)/\∀x∈xs,DU W B H (tkU x.1) (.ref x.2.1)
 | [],_,h=>by rw [show _=[]from h];exact⟨rfl,nofun⟩
 |_::_,_,⟨q,r,e,e1,d,_,t⟩=>by
  obtain⟨h1,h2⟩:=PdR.keys t;subst e;rw [<-e1]at d;exact⟨by rw [Aw,Aw,h1,e1],λx hx=>(List.mem_cons.mp hx).elim (λz=>z▸d) (h2 x)⟩
theorem PdR.len {l:List (Tke×U)} {xs:List (Tke×Addr×Value)} (h:PdR W B H l xs):xs.length=l.length:=by
 have:=congrArg Cd h.keys.1;simpa using this
theorem PdR.val (k:Tke):∀{l:List (Tke×U)} {xs:List (Tke×Addr×Value)},PdR W B H l xs->(uE l k=none/\atKey xs k=none)∨∃u a r v,uE l k=some u/\atKey xs k=some (a,r)/\RelV v r/\DU W B H u v
 | [],_,h=>by rw [show _=[]from h];exact .inl ⟨rfl,rfl⟩
 |p::l,_,⟨q,r,e,e1,d,⟨v,rv,dv⟩,t⟩=>by
  subst e;by_cases z:p.1=k
  ·have z':q.1=k:=e1.trans z;exact .inr ⟨p.2,q.2.1,q.2.2,v,if_pos z,by simp [atKey,En,z'],rv,dv⟩
  ·have z':¬q.1=k:=λy=>z (e1.symm.trans y);have b:atKey (q::r) k=atKey r k:=by simp [atKey,En,z']
   rw [show uE (p::l) k=uE l k from if_neg z,b];exact PdR.val k t
theorem PdR.snoc {k:Tke} {b:Addr} {u:U} {v:V} {x:Value} (d:DU W B H (tkU k) (.ref b)) (rv:RelV v x) (dv:DU W B H u v):∀{l:List (Tke×U)} {xs:List (Tke×Addr×Value)},PdR W B H l xs->PdR W B H (l++[(k,u)]) (xs++[(k,b,x)])
 | [],_,h=>by rw [show _=[]from h];exact⟨_,[],rfl,rfl,d,⟨v,rv,dv⟩,rfl⟩
 |_::_,_,⟨q,r,e,e1,d1,d2,t⟩=>by subst e;exact⟨q,_,rfl,e1,d1,d2,PdR.snoc d rv dv t⟩
theorem PdR.repl {k:Tke} {u:U} {v:V} {x:Value} (rv:RelV v x) (dv:DU W B H u v):∀{l:List (Tke×U)} {xs:List (Tke×Addr×Value)},PdR W B H l xs->PdR W B H (l.map λp=>if p.1=k then(p.1,u)else p) (xs.map (putAt k x))
 | [],_,h=>by rw [show _=[]from h];exact rfl
 |p::_,_,⟨q,r,e,e1,d1,d2,t⟩=>by
  subst e;show PdR W B H ((if p.1=k then(p.1,u)else p)::_) (putAt k x q::_);unfold putAt;by_cases z:p.1=k
  ·rw [if_pos (e1.trans z),if_pos z];exact⟨_,_,rfl,e1,d1,⟨v,rv,dv⟩,PdR.repl rv dv t⟩
  ·rw [if_neg (λy=>z (e1.symm.trans y)),if_neg z];exact⟨_,_,rfl,e1,d1,d2,PdR.repl rv dv t⟩
theorem PdR.put {k:Tke} {b:Addr} {u:U} {v:V} {x:Value} {l:List (Tke×U)} {xs:List (Tke×Addr×Value)} (h:PdR W B H l xs) (d:DU W B H (tkU k) (.ref b)) (rv:RelV v x) (dv:DU W B H u v):PdR W B H (aDk l k u) (storedH xs k b x):=by
 unfold aDk storedH;rcases h.val k with ⟨e1,e2⟩|⟨_,_,_,_,e1,e2,_⟩
 ·rw [e1,e2];exact PdR.snoc d rv dv h
 ·rw [e1,e2];exact PdR.repl rv dv h
theorem aMg {k:Tke} {y:V} (d:DU W B H (tkU k) y):∃b,y= .ref b/\PKy H (k,b):=by
 obtain⟨a,ys,rfl,nb,ha,y1,_,rfl,f1,y2,r2,rfl,⟨q,zs,rfl,nq,hq,dz⟩,e3⟩:=d;obtain rfl:r2=[]:=e3;rw [f1.1]at ha;exact⟨a,rfl,q,ha,by rw [dz.ints]at hq;exact hq⟩
theorem aN6 {k:Tke} {b:Addr} (d:DU W B H (tkU k) (.ref b)):PKy H (k,b):=by
 obtain⟨_,e,h⟩:=aMg d;cases e;exact h
end
def pdO (P:Program) (w:World) (kvs:List (Tke×U)):Own:=⟨λW B S H p=>(∀b,S b↔b=p)/\∃xs,H p=some (.ext (iW P w p xs))/\PdR W B H kvs xs,λk e ⟨s,xs,h,r⟩=>⟨s,xs,(e _ ((s _).mpr rfl)).trans h,r.mono k⟩,λk ⟨s,xs,h,r⟩=>⟨s,xs,h,r.wm k⟩,λ⟨s,_,h,_⟩ b hb=>by rw [(s b).mp hb];exact⟨_,h,trivial⟩,λ⟨s,_⟩=>(s _).mpr rfl⟩
def aV3 (P:Program) (w:World) (s:Sl) (kvs:List (Tke×U)):Prop:=s= .bo (pdO P w kvs)∨s= .oo (pdO P w kvs)∨s= .sh (.op (pdO P w kvs).fz)
theorem RO.pd {W B:Addr->Prop} {H H':Hp} {P:Program} {w:World} {s:Sl} {kvs:List (Tke×U)} {v:V} (h:aV3 P w s kvs) (r:RO W B H H' s v):∃p xs,v= .ref p/\H' p=some (.ext (iW P w p xs))/\PdR W B H' kvs xs:=by
 rcases h with rfl|rfl|rfl
 ·obtain⟨p,S,e,_,_,xs,h⟩:=r;exact⟨p,xs,e,h⟩
 ·obtain⟨p,S,e,_,h⟩:=r;obtain⟨_,xs,h⟩:=Own.less _ h;exact⟨p,xs,e,h⟩
 ·obtain⟨p,S,e,_,_,xs,h⟩:=r;exact⟨p,xs,e,h⟩
theorem aIf {P:Program} {w:World} {H:Hp} {h:Heap} {a:Addr} {xs:List (Tke×Addr×Value)} (ok:HOk P w H h) (e:H a=some (.ext (iW P w a xs))) (k:∀x∈xs,PKy H (x.1,x.2.1)):(a==sysModules)=false/\h.DictOfH (gO (intKind P w)) a xs:=by
 obtain⟨⟨y,o,es,ep,h1,h2,h3,h4,h5⟩,_,_⟩:=(show cT P w H h a (.ext (iW P w a xs))from ok a _ e);exact⟨y,o,es,ep,h1,h2,h3,h4,λx hx=>uP (x:=(x.1,x.2.1)) ok (k x hx),h5⟩
def sPp (P:Program) (w:World) (td ty tv:TE):TS:=λD σ H=>tv σ H λv H1=>td σ H1 λx H2=>ty σ H2 λy H3=>∃a b xs k,x= .ref a/\y= .ref b/\H3 a=some (.ext (iW P w a xs))/\(∀x∈xs,PKy H3 (x.1,x.2.1))/\PKy H3 (k,b)/\xs.length<sizeLine/\∀r,RelV v r->D.nx σ (upd H3 a (.ext (iW P w a (storedH xs k b r))))
inductive aIs (P:Program) (w:World) (ys:List V) (H:Hp) (Q:VK):Prop
 |mk (p:Addr) (xs:List (Tke×Addr×Value)) (q0_:ys=[.ref p]) (q1_:H p=some (.ext (iW P w p xs))) (q2_:(∀x∈xs,PKy H (x.1,x.2.1))) (q3_:xs.length<64) (q4_:∀(l:Addr) (zs:List (Tke×Addr)),H l=none->zs.Perm (xs.map λx=>(x.1,x.2.1))->zs.Pairwise (λx y=>lQ x.1 y.1=true)->Q (.ref l) (upd H l (.lst (zs.map λx=>V.ref x.2)))):aIs P w ys H Q
def aS1 (P:Program) (w:World):List V->Hp->VK->Prop:=λys H Q=>aIs P w ys H Q
section
variable {X:Cx} {o i value:Expr} {pos pos':Pos} {td ty tv:TE}
theorem aV6 (hu:X.A.units+2<cLine) (ho:PE X o td) (hi:PE X i ty) (hv:PE X value tv) (hs:swapsWith value (some (.Subscript o i pos')) pos.line X.env=pure false):PS X (.Assign [.Subscript o i pos'] value pos) (sPp X.prog X.w td ty tv):=by
 intro pins s σ H D I h;refine Pk (thn (hv pins s σ H _ I h) λr s1 ⟨v,H1,I1,rv,q1⟩=>thn (ho pins s1 σ H1 _ I1 q1) λu s2 ⟨x,H2,I2,rx,q2⟩=>thn (hi pins s2 σ H2 _ I2 q2) λiv s3 ⟨y,H3,I3,ry,a,b,xs,k,ex,ey,e,ks,eb,hl,q3⟩=>?_) hs;subst ex ey;obtain rfl:u=Au a:=rx;obtain rfl:iv=Au b:=ry;obtain⟨lo,dd⟩:=aIf I3.hok e ks;refine Ri (hsz:=Es hl) (show X.A.in1.units+1<cLine from hu) (uP (x:=(k,b)) I3.hok eb) dd λh' dd' hs=>?_;obtain⟨q,es,ep,hq,h2,h3,h4,_,h5⟩:=dd';have ok:cT X.prog X.w (upd H3 a (.ext (iW X.prog X.w a (storedH xs k b r)))) h' a (.ext (iW X.prog X.w a (storedH xs k b r))):=⟨⟨lo,q,es,ep,hq,h2,h3,h4,h5⟩,⟨q,hq⟩,λh1 h2 p k=>iW.stay h1 h2 p k⟩;exact⟨σ,_,yH I3 (by rw [e];exact Eh) hs ⟨q,hq⟩ ok,q3 r rv⟩
theorem aHa (hu:X.A.units+40<cLine) (hc:X.calm=true):eV X (.builtin "sorted") (aS1 X.prog X.w):=by
 intro pins s σ H ys us Q I r h;obtain⟨p,xs,rfl,hp,hk,h64,q⟩:=h;obtain⟨u,rfl,ru⟩:=vals1 r;cases ru;obtain⟨lo,o,es,ep,h1,h2,h3,h4,h5,h6⟩:=aIf I.hok hp hk;have el:es.size=xs.length:=by rw [<-Ap,h4,Ab]
 refine Hn Qu Pz Qa (Qd _) ?_;unfold Builtin.«sorted»;refine Aa (m:=checkCount "sorted" 1 1 _) (Ad ?_);refine Aa (gather (A:=X.A.in1) (aQn (es:=es) (ep:=ep) lo) (I.ok.hd hc) ⟨o,h1,h2,h3⟩ (by rw [el,Cr];omega) λh' tk acc hkp hgt hacc=>?_);have ea:acc.toList=(xs.map λx=>(x.1,x.2.1)).map λx=>Au x.2:=by
  refine Kb λj=>?_;rw [Bl,Ay];cases hj:xs[j]? with
  |none=>
   have:xs.length<=j:=List.getElem?_eq_none_iff.mp hj;exact Cm (by rw [Ap,hacc.1,el];exact this)
  |some x=>
   have hlt:j<acc.size:=by rw [hacc.1,el];exact(List.getElem?_eq_some_iff.mp hj).1
   obtain⟨e,e1,e2⟩:=hacc.2 j _ (Az hlt);have e3:es.toList[j]? =some e:=by rw [Bk];exact e1
   rw [h4,Ay,hj]at e3;cases e3;rw [Bk,Az hlt,e2];rfl
 rw [ea];have pl:((xs.map λx=>(x.1,x.2.1)):List (Tke×Addr)).length=xs.length:=Ab ..;generalize hps:((xs.map λx=>(x.1,x.2.1)):List (Tke×Addr))=ps at pl q;have nd:(ps.map (·.1)).Nodup:=by rw [<-hps,Bl];exact h6
 refine Aa (Ku ?_ (by rw [Ab,Cr];omega));have hoL:(h'.push (seqObj "list" (ps.map λx=>Au x.2).toArray 0)).get? h'.objs.size=some (seqObj "list" (ps.map λx=>Au x.2).toArray 0):=Ar _ rfl;have O:=aHq (prog:=X.prog) (w:=X.w) λk v hv=>by obtain⟨t,rfl⟩:=Do hv;exact⟨_,_,rfl⟩
 have T1:aAg (gO (intKind X.prog X.w)) (λ_=>True) (h'.push (seqObj "list" (ps.map λx=>Au x.2).toArray 0)) ps:=λx hx=>by
  rw [<-hps]at hx;obtain⟨y,hy,rfl⟩:=List.mem_map.mp hx;exact⟨trivial,O.set.mono (uP I.hok (hk y hy)) λb o _ e=>Ai _ (hkp b o e)⟩
 refine Aa (Ca (De slot_list_sort ⟨_,hoL,rfl⟩ entry_list_sort (qZ O (by first|omega|(show X.A.units+1+20<cLine;omega)|(show X.A.units+2+20<cLine;omega)|(show X.A.units+3+20<cLine;omega)) hoL T1 nd (by omega) λzs py hy=>⟨_,rfl,?_⟩) (Ob _)));refine Ad ⟨_,rfl,?_⟩;obtain⟨e,he⟩:=Ox (out:=(zs.map λx=>Au x.2).toArray) hoL;have keep:∀b o,s.heap.get? b=some o->(sortedHeap (h'.push (seqObj "list" (ps.map λx=>Au x.2).toArray 0)) h'.objs.size (ps.map λx=>Au x.2) (zs.map λx=>Au x.2).toArray).get? b=some o:=λb o q=>by
  have hb:b<h'.objs.size:=Ao (hkp b o q);rw [Ny (Ax hb) (by rw [Dj];exact Eb hb)];exact Ai _ (hkp b o q)
 have hge:s.heap.objs.size<=h'.objs.size:=Es hgt;refine⟨.ref h'.objs.size,_,I.laid (t':=tk) (o:= .lst (zs.map λx=>V.ref x.2)) keep hge ⟨?_,_,e,sW,he⟩,rfl,q _ zs (I.hok.fresh hge) py hy⟩;rw [Ab,py.length_eq,Cr];omega
end
def aWo (P:Program) (w:World):TV:=λ_ R=>R (.oo (pdO P w []))
def aS0 (P:Program) (w:World) (a:TV):TV:=λρ R=>a ρ λs=>∃kvs,aV3 P w s kvs/\kvs.length<64/\∀ys:List Tke,ys.Perm (kvs.map (·.1))->ys.Pairwise (λx y=>lQ x y=true)->R (.ow (ys.map tkU))
def aXj (P:Program) (w:World) (j:Nat) (Fk Fv:TV):TVS:=λE ρ=>Fv ρ λsv=>sv.es λu=>∃kvs,ρ[j]? =some (.oo (pdO P w kvs))/\kvs.length<10000/\Fk ρ λsk=>sk.es λku=>∃k,ku=tkU k/\E.nx (ρ.set j (.oo (pdO P w (aDk kvs k u))))
section
variable {X:Cx} {P:Program} {w:World}
theorem aPd (hP:X.prog=P) (hw:X.w=w) {pos:Pos}:VE X (.Dict [] [] pos) (aWo P w):=by
 subst hP hw;refine⟨λσ H Q=>∀p,H p=none->Q (.ref p) (upd H p (.ext (iW X.prog X.w p []))),λpins s σ H Q I h=>?_,λe h q p n=>q _ _ _ h (e.eb.new n) ⟨p,(·=p),rfl,λb hb=>by rw [hb];exact n,λ_=>Np,[],aK,rfl⟩⟩;have hp:iW X.prog X.w s.heap.objs.size [] (s.heap.push {cls:= .type "dict",data:= .dict #[]}):=⟨beq_eq_false_iff_ne.mpr (Di (Ax I.big)),_, #[],0,Ar _ rfl,⟨rfl,rfl,rfl⟩,rfl,rfl,Mf⟩;have ok:cT X.prog X.w (upd H s.heap.objs.size (.ext (iW X.prog X.w s.heap.objs.size []))) (s.heap.push {cls:= .type "dict",data:= .dict #[]}) s.heap.objs.size (.ext (iW X.prog X.w s.heap.objs.size [])):=⟨hp,⟨_,Ar _ rfl⟩,λh1 h2 p k=>iW.stay h1 h2 p k⟩;exact wpAny_Dict_empty ⟨.ref s.heap.objs.size,_,I.laid (a:=s.heap.objs.size) (o:= .ext (iW X.prog X.w s.heap.objs.size [])) (t':=s.toks) (λ_ _ q=>Ai _ q) (Am _) ok,rfl,h _ (I.hok.fresh (Am _))⟩
theorem aOw {a:Expr} {p pos:Pos} {F:TV} {k:Nat} (hP:X.prog=P) (hw:X.w=w) (hr:dN k X.A) (hc:X.calm=true) (hm:X.mg "sorted"=none) (ha:VE X a F) (hg:Gl X "sorted":=by rfl) (hs:starEach [a] X.env=(false,eval a X.env)::starEach [] X.env:=by rfl) (hpl:(backTo pos (starEach [] X.env)).any (·.1)=false:=by rfl):VE X (.Call (.Name "sorted" p) [a] [] pos) (aS0 P w F):=by
 subst hP hw;obtain⟨_,p,f⟩:=ha;refine⟨_,gM (aHa (by have:=hr.un;omega) hc) hg hm Qw (aM p aZ hs) (by decide) (by decide) hs hpl,λ{W B ρ σ H R Q} e h q=>f e h λs v H1 h1 w1 r1=>?_⟩;obtain⟨kvs,hs,hl,h2⟩:=h1;obtain⟨a,xs,rfl,g1,g2⟩:=r1.pd hs;have e1:=e.to w1;refine⟨a,xs,rfl,g1,λx hx=>aN6 (g2.keys.2 x hx),by rw [g2.len];exact hl,λl zs nl pm pw=>?_⟩;have w3:=e1.eb.new (o:= .lst (zs.map λx=>V.ref x.2)) nl;refine q (.ow ((zs.map (·.1)).map tkU)) _ _ (h2 _ ?_ ?_) (w1.trans w3) (RO.back (s:= .ow _) w1 ⟨l,_,rfl,nl,aK,aGn λx hx=>?_⟩)
 ·have:=pm.map (·.1);rw [Bl]at this;rw [<-g2.keys.1];exact this
 ·rw [Fh];exact pw
 ·obtain⟨y,hy,rfl⟩:=List.mem_map.mp (pm.mem_iff.mp hx);exact DU.mono (λb o nb h=>⟨λz=>z.elim nb (aQ h nl),(e1.eb.keep w3 b o nb h).2⟩) _ (g2.keys.2 y hy)
theorem aP4 {x:Str} {i value:Expr} {pos pos' p':Pos} {Fk Fv:TV} {k:Nat} (j:Nat) (hP:X.prog=P) (hw:X.w=w) (hr:dN k X.A) (hk:VE X i Fk) (hv:VE X value Fv) (hN:X.N[j]? =some x:=by rfl) (hvs:Vis X.env.scope x:=by first|exact Bw rfl|exact Cb (Bw rfl)|exact Cb (Cb rfl)) (hd:(x==("__debug__":Str))=false:=by decide)
  (hcd:(x==("__classdict__":Str))=false:=by decide) (hs:swapsWith value (some (.Subscript (.Name x p') i pos')) pos.line X.env=pure false:=by rfl):VS X (.Assign [.Subscript (.Name x p') i pos'] value pos) (aXj P w j Fk Fv):=by
 subst hP hw;obtain⟨_,p1,f1⟩:=hk;obtain⟨_,p2,f2⟩:=hv;refine⟨_,aV6 (by have:=hr.un;omega) (mZ hN hvs hd hcd) p1 p2 hs,λ{W B H0 A ρ σ H E D} o h jj=>f2 o.ee h λsv v H1 h1 w1 r1=>?_⟩;obtain⟨u,⟨kvs,hj,hl,h2⟩,dv⟩:=r1.du o.ee.eb h1;have o1:=o.to w1;obtain⟨q,g1,g2,_⟩:=o1.hd j _ _ hj rfl;refine⟨_,g1,f1 o1.ee h2 λsk y H3 h3 w3 r3=>?_⟩;obtain⟨ku,⟨k,rfl,h4⟩,dk⟩:=r3.du o1.ee.eb h3;have o3:=o1.to w3;obtain⟨q',g4,_,xs,g5,g6⟩:=o3.hd j _ _ hj rfl;rw [g1]at g4;cases g4;obtain⟨b,rfl,kb⟩:=aMg dk;refine⟨q,b,xs,k,rfl,rfl,g5,λx hx=>aN6 (g6.keys.2 x hx),kb,by rw [g6.len];exact Ko hl (by decide),λr rv=>jj.nx (o3.chg g1 ((g2 q).mpr rfl) (s':= .oo (pdO X.prog X.w (aDk kvs k u))) rfl rfl ⟨g2,_,aK,?_⟩) h4⟩;exact PdR.mono (λb y n h=>⟨n,(aP (λz:b=q=>n (by rw [z];exact .inr ⟨j,(g2 q).mpr rfl⟩))).trans h⟩) (g6.put dk rv (DU.mono (o1.ee.eb.keep w3) u dv))
end
def aX7 (F:TV):TV:=λρ R=>F ρ λs=>match s.rd with
 | .ls l=>R (.ow l.reverse)
 |_=>False
theorem DUs.rev {W B:Addr->Prop} {H:Hp}:∀{l:List U} {xs:List V},DUs W B H l xs->DUs W B H l.reverse xs.reverse
 | [],_,h=>by rw [show _=[]from h];exact rfl
 |_::_,_,⟨x,r,e,h,t⟩=>by rw [e,Hx,Hx];exact(DUs.rev t).app (DUs.one h)
theorem aUk {X:Cx} {a:Expr} {F:TV} {j:Nat} {p2 p3 p4 pos:Pos} (ha:VE X a F):VE X (.Subscript a (.Slice none none (some (.UnaryOp .USub (.Constant (.int 1) j p3) p4)) p2) pos) (aX7 F):=let⟨_,p,f⟩:=ha;⟨_,aU4 p,λ{W B ρ σ H R Q} e h q=>f e h λs v H1 h1 w r=>by
 have d:=r.db e.eb;revert h1 d;generalize s.rd=u;intro h1 d;split at h1
 ·obtain⟨a,xs,rfl,nw,ha,ds⟩:=d.ls (e.to w).eb;refine⟨a,xs,rfl,SqL.of ha,λp n=>?_⟩;have e1:=(e.to w).eb;have f2:=e1.new (o:= .lst xs.reverse) n;exact q _ _ _ h1 (w.trans f2) (RO.back (s:= .ow _) w ⟨p,_,rfl,n,aK,DUs.mono (λb o nb h=>⟨λz=>z.elim nb (aQ h n),(e1.keep f2 b o nb h).2⟩) _ ds.rev⟩)
 ·exact h1.elim⟩
theorem wB {l:List (Tke×U)} {k:Tke} {u:U}:(aDk l k u).map (·.1)=if(uE l k).isSome then l.map (·.1)else l.map (·.1)++[k]:=by
 unfold aDk;split
 ·rw [Bl];refine Jl λp _=>?_;show(if p.1=k then(p.1,u)else p).1=p.1;split<;>rfl
 ·rw [Bc];rfl
theorem aCf {k:Tke}:∀{l:List (Tke×U)},(uE l k).isSome=true->k∈l.map (·.1)
 | [],h=>by cases h
 |p::l,h=>by
  by_cases e:p.1=k
  ·rw [<-e];exact Af
  ·rw [show uE (p::l) k=uE l k from if_neg e]at h;exact Ae _ (aCf h)
theorem aK6 {l:List (Tke×U)} {k z:Tke} {u:U}:z∈(aDk l k u).map (·.1)↔z∈l.map (·.1)∨z=k:=by
 rw [wB];split
 ·rename_i h;exact⟨.inl,λy=>y.elim id λy=>y▸aCf h⟩
 ·rw [Gd,Gc]
theorem aN5 {l:List (Tke×U)} {k:Tke} {u:U}:(aDk l k u).length<=l.length+1:=by
 have:=congrArg Cd (wB (l:=l) (k:=k) (u:=u));rw [Ab]at this;rw [this];split
 ·rw [Ab];omega
 ·rw [Ah,Ab];exact Am _
theorem aBf {k:Tke}:∀{l:List (Tke×U)},(uE l k).isSome=false->k∉l.map (·.1)
 | [],_,h=>nomatch h
 |p::l,h,z=>by
  by_cases e:p.1=k
  ·rw [show uE (p::l) k=some p.2 from if_pos e]at h;cases h
  ·rw [show uE (p::l) k=uE l k from if_neg e]at h;exact(List.mem_cons.mp z).elim (λy=>e y.symm) (aBf h)
theorem aQx {l:List (Tke×U)} {k:Tke} {u:U} (h:(l.map (·.1)).Nodup):((aDk l k u).map (·.1)).Nodup:=by
 rw [wB];split
 ·exact h
 ·rename_i n;rw [List.nodup_append];exact⟨h,by simp,λa ha b hb e=>aBf (Bool.eq_false_iff.mpr n) (by rw [<-List.mem_singleton.mp hb, <-e];exact ha)⟩
theorem aIg {n:Nat}:∀{l m:List U},U.dts n l->U.dts n m->U.dts n (l++m)
 | [],_,_,h=>h
 |_::_,_,⟨a,b⟩,h=>⟨a,aIg b h⟩
def dkO (ns:List Str) (us:List U):Own:=⟨λW B S H p=>(∀b,S b↔b=p)/\∃xs,H p=some (.dK (zk ns xs))/\ns.length=xs.length/\DUs W B H us xs,λk e ⟨s,xs,h,l,d⟩=>⟨s,xs,(e _ ((s _).mpr rfl)).trans h,l,DUs.mono k us d⟩,λk ⟨s,xs,h,l,d⟩=>⟨s,xs,h,l,DUs.wm k us d⟩,λ⟨s,_,h,_⟩ b hb=>by rw [(s b).mp hb];exact⟨_,h,trivial⟩,λ⟨s,_⟩=>(s _).mpr rfl⟩
def dlO (ns:List Str) (us:List U) (k:Str) (l:List U):Own:=⟨λW B S H p=>∃q xs ys,(∀b,S b↔b=p∨b=q)/\p≠q/\H p=some (.dK (zk (ns++[k]) (xs++[.ref q])))/\ns.length=xs.length/\DUs W B H us xs/\H q=some (.lst ys)/\DUs W B H l ys,
 λkp e h=>by
  obtain⟨q,xs,ys,s,n,h1,h2,h3,h4,h5⟩:=h;exact⟨q,xs,ys,s,n,(e _ ((s _).mpr (.inl rfl))).trans h1,h2,DUs.mono kp us h3,(e _ ((s _).mpr (.inr rfl))).trans h4,DUs.mono kp l h5⟩,λkp h=>by
  obtain⟨q,xs,ys,s,n,h1,h2,h3,h4,h5⟩:=h;exact⟨q,xs,ys,s,n,h1,h2,DUs.wm kp us h3,h4,DUs.wm kp l h5⟩,λh b hb=>by
  obtain⟨q,xs,ys,s,n,h1,h2,h3,h4,h5⟩:=h;rcases (s b).mp hb with rfl|rfl
  ·exact⟨_,h1,trivial⟩
  ·exact⟨_,h4,trivial⟩,λh=>by
  obtain⟨_,_,_,s,_⟩:=h;exact(s _).mpr (.inl rfl)⟩
section
variable {W B:Addr->Prop} {H0 H H1:Hp} {A:Nat->Addr->Prop} {ρ:EV} {σ:St}
theorem EO.rep (o:EO W B H0 A ρ σ H) {i:Nat} {s:Sl} {w:Own} {S:Addr->Prop} {p:Addr} (hs:s.hold=some w) (hb:s.brd=false) (f:∀b y,¬W b->¬S b->H b=some y->H1 b=some y) (fw:∀p,W p->Wll H1 p) (n:∀b,S b->A i b∨H b=none) (d:w.φ W (λb=>B b∨(∃j,j≠i/\A j b)∨S b) S H1 p) (hg:σ[i]? =some (some (.ref p))):
  EO W B H0 (λj q=>(j=i/\S q)∨(j≠i/\A j q)) (ρ.set i s) σ H1:=by
 have n0:∀b,S b->H0 b=none:=λb hb=>(n b hb).elim (o.an i b) o.fw.none_;have k:∀b y,¬Bx B A b->H b=some y->¬Bx B (λj q=>(j=i/\S q)∨(j≠i/\A j q)) b/\H1 b=some y:=λb y nb h=>by
  have ns:¬S b:=λz=>(n b z).elim (λz=>nb (.inr ⟨i,z⟩)) λz=>by rw [z]at h;cases h
  exact⟨λz=>z.elim (λz=>nb (.inl z)) λ⟨j,z⟩=>z.elim (λz=>ns z.2) λz=>nb (.inr ⟨j,z.2⟩),f b y (λz=>nb (.inl (o.eb.wb b z))) ns h⟩
 have oth:∀{j b},j≠i->A j b->¬S b:=λ{j b} ne h z=>(n b z).elim (λz=>ne (o.inj j i b h z)) (o.awn h);refine⟨o.eb,⟨λb y w h=>f b y w (λz=>by rw [n0 b z]at h;cases h) (o.fw.fr b y w h),fw⟩,by rw [Ck,o.len],λj q h=>h.elim (λh=>n0 q h.2) λh=>o.an j q h.2,λj q h=>?_,λj j' q h h'=>?_,λj u h=>?_,λj m v h hm=>?_,λj m h=>?_⟩
 ·rcases h with ⟨_,h⟩|⟨ne,h⟩
  ·exact w.th d q h
  ·obtain⟨y,h1,h2⟩:=o.aw j q h;exact⟨y,f q y (o.nw h) (oth ne h) h1,h2⟩
 ·rcases h with ⟨e1,e2⟩|⟨ne,h⟩<;>rcases h' with ⟨e3,e4⟩|⟨ne',h'⟩
  ·rw [e1,e3]
  ·exact(oth ne' h' e2).elim
  ·exact(oth ne h e4).elim
  ·exact o.inj j j' q h h'
 ·rcases cR h with ⟨rfl,rfl,hl⟩|⟨ne,h⟩
  ·cases hs
  ·obtain⟨v',h1,h2⟩:=o.sh j u h;exact⟨v',h1,DU.mono k u h2⟩
 ·rcases cR h with ⟨rfl,rfl,hl⟩|⟨ne,h⟩
  ·rw [hs]at hm;cases hm;refine⟨p,hg,w.at_ (w.mono (λb y nb h=>⟨λz=>nb (z.elim .inl λ⟨j,z⟩=> .inr (z.elim (λz=> .inr z.2) λz=> .inl ⟨j,z⟩)),h⟩) (λ_ _=>rfl) d) λb=>⟨λh=>h.elim (λh=>h.2) λh=>absurd rfl h.1,λh=> .inl ⟨rfl,h⟩⟩⟩
  ·obtain⟨q,h1,h3⟩:=o.hd j m v h hm;exact⟨q,h1,v.at_ (v.mono k (λb hb=>let⟨y,hy,_⟩:=v.th h3 b hb;(f b y (o.nw hb) (oth ne hb) hy).trans hy.symm) h3) λb=>⟨λh=>h.elim (λh=>absurd h.1 ne) λh=>h.2,λh=> .inr ⟨ne,h⟩⟩⟩
 ·rcases cR h with ⟨rfl,rfl,hl⟩|⟨ne,h⟩
  ·exact hb
  ·exact o.nb j m h
end
def tPa (ns:List Str) (F:TVa) (trs:List (TE×TE)):Prop:=∀{W B:Addr->Prop} {ρ:EV} {σ:St} {H:Hp} {R:List U->Prop} {Q:List (V×V)->Hp->Prop},EE W B H ρ σ->F ρ R->(∀us vs H',R us->us.length=ns.length->Fw W H H'->DUs W B H' us vs->Q ((ns.map V.str).zip vs) H')->aDo trs σ H Q
def VPs (X:Cx) (pos:Pos) (ks:List (Option Expr)) (vs:List Expr) (ns:List Str) (F:TVa):Prop:=∃trs,PPs X pos ks vs trs/\tPa ns F trs
def aV1 (ns:List Str) (F:TVa):TV:=λρ R=>F ρ λus=>R (.oo (dkO ns us))
theorem aEt:∀{ns as:List Str} {vs xs:List V},as.length=xs.length->ns.length=vs.length->(as++ns).Nodup->qM (zk as xs) (zk ns vs)=zk (as++ns) (xs++vs)
 | [],as,[],xs,_,_,_=>by rw [Bo,Bo];rfl
 |n::ns,as,v::vs,xs,h1,h2,nd=>by
  show qM (putK (zk as xs) (Ct n) v) (zk ns vs)=_;have hn:n∉as:=λz=>(List.nodup_append.mp nd).2.2 n z n Af rfl;rw [aCi h1 hn,aEt (by rw [Ah,Ah,h1];rfl) (Hc h2) (by rw [Bj];exact nd),Bj,Bj];rfl
def aWg (i:Nat) (k:Str) (F:TV):TVS:=λE ρ=>F ρ λs=>s.es λu=>∃ns us,ρ[i]? =some (.oo (dkO ns us))/\ns.length<=50/\((k∉ns/\E.nx (ρ.set i (.oo (dkO (ns++[k]) (us++[u])))))∨∃ms ws u0,ns=ms++[k]/\us=ws++[u0]/\ws.length=ms.length/\k∉ms/\E.nx (ρ.set i (.oo (dkO ns (ws++[u])))))
def aTj (i:Nat) (k:Str) (F:TV):TVS:=λE ρ=>F ρ λs=>∃l ns us,s= .ow l/\ρ[i]? =some (.oo (dkO ns us))/\ns.length<=50/\k∉ns/\E.nx (ρ.set i (.oo (dlO ns us k l)))
def aWi (i:Nat) (k:Str) (F:TV):TVS:=λE ρ=>∃ns us l,ρ[i]? =some (.oo (dlO ns us k l))/\k∉ns/\l.length<10000/\F ρ λs=>s.es λu=>E.nx (ρ.set i (.oo (dlO ns us k (l++[u]))))
def aVh (a:TV) (k:Str):TV:=λρ R=>a ρ λs=>(∃ns us,s= .bo (dkO ns us)/\wI k ns us R)∨∃ns us k' l,s= .bo (dlO ns us k' l)/\wI k ns us R
def vDk (i:Nat) (G:TVS):TVS:=λE ρ=>∃ns us k l,ρ[i]? =some (.oo (dlO ns us k l))/\us.length=ns.length/\G E (ρ.set i (.oo (dkO (ns++[k]) (us++[.ls l]))))
def aYp (i:Nat) (G:TVS):TVS:=λE ρ=>∃ns us,ρ[i]? =some (.oo (dkO ns us))/\G E (ρ.set i (.sh (.dk ns us)))
theorem aP5 {W B:Addr->Prop} {H:Hp} {l:List U} {u:U} {xs:List V} (h:DUs W B H (l++[u]) xs):∃ys v,xs=ys++[v]/\DUs W B H l ys/\DU W B H u v:=by
 have a:=h.take l.length;have b:=h.drop l.length;rw [Qz]at a;rw [Re]at b;obtain⟨v,r,e,d,z⟩:=b;rw [show r=[]from z]at e;exact⟨_,v,by rw [<-e,Gs],a,d⟩
theorem aOe {k k':Str} {v':V} {ns:List Str} {xs:List V} {v:V} (h:lZ (zk ns xs) (Ct k)=some v) (l:ns.length=xs.length):lZ (zk (ns++[k']) (xs++[v'])) (Ct k)=some v:=by
 induction ns generalizing xs with
 |nil=>cases h
 |cons n ns ih=>
  cases xs with
  |nil=>cases l
  |cons x xs=>
   show lZ ((Ct n,x)::zk (ns++[k']) (xs++[v'])) _=_;have h:lZ ((Ct n,x)::zk ns xs) (Ct k)=some v:=h;by_cases e:n=k
   ·subst e;rw [oF rfl]at h⊢;exact h
   ·rw [nJ (λz=>e (Ng z))]at h⊢;exact ih h (Hc l)
theorem aIw:∀(ns:List Str) (vs:List V),(ns.map V.str).zip vs=((ns.map Ct:List Key).zip vs).map λkv=>(kV kv.1,kv.2)
 | [],_=>rfl
 |_::_,[]=>rfl
 |_::ns,_::vs=>congrArg _ (aIw ns vs)
section
variable {X:Cx}
theorem aT6 {pos:Pos}:VPs X pos [] [] [] aLr:=⟨_,aQ8,λe h q=>q [] [] _ h rfl e.eb.refl rfl⟩
theorem uD {pos:Pos} {k:Str} {j p} {v:Expr} {ks:List (Option Expr)} {vs:List Expr} {ns:List Str} {F:TV} {G:TVa} (hv:VE X v F) (hr:VPs X pos ks vs ns G):VPs X pos (some (.Constant (.str k) j p)::ks) (v::vs) (k::ns) (aHn F G):=by
 obtain⟨_,p1,f1⟩:=hv;obtain⟨_,p2,f2⟩:=hr;refine⟨_,aLf bU p1 p2,λe h q=>f1 e h λs v H1 h1 w1 r1=>?_⟩;obtain⟨u,h1,d⟩:=r1.du e.eb h1;exact f2 (e.to w1) h1 λus vs H2 h2 l2 w2 d2=>q (u::us) (v::vs) H2 h2 (by rw [Ag,l2];rfl) (w1.trans w2) ⟨v,vs,rfl,DU.mono ((e.to w1).eb.keep w2) u d,d2⟩
theorem aQw {pos:Pos} {keys:List (Option Expr)} {values:List Expr} {ns:List Str} {F:TVa} (h:VPs X pos keys values ns F) (nd:ns.Nodup) (nl:ns.length<=15) (hall:keys.all (·.isSome)=true:=by rfl) (hl:keys.length=values.length:=by rfl) (h0:keys≠[]:=by exactλz=>nomatch z) (h15:keys.length<=15:=by decide):VE X (.Dict keys values pos) (aV1 ns F):=by
 obtain⟨_,p,f⟩:=h;refine⟨_,aQm p hall hl h0 h15,λ{W B ρ σ H R Q} e h q p n=>?_⟩;have e1:=e.plus (x:= .dK []) n;have w0:=e.eb.new (o:= .dK []) n;have nW:¬W p:=λz=>e.eb.nw n (e.eb.wb p z);refine f e1 h λus vs H2 h2 l2 w2 d2=>⟨w2.fr p _ nW aK,zk ns vs,?_,?_,?_⟩
 ·unfold zk;exact aIw ns vs
 ·unfold zk;rw [Ld,Ab];omega
 ·have lv:=d2.length;rw [show qM [] (zk ns vs)=zk ns vs from aEt (as:=[]) (xs:=[]) rfl (by omega) nd];have w3:Fw W H (upd H2 p (.dK (zk ns vs))):=(w0.trans w2).upd n nW;refine q (.oo (dkO ns us)) _ _ h2 w3 ⟨p,(·=p),rfl,λb hb=>by rw [hb];exact n,λ_=>Np,vs,aK,by omega,DUs.mono (λb y nb h=>⟨nb,(aP (λz=>nb (.inr z))).trans h⟩) us d2⟩
theorem uL {x:Str} {k:Str} {j pk} {value:Expr} {pos pos' p':Pos} {F:TV} {m:Nat} (i:Nat) (hr:dN m X.A) (hv:VE X value F) (hN:X.N[i]? =some x:=by rfl) (hvs:Vis X.env.scope x:=by first|exact Bw rfl|exact Cb (Bw rfl)|exact Cb (Cb rfl)) (hd:(x==("__debug__":Str))=false:=by decide)
  (hcd:(x==("__classdict__":Str))=false:=by decide) (hs:swapsWith value (some (.Subscript (.Name x p') (.Constant (.str k) j pk) pos')) pos.line X.env=pure false:=by rfl):VS X (.Assign [.Subscript (.Name x p') (.Constant (.str k) j pk) pos'] value pos) (aWg i k F):=by
 obtain⟨_,p2,f2⟩:=hv;refine⟨_,aH5 (by have:=hr.un;omega) (mZ hN hvs hd hcd) bU p2 hs,λ{W B H0 A ρ σ H E D} o h jj=>f2 o.ee h λsv v H1 h1 w1 r1=>?_⟩;obtain⟨u,⟨ns,us,hi,hl,h2⟩,dv⟩:=r1.du o.ee.eb h1;have o1:=o.to w1;obtain⟨p,g1,gs,xs,g2,g3,g4⟩:=o1.hd i _ _ hi rfl;have kk:∀{x:HO} b y,¬Bx B A b->H1 b=some y->¬Bx B A b/\upd H1 p x b=some y:=λb y n h=>⟨n,(aP (λz:b=p=>n (by rw [z];exact .inr ⟨i,(gs p).mpr rfl⟩))).trans h⟩;refine⟨_,g1,p,_,rfl,aJp.k (k:=Ct k) g2 ?_,?_⟩
 ·have:(zk ns xs).length<=ns.length:=by unfold zk;rw [Ld,Ab];omega
  exact Jx (Co this hl) (by decide)
 ·rcases h2 with ⟨hk,h2⟩|⟨ms,ws,u0,rfl,rfl,hw,hk,h2⟩
  ·rw [aCi g3 hk];exact jj.nx (o1.chg g1 ((gs p).mpr rfl) (s':= .oo (dkO (ns++[k]) (us++[u]))) rfl rfl ⟨gs,_,aK,by rw [Ah,Ah,g3];rfl,DUs.mono kk _ (g4.app (DUs.one dv))⟩) h2
  ·obtain⟨ys,v0,rfl,a1,a2⟩:=aP5 g4;have ly:=a1.length;rw [aOh (by omega) hk];exact jj.nx (o1.chg g1 ((gs p).mpr rfl) (s':= .oo (dkO (ms++[k]) (ws++[u]))) rfl rfl ⟨gs,_,aK,by rw [Ah,Ah];show _+1=_+1;omega,DUs.mono kk _ (a1.app (DUs.one dv))⟩) h2
theorem aO1 {x:Str} {k:Str} {j pk} {value:Expr} {pos pos' p':Pos} {F:TV} {m:Nat} (i:Nat) (hr:dN m X.A) (hv:VE X value F) (hN:X.N[i]? =some x:=by rfl) (hvs:Vis X.env.scope x:=by first|exact Bw rfl|exact Cb (Bw rfl)|exact Cb (Cb rfl)) (hd:(x==("__debug__":Str))=false:=by decide)
  (hcd:(x==("__classdict__":Str))=false:=by decide) (hs:swapsWith value (some (.Subscript (.Name x p') (.Constant (.str k) j pk) pos')) pos.line X.env=pure false:=by rfl):VS X (.Assign [.Subscript (.Name x p') (.Constant (.str k) j pk) pos'] value pos) (aTj i k F):=by
 obtain⟨_,p2,f2⟩:=hv;refine⟨_,aH5 (by have:=hr.un;omega) (mZ hN hvs hd hcd) bU p2 hs,λ{W B H0 A ρ σ H E D} o h jj=>f2 o.ee h λsv v H1 h1 w1 r1=>?_⟩;obtain⟨l,ns,us,rfl,hi,hl,hk,h2⟩:=h1;obtain⟨q,ys,rfl,nq,hq,dl⟩:=r1;have o1:=o.to w1;obtain⟨p0,g0,gs0,xs,g20,g3,g4⟩:=o.hd i _ _ hi rfl;have nWp:¬W p0:=o.nw ((gs0 p0).mpr rfl);have g2:=w1.fr p0 _ nWp g20;have pq:p0≠q:=λz=>by rw [<-z,g20]at nq;cases nq
 refine⟨_,g0,p0,_,rfl,aJp.k (k:=Ct k) g2 ?_,?_⟩
 ·have:(zk ns xs).length<=ns.length:=by unfold zk;rw [Ld,Ab];omega
  exact Jx (Co this hl) (by decide)
 ·rw [aCi g3 hk];refine jj.nx (o.rep (i:=i) (s:= .oo (dlO ns us k l)) (S:=λb=>b=p0∨b=q) (p:=p0) rfl rfl (λb y w n h=>?_) (λr hr=>?_) (λb hb=>?_) ⟨q,xs,ys,λ_=>Np,pq,aK,g3,DUs.mono (λb y n h=>⟨λz=>?_,?_⟩) us g4,(aP (Di pq)).trans hq,DUs.mono (λb y n h=>⟨λz=>?_,?_⟩) l dl⟩ g0) h2
  ·exact(aP (λz=>n (.inl z))).trans (w1.fr b y w h)
  ·obtain⟨x,y,z,h⟩:=o1.fw.wo r hr;exact⟨x,y,z,(aP (λe:r=p0=>nWp (by rw [<-e];exact hr))).trans h⟩
  ·rcases hb with rfl|rfl
   ·exact .inl ((gs0 _).mpr rfl)
   ·exact .inr nq
  ·rcases z with z|⟨j,_,z⟩|rfl|rfl
   ·exact n (.inl z)
   ·exact n (.inr ⟨j,z⟩)
   ·exact n (.inr ⟨i,(gs0 _).mpr rfl⟩)
   ·rw [nq]at h;cases h
  ·exact(aP (λz:b=p0=>n (by rw [z];exact .inr ⟨i,(gs0 _).mpr rfl⟩))).trans (w1.fr b y (λz=>n (.inl (o.eb.wb b z))) h)
  ·rcases z with z|⟨j,_,z⟩|rfl|rfl
   ·exact n (.inl (.inl z))
   ·exact n (.inl (.inr ⟨j,z⟩))
   ·exact n (.inl (.inr ⟨i,(gs0 _).mpr rfl⟩))
   ·exact n (.inr rfl)
  ·exact(aP (λz:b=p0=>n (by rw [z];exact .inl (.inr ⟨i,(gs0 _).mpr rfl⟩)))).trans h
theorem aPt {x:Str} {k:Str} {j pk} {a:Expr} {p' sp apos cpos pos:Pos} {F:TV} {m:Nat} (i:Nat) (hr:dN m X.A) (ha:VE X a F) (hN:X.N[i]? =some x:=by rfl) (hv:Vis X.env.scope x:=by first|exact Bw rfl|exact Cb (Bw rfl)|exact Cb (Cb rfl)) (hd:(x==("__debug__":Str))=false:=by decide)
  (hcd:(x==("__classdict__":Str))=false:=by decide)
  (hbase:attributeBase (.Subscript (.Name x p') (.Constant (.str k) j pk) sp) "append" X.env (eval (.Subscript (.Name x p') (.Constant (.str k) j pk) sp) X.env)=eval (.Subscript (.Name x p') (.Constant (.str k) j pk) sp) X.env:=by rfl)
  (hfew:((backTo cpos (starEach [a] X.env)).all (λx=> !x.1) && (backToKw cpos (keywordEach [] X.env)).all (λx=>x.1.isSome)
   && decide ([a].length+([]:List Keyword).length+(if([]:List Keyword).isEmpty then 0 else 1)<30))=true:=by rfl)
  (hline:(apos.endLine==cpos.line)=true:=by rfl) (hs:starEach [a] X.env=(false,eval a X.env)::starEach [] X.env:=by rfl) (hplain:(backTo cpos (starEach [] X.env)).any (·.1)=false:=by rfl)
  (hsw:swapsWith (.Call (.Attribute (.Subscript (.Name x p') (.Constant (.str k) j pk) sp) "append" apos) [a] [] cpos) none pos.line X.env=pure false:=by rfl):
  VS X (.Expr (.Call (.Attribute (.Subscript (.Name x p') (.Constant (.str k) j pk) sp) "append" apos) [a] [] cpos) pos) (aWi i k F):=by
 obtain⟨_,p,f⟩:=ha;refine⟨_,cX (aAh Ep Hl Hk oG (aC0 (by have:=hr.un;omega) (mZ hN hv hd hcd) bU (λ_ _=>rfl)) (aM p aZ hs) hbase hfew hline hs hplain) hsw,λ{W B H0 A ρ σ H E D} o h jj=>?_⟩;obtain⟨ns,us,l,hi,hk,hl,h⟩:=h;obtain⟨p,g1,q,xs,ys,gs,pq,g2,g3,g4,g5,g6⟩:=o.hd i _ _ hi rfl;have dg:zV H p (.str k) (some (.ref q)):=by
  have:=zV.k (k:=Ct k) g2;rw [zL g3 hk]at this;exact this
 refine⟨_,g1,p,_,rfl,dg,.inl ⟨rfl,_,SqL.of g5⟩,f o.ee h λs v H1 h5 w r=>?_⟩;obtain⟨u,h6,d⟩:=r.du o.ee.eb h5;have o1:=o.to w;obtain⟨p',k1,q',xs,ys,gs,pq,k2,k3,k4,k5,k6⟩:=o1.hd i _ _ hi rfl;rw [g1]at k1;cases k1;have eq:q'=q:=by
  have a1:=zV.k (k:=Ct k) k2;have a2:=w.fr p _ (o.nw ((gs p).mpr (.inl rfl))) g2;rw [k2]at a2;have a3:=zL (v:=V.ref q') k3 hk;have a4:=congrArg (λo=>match o with|some (HO.dK m)=>lZ m (Ct k)|_=>none) a2;have a4:lZ (zk (ns++[k]) (xs++[.ref q'])) (Ct k)=lZ (zk (ns++[k]) _) (Ct k):=a4;rw [a3,zL g3 hk]at a4;cases a4;rfl
 subst eq;have Aq:A i q':=(gs q').mpr (.inr rfl);have kk:∀{x:HO} b y,¬Bx B A b->H1 b=some y->¬Bx B A b/\upd H1 q' x b=some y:=λb y n h=>⟨n,(aP (λz:b=q'=>n (by rw [z];exact .inr ⟨i,Aq⟩))).trans h⟩;refine⟨q',ys,v,rfl,rfl,k5,?_,jj.nx (o1.chg g1 Aq (s':= .oo (dlO ns us k (l++[u]))) rfl rfl ⟨q',xs,_,gs,pq,(aP pq).trans k2,k3,DUs.mono kk us k4,aK,DUs.mono kk _ (k6.app (DUs.one d))⟩) h6⟩;have:=k6.length;have:(10000:Nat)<=sizeLine:=by decide
 omega
theorem aCl {a:Expr} {k:Str} {j pos p} {F:TV} {m:Nat} (hr:dN m X.A) (ha:VE X a F) (hs:aP2 (.Constant (.str k) j p):=by exactλ_ _=>rfl):VE X (.Subscript a (.Constant (.str k) j p) pos) (aVh F k):=by
 obtain⟨_,p,f⟩:=ha;refine⟨_,aC0 (by have:=hr.un;omega) p bU hs,λ{W B ρ σ H R Q} e h q=>f e h λs v H1 h1 f1 r=>?_⟩;rcases h1 with ⟨ns,us,rfl,h1⟩|⟨ns,us,k',l,rfl,h1⟩
 ·obtain⟨p,S,rfl,_,s,xs,hp,_,ds⟩:=r;obtain⟨u,v,h2,h3,h4⟩:=yI ds h1;exact⟨p,v,rfl,by rw [<-h4];exact zV.k (k:=Ct k) hp,q _ _ _ h2 f1 h3⟩
 ·obtain⟨p,S,rfl,_,q',xs,ys,s,_,hp,hl,ds,_⟩:=r;obtain⟨u,v,h2,h3,h4⟩:=yI ds h1;have h4:lZ (zk ns xs) (Ct k)=some v:=h4;exact⟨p,v,rfl,by rw [<-aOe (k':=k') (v':= .ref q') h4 hl];exact zV.k (k:=Ct k) hp,q _ _ _ h2 f1 h3⟩
theorem aTf {st:List Stmt} {G:TVS} (i:Nat) (h:VSs X st G):VSs X st (vDk i G):=by
 obtain⟨_,p,f⟩:=h;refine⟨_,p,λ{W B H0 A ρ σ H E D} o h j=>?_⟩;obtain⟨ns,us,k,l,hi,hu,h⟩:=h;obtain⟨p,g1,q,xs,ys,gs,pq,g2,g3,g4,g5,g6⟩:=o.hd i _ _ hi rfl;have kk:∀b y,¬Bx B A b->H b=some y->¬(B b∨(∃j,j≠i/\A j b)∨b=p)/\H b=some y:=λb y n h=>⟨λz=>n (z.elim .inl λz=>z.elim (λ⟨j,_,z⟩=> .inr ⟨j,z⟩) λz=> .inr ⟨i,(gs b).mpr (.inl z)⟩),h⟩;refine f (o.rep (i:=i) (s:= .oo (dkO (ns++[k]) (us++[.ls l]))) (S:=(·=p)) (p:=p) rfl rfl (λb y _ _ h=>h) o.fw.wo (λb hb=> .inl ((gs b).mpr (.inl hb))) ⟨λ_=>Np,_,g2,by rw [Ah,Ah,g3];rfl,(DUs.mono kk us g4).app (DUs.one (u:= .ls l) ⟨q,ys,rfl,λz=>?_,g5,DUs.mono kk l g6⟩)⟩ g1) h j;rcases z with z|⟨j,ne,z⟩|z
 ·exact o.now (o.an i q ((gs q).mpr (.inr rfl))) z
 ·exact ne (o.inj j i q z ((gs q).mpr (.inr rfl)))
 ·exact pq z.symm
theorem aPb {st:List Stmt} {G:TVS} (i:Nat) (h:VSs X st G):VSs X st (aYp i G):=by
 obtain⟨_,p,f⟩:=h;refine⟨_,p,λ{W B H0 A ρ σ H E D} o h j=>?_⟩;obtain⟨ns,us,hi,h⟩:=h;exact f (o.frz (u:= .dk ns us) hi rfl λn ⟨s,xs,h1,h2,h3⟩=>⟨_,xs,rfl,n _ ((s _).mpr rfl),h1,h2,h3⟩) h j
theorem aOt {st:List Stmt} {F G:TVS} (h:VSs X st F) (hw:∀E ρ,G E ρ->F E ρ):VSs X st G:=by
 obtain⟨t,p,f⟩:=h;exact⟨t,p,λo g j=>f o (hw _ _ g) j⟩
end
end L2
namespace Q
open PySem PyProof.Rows L2
def top (i:Nat):Stmt:=PySem.Challenge.pw_slanttiles_k31_what_a_spot_leans_on.main.body.getD i (.Pass ⟨0,0,0,0⟩)
abbrev oR:Stmt:=top 2
abbrev tK:Stmt:=top 10
abbrev qU:Stmt:=top 11
abbrev lH:Stmt:=inClass (top 21) 0
abbrev fU:Stmt:=inClass (top 21) 1
abbrev lG:Stmt:=inClass (top 21) 4
abbrev iZ:Stmt:=inClass (top 21) 5
abbrev iM:Stmt:=inClass (top 21) 6
abbrev dZ:Stmt:=inClass (top 22) 1
abbrev fX:Stmt:=inClass (top 23) 1
abbrev lE:Stmt:=inClass (top 23) 4
abbrev iR:Stmt:=inClass (top 24) 1
abbrev lD:Stmt:=inClass (top 30) 1
abbrev fZ:Stmt:=inClass (top 30) 2
abbrev iY:Stmt:=inClass (top 31) 1
abbrev mO:Stmt:=top 32
abbrev oY:Stmt:=top 33
abbrev jL:Stmt:=top 34
abbrev oX:Stmt:=top 35
abbrev jB:Stmt:=inClass (top 40) 0
abbrev pH:Stmt:=inClass (top 40) 1
abbrev gR:Stmt:=inClass (top 40) 2
abbrev iT:Stmt:=inClass (top 40) 4
abbrev qT:Stmt:=inClass (top 40) 5
abbrev oN:Stmt:=top 41
abbrev uN:Stmt:=top 42
abbrev zK:Stmt:=top 45
abbrev kE:Stmt:=top 46
abbrev tR:Stmt:=top 47
abbrev kI:Stmt:=inClass (top 52) 0
abbrev pM:Stmt:=inClass (top 52) 1
abbrev gZ:Stmt:=inClass (top 52) 2
abbrev iJ:Stmt:=inClass (top 52) 3
abbrev mQ:Stmt:=inClass (top 52) 6
abbrev mX:Stmt:=top 53
abbrev vZ:Stmt:=top 54
abbrev qL:Stmt:=top 55
abbrev qQ:Stmt:=top 65
abbrev rH:Stmt:=top 67
abbrev oZ:Stmt:=top 68
abbrev pI:Stmt:=top 69
abbrev rB:Stmt:=top 70
abbrev qK:Stmt:=top 71
abbrev iK:Stmt:=top 72
abbrev mF:Stmt:=top 73
abbrev mK:Stmt:=top 74
abbrev bW:Stmt:=top 75
abbrev tX:Stmt:=top 76
abbrev pD:Stmt:=top 77
abbrev oO:Stmt:=top 78
abbrev aCb:Stmt:=top 79
structure Txt (mg:Str->Option Value):Prop where
 isinstance:mg "isinstance"=none
 int:mg "int"=none
 bool:mg "bool"=none
 str:mg "str"=none
 tuple:mg "tuple"=none
 list:mg "list"=none
 len:mg "len"=none
 range:mg "range"=none
 enumerate:mg "enumerate"=none
 max:mg "max"=none
 min:mg "min"=none
 sorted:mg "sorted"=none
 sum:mg "sum"=none
 set:mg "set"=none
 all:mg "all"=none
 any:mg "any"=none
 zip:mg "zip"=none
 abs:mg "abs"=none
 dict:mg "dict"=none
 c_GREATEST_NUMBER:∃t,mg "GREATEST_NUMBER"=some (.int 1000000000000 t)
 c_GREATEST_DIVISOR:∃t,mg "GREATEST_DIVISOR"=some (.int 1000000000 t)
 c_GREATEST_BACK:∃t,mg "GREATEST_BACK"=some (.int 3 t)
 c_GREATEST_STEP:∃t,mg "GREATEST_STEP"=some (.int 9 t)
 c_MOST_STEPS_terms:∃t,mg "MOST_STEPS_terms"=some (.int 3 t)
 c_MOST_DEPTH:∃t,mg "MOST_DEPTH"=some (.int 12 t)
 c_MOST_PARTS:∃t,mg "MOST_PARTS"=some (.int 60 t)
 c_MOST_TAKES:∃t,mg "MOST_TAKES"=some (.int 6 t)
 c_GREATEST_MODULUS:∃t,mg "GREATEST_MODULUS"=some (.int 1000000000 t)
 c_MOST_ROUNDS:∃t,mg "MOST_ROUNDS"=some (.int 12 t)
 c_MOST_SPOTS:∃t,mg "MOST_SPOTS"=some (.int 120 t)
 c_GREATEST_FIXED:∃t,mg "GREATEST_FIXED"=some (.int 1000000000 t)
 c_MOST_LINES:∃t,mg "MOST_LINES"=some (.int 3 t)
 c_GREATEST_SIZE:∃t,mg "GREATEST_SIZE"=some (.int 9 t)
 c_MOST_PLACES:∃t,mg "MOST_PLACES"=some (.int 40 t)
 c_MOST_FIGURES:∃t,mg "MOST_FIGURES"=some (.int 13 t)
 c_MOST_STEPS_term_texts:∃t,mg "MOST_STEPS_term_texts"=some (.int 3 t)
 c_MOST_WITHIN:∃t,mg "MOST_WITHIN"=some (.int 12 t)
end Q
namespace Q
open PySem PyProof.Rows L2
section
variable {P:Program} {w:World} {K:Ac} {mg:Str->Option Value} {base:Heap} {f:Addr} {fd:FuncData}
abbrev Fv:=List U->(Sl->Prop)->Prop
def mir (s n:Int):Int:=if n % (2*s)<s then n % (2*s)else 2*s-1-n % (2*s)
def aXf:Fv:=λus R=>∃s n:Int,us=[.n s,.n n]/\0<s/\s<=1000/\R (.sh (.n (mir s n)))
theorem wV:aL ["size","number","along"] ["size","number"] (aC tR):=⟨rfl,rfl,rfl,by decide+kernel,rfl,by decide+kernel,by decide+kernel⟩
theorem aTt (F:Fun K "mirrored" "mirrored" tR f fd):bB P w K mg base CX0 1 f fd ["size","number"] (spV aXf):=by
 refine vfn F wV (λcdv A outer s H E hr=>(aD (bF (i:=2) wV.nd (aU mW jK (aA 1) (aU kJ jK aF (aA 0)))) (aD (cU (cI uK cC (aA 2) (aA 0)) (aG (iV 2)) bK) (aG (aY (aU iD cC (aU iD cC (aU kJ jK aF (aA 0)) aF) (aA 2))))))) ?_;rintro _ R ⟨s,n,rfl,h1,h2,q⟩;unfold mir at q;refine⟨rfl,?_⟩;refine⟨.inl (by constructor<;>decide),by show 0<2*s;omega,?_⟩;refine⟨λh=>?_,λh=>?_⟩
 ·rw [if_pos (of_decide_eq_true h)]at q;exact q
 ·rw [if_neg (of_decide_eq_false h)]at q;exact⟨.inl (by constructor<;>decide),q⟩
def aYc:U->Bool
 | .v (.int _)=>true
 |_=>false
def aMv:Fv:=λus R=>∃u t,us=[u]/\tyU u=some t/\R (.sh (.b (aYc u)))
theorem aEx:aL ["thing"] ["thing"] (aC tK):=⟨rfl,rfl,rfl,by decide+kernel,rfl,by decide+kernel,by decide+kernel⟩
theorem aLg (F:Fun K "is_whole" "is_whole" tK f fd) (T:Txt mg):bB P w K mg base CX0 1 f fd ["thing"] (spV aMv):=by
 refine vfn F aEx (λcdv A outer s H E hr=>(aG (aY (aC9 (qI .int nofun T.isinstance T.int Rk (aA 0)) (aDy (aS4 (qI .bl nofun T.isinstance T.bool boot_bool (aA 0)))))))) ?_;rintro _ R ⟨u,t,rfl,ht,q⟩;unfold tyU at ht;split at ht<;>cases ht<;>first|exact⟨rfl,_,rfl,λ_=>⟨_,rfl,q⟩,nofun⟩|exact⟨rfl,_,rfl,nofun,λ_=>q⟩
def isIn (u:U) (a b:Int):Bool:=match u with
 | .v (.int i)=>decide (a<=i) && decide (i<=b)
 |_=>false
def jP:Fv:=λus R=>∃u t a b,us=[u,.n a,.n b]/\tyU u=some t/\R (.sh (.b (isIn u a b)))
theorem aDr:aL ["thing","least","most"] ["thing","least","most"] (aC qU):=⟨rfl,rfl,rfl,by decide+kernel,rfl,by decide+kernel,by decide+kernel⟩
theorem aKk (F:Fun K "is_within" "is_within" qU f fd) (c_is_whole:Cal P w K mg base CX0 1 "is_whole" ["thing"] (spV aMv)):bB P w K mg base CX0 2 f fd ["thing","least","most"] (spV jP):=by
 refine vfn F aDr (λcdv A outer s H E hr=>(aG (aY (aC9 (aO c_is_whole (hr.mono (by decide)) rfl (aB (aA 0) aH)) (aDy (aD9 uV uV cC cC (aA 1) (aA 0) (aA 2))))))) ?_;rintro _ R ⟨u,t,a,b,rfl,ht,q⟩;refine⟨rfl,u,t,rfl,ht,?_⟩;match u,q with
 | .v (.int i),q=>exact⟨λ_=>⟨λh=>by simp only [isIn,h,Mx]at q;exact q,λh=>by simp only [isIn,h,Hr]at q;exact q⟩,nofun⟩
 | .v .non,q=>exact⟨nofun,λ_=>q⟩
 | .v (.bl _),q=>exact⟨nofun,λ_=>q⟩
 | .v (.str _),q=>exact⟨nofun,λ_=>q⟩
 | .tp _,q=>exact⟨nofun,λ_=>q⟩
 | .ls _,q=>exact⟨nofun,λ_=>q⟩
 | .dk _ _,q=>exact⟨nofun,λ_=>q⟩
inductive Rim where
 |fixed (v:Int)
 |mirror
 |round
def Rim.u:Rim->U
 | .fixed v=> .tp [.s "fixed",.n v]
 | .mirror=> .tp [.s "mirror"]
 | .round=> .tp [.s "round"]
def Rim.ok:Rim->Prop
 | .fixed v=>0<=v/\v<=1000000000
 |_=>True
def aMt:Fv:=λus R=>∃r:Rim,us=[r.u]/\r.ok/\R (.sh (.b true))
abbrev PW3:List Str:=["thing","least","most"]
theorem aKi:aL ["thing"] ["thing"] (aC zK):=⟨rfl,rfl,rfl,by decide+kernel,rfl,by decide+kernel,by decide+kernel⟩
theorem aLh (F:Fun K "is_rim" "is_rim" zK f fd) (c_is_within:Cal P w K mg base CX0 2 "is_within" PW3 (spV jP)) (T:Txt mg):bB P w K mg base CX0 3 f fd ["thing"] (spV aMt):=by
 obtain⟨_,g_GREATEST_FIXED⟩:=T.c_GREATEST_FIXED;refine vfn F aKi (λcdv A outer s H E hr=>(aD (cU (uF (wQ (gJ (gW (qI .tp nofun T.isinstance T.tuple Lm (aA 0)))) (qY (cI (lJ (huD hr)) kO (bI aV dM T.len Ee (aN (aA 0) aX)) aF)))) (aG (aY vI)) bK) (aD (cU (gJ (gW (qI .str nofun T.isinstance T.str Mu (bT bC bR (aA 0) aF)))) (aG (aY vI)) bK) (aD (cU (cI (lJ (huD hr)) kO (bT bC bR (aA 0) aF) bN) (aG (aY (aC9 (aCg (lJ (huD hr)) kO (bI aV dM T.len Ee (aN (aA 0) aX)) aF) (aDy (aO c_is_within (hr.mono (by decide)) rfl (aB (bT bC bR (aA 0) aF) (aB aF (aB (dG g_GREATEST_FIXED) aH)))))))) bK) (aG (aY (aC9 (aCg (lJ (huD hr)) kO (bI aV dM T.len Ee (aN (aA 0) aX)) aF) (aDy (aCg (aVf (huD hr)) aOn (bT bC bR (aA 0) aF) (cW (aB bN (aB bN aH)))))))))))) ?_;rintro _ R ⟨r,rfl,ok,q⟩;match r,ok with
 | .fixed v,ok=>
  refine⟨rfl,_,rfl,nofun,λ_=>⟨trivial,trivial,nofun,λ_=>?_⟩⟩;refine⟨_,rfl,_,rfl,nofun,λ_=>?_⟩;refine⟨_,rfl,trivial,trivial,λ_=>?_,λh=>absurd h (by decide+kernel)⟩;refine⟨trivial,trivial,λ_=>⟨_,rfl,_,_,_,_,rfl,rfl,?_⟩,nofun⟩;simp only [isIn,ok.1,ok.2,decide_true,Mx];exact q
 | .mirror,_=>
  refine⟨rfl,_,rfl,nofun,λ_=>⟨trivial,trivial,nofun,λ_=>?_⟩⟩;refine⟨_,rfl,_,rfl,nofun,λ_=>?_⟩;refine⟨_,rfl,trivial,trivial,λh=>absurd h (by decide+kernel),λ_=>?_⟩;refine⟨trivial,trivial,λ_=>⟨_,rfl,trivial,⟨trivial,trivial,trivial⟩,?_⟩,λh=>absurd h (by decide+kernel)⟩;exact Rbl q (by decide+kernel)
 | .round,_=>
  refine⟨rfl,_,rfl,nofun,λ_=>⟨trivial,trivial,nofun,λ_=>?_⟩⟩;refine⟨_,rfl,_,rfl,nofun,λ_=>?_⟩;refine⟨_,rfl,trivial,trivial,λh=>absurd h (by decide+kernel),λ_=>?_⟩;refine⟨trivial,trivial,λ_=>⟨_,rfl,trivial,⟨trivial,trivial,trivial⟩,?_⟩,λh=>absurd h (by decide+kernel)⟩;exact Rbl q (by decide+kernel)
def rD (ns:List Int):Int:=ns.foldl (λa n=>a*n) 1
structure oJ (ns:List Int):Prop where
 ok:∀n∈ns,1<=n/\n<=9
 l1:1<=ns.length
 l3:ns.length<=3
 mn:rD ns<=40
def aLd:Fv:=λus R=>∃ns:List Int,us=[.ls (ns.map U.n)]/\(∀n∈ns,1<=n/\n<=9)/\ns.length<=3/\R (.sh (.n (rD ns)))
theorem pO:aL ["sizes","many","size"] ["sizes"] (aC vZ):=⟨rfl,rfl,rfl,by decide+kernel,rfl,by decide+kernel,by decide+kernel⟩
theorem aQa (F:Fun K "product" "product" vZ f fd):bB P w K mg base CX0 1 f fd ["sizes"] (spV aLd):=by
 refine vfn F pO (λcdv A outer s H E hr=>(aD (bF (i:=1) pO.nd aF) (aD (eY Bf rfl (cH (aA 0)) (dX (i:=2) pO.nd) (aG (bF (i:=1) pO.nd (aU kJ jK (aA 1) (aA 2))))) (aG (iV 1))))) ?_;rintro _ R ⟨ns,rfl,ok,_,q⟩;refine⟨rfl,?_⟩;refine cD (λl ρ=>∃(ms:List Int) (a:Int) (x y:Sl),l=ms.map U.n/\ρ=[x,.sh (.n a),y]/\(∀n∈ms,1<=n/\n<=9)/\R (.sh (.n (ms.foldl (λa n=>a*n) a)))) ?_ ?_ ⟨ns,1,_,_,rfl,rfl,ok,q⟩
 ·rintro ρ ⟨ms,a,x,y,e,rfl,_,q⟩;obtain rfl:=List.map_eq_nil_iff.mp e.symm;exact q
 ·rintro u r ρ ⟨ms,a,x,y,e,rfl,h,q⟩ ih;obtain⟨n,ms,rfl,rfl,rfl⟩:=List.map_eq_cons_iff.mp e.symm;have hn:=h n Af;exact⟨.inr ⟨by omega,by omega⟩,ih _ ⟨ms,_,_,_,rfl,rfl,λm hm=>h m (Ae _ hm),q⟩⟩
def grU (C:Addr) (ns:List Int) (rs:List Rim):U:= .ob C ["sizes","rims"] [.ls (ns.map U.n),.ls (rs.map Rim.u)]
def aK2:Fv:=λus R=>∃(ns:List Int) (rs:List Rim),us=[.ls (ns.map U.n),.ls (rs.map Rim.u)]/\(∀n∈ns,1<=n/\n<=9)/\1<=ns.length/\ns.length<=3/\rs.length=ns.length/\(∀r∈rs,r.ok)/\R (.sh .no)
theorem lR:aL ["sizes","rims","line","rim"] ["sizes","rims"] (aC mX):=⟨rfl,rfl,rfl,by decide+kernel,rfl,by decide+kernel,by decide+kernel⟩
theorem aM3 (F:Fun K "check_lines" "check_lines" mX f fd) (c_is_within:Cal P w K mg base CX0 2 "is_within" PW3 (spV jP)) (c_is_rim:Cal P w K mg base CX0 3 "is_rim" ["thing"] (spV aMt)) (T:Txt mg):bB P w K mg base CX0 4 f fd ["sizes","rims"] (spV aK2):=by
 obtain⟨_,g_MOST_LINES⟩:=T.c_MOST_LINES;obtain⟨_,g_GREATEST_SIZE⟩:=T.c_GREATEST_SIZE;refine vfn F lR (λcdv A outer s H E hr=>(aD (cU (uF (wQ (gJ (uO uV uV cC cC aF (bI aV dM T.len Ee (aN (aA 0) aX)) (dG g_MOST_LINES))) (qY (cI (aAb (huD hr)) kO (bI aV dM T.len Ee (aN (aA 1) aX)) (bI aV dM T.len Ee (aN (aA 0) aX)))))) (aG lO) bK) (aG (eY Bf rfl (aIm T.enumerate (aB (aA 1) aH)) (aC1 rfl (jV (i:=2) lR.nd (jV (i:=3) lR.nd yF))) (aG (cU (uF (wQ (gJ (gW (aO c_is_within (hr.mono (by decide)) rfl (aB (bT bC bR (aA 0) (aA 2)) (aB aF (aB (dG g_GREATEST_SIZE) aH)))))) (qY (gJ (gW (aO c_is_rim (hr.mono (by decide)) rfl (aB (aA 3) aH))))))) (aG lO) bK)))))) ?_;rintro _ R ⟨ns,rs,rfl,ok,l1,l3,el,rk,q⟩;refine⟨rfl,?_⟩;have e1:(ns.map U.n).length=ns.length:=Ab ..;have e2:(rs.map Rim.u).length=ns.length:=by rw [Ab,el]
 refine⟨λ_=>⟨λh=>?_,λ_=>⟨trivial,trivial,λh=>?_,λ_=>?_⟩⟩,λh=>?_⟩
 ·simp at h;omega
 ·simp only [U.eq,U.d,D.eq,eqV,Sl.rd]at h;simp [el]at h
 ·refine cD (λl ρ=>∃(k:Nat) (ss:List Rim) (x y:Sl),l=(ss.map Rim.u |>.zipIdx k).map (λx=> .tp [.n (x.2:Nat),x.1])/\ρ=[.sh (.ls (ns.map U.n)),.sh (.ls (rs.map Rim.u)),x,y]/\k+ss.length=ns.length/\∀r∈ss,r.ok) ?_ ?_ ⟨0,rs,_,_,rfl,rfl,by omega,rk⟩
  ·rintro ρ ⟨k,ss,x,y,e,rfl,_⟩;exact q
  ·rintro u r ρ ⟨k,ss,x,y,e,rfl,hk,ho⟩ ih;match ss,e,hk,ho with
   |s::ss,e,hk,ho=>
    cases e;have hl:k<ns.length:=by rw [Ag]at hk;omega
    have hn:=ok _ (Cp hl);refine⟨rfl,U.n ns[k],uZ (by rw [Ay,Al hl];rfl),_,_,_,_,rfl,rfl,?_⟩;refine⟨λh=>?_,λ_=>⟨s,rfl,ho s Af,nofun,λ_=>ih _ ⟨k+1,ss,_,_,rfl,rfl,by rw [Ag]at hk;omega,λr hr=>ho r (Ae _ hr)⟩⟩⟩;simp [isIn,hn.1,hn.2]at h
 ·simp at h;omega
def aMo (C:Addr):Fv:=λus R=>∃ns rs,us=[grU C ns rs]/\R (.sh (.n ns.length))
theorem aAz:aL ["self"] ["self"] (aC pM):=⟨rfl,rfl,rfl,by decide+kernel,rfl,by decide+kernel,by decide+kernel⟩
theorem aMj {C:Addr} (F:Fun K "lines" "Grid.lines" pM f fd) (cG:Cfl K C ["sizes","rims"]) (T:Txt mg):bB P w K mg base CX0 1 f fd ["self"] (spV (aMo C)):=by
 refine vfn F aAz (λcdv A outer s H E hr=>(aG (aY (bI aV dM T.len Ee (aN (dC cG (aA 0)) aX))))) ?_;rintro _ R ⟨ns,rs,rfl,q⟩;refine⟨rfl,rfl,.inl ⟨rfl,?_⟩⟩;rw [<-Ab (f:=U.n)]at q;exact q
def aSr (C:Addr):Fv:=λus R=>∃ns rs,us=[grU C ns rs]/\oJ ns/\R (.sh (.n (rD ns)))
theorem rZ:aL ["self"] ["self"] (aC gZ):=⟨rfl,rfl,rfl,by decide+kernel,rfl,by decide+kernel,by decide+kernel⟩
theorem aP6 {C:Addr} (F:Fun K "places_many" "Grid.places_many" gZ f fd) (cG:Cfl K C ["sizes","rims"]) (c_product:Cal P w K mg base CX0 1 "product" ["sizes"] (spV aLd)):bB P w K mg base CX0 2 f fd ["self"] (spV (aSr C)):=by
 refine vfn F rZ (λcdv A outer s H E hr=>(aG (aY (aO c_product (hr.mono (by decide)) rfl (aB (dC cG (aA 0)) aH))))) ?_;rintro _ R ⟨ns,rs,rfl,g,q⟩;exact⟨rfl,rfl,.inl ⟨rfl,ns,rfl,g.ok,g.l3,q⟩⟩
end
end Q
namespace KR
open PySem PyProof.Rows L2
def top (i:Nat):Stmt:=PySem.Challenge.pw_slanttiles_k31_what_a_spot_leans_on.main.body.getD i (.Pass ⟨0,0,0,0⟩)
abbrev aNh:Stmt:=top 63
abbrev yV:Stmt:=top 64
abbrev aHi:Stmt:=inClass (top 22) 0
abbrev aFx:Stmt:=inClass (top 23) 0
abbrev aHj:Stmt:=inClass (top 24) 0
abbrev aF5:Stmt:=inClass (top 30) 0
abbrev aG3:Stmt:=inClass (top 31) 0
abbrev aDd:Stmt:=inClass (top 62) 0
abbrev aAs:Stmt:=inClass (top 62) 1
abbrev aDu:Stmt:=inClass (top 62) 2
abbrev aG6:Stmt:=inClass (top 62) 3
abbrev aDx:Stmt:=inClass (top 62) 4
abbrev aGq:Stmt:=inClass (top 62) 5
abbrev aCo:Stmt:=inClass (top 62) 6
abbrev yJ:Stmt:=inClass (top 62) 7
abbrev uI:Stmt:=inClass (top 62) 8
abbrev rR:Stmt:=inClass (top 62) 9
abbrev yC:Stmt:=inClass (top 62) 10
abbrev aAx (n:Nat):V:=V.int (n:Int)
def Kp (a:Addr) (H H':Hp):Prop:=∀b o,H b=some o->b≠a->H' b=some o
theorem Kp.trans {a:Addr} {H H1 H2:Hp} (x:Kp a H H1) (y:Kp a H1 H2):Kp a H H2:=λb o h n=>y b o (x b o h n) n
theorem Kp.same {a:Addr} {H H1 H2:Hp} (x:Kp a H H1) (y:eU H1 H2):Kp a H H2:=λb o h n=>y b o (x b o h n)
theorem Kp.of {a:Addr} {H H':Hp} (x:eU H H'):Kp a H H':=λb o h _=>x b o h
theorem sameNew {H:Hp} {p:Addr} {o:HO} (h:H p=none):eU H (upd H p o):=λb u e=>by
 rw [aP (aQ e h)];exact e
theorem jM {H H1:Hp} {p:Addr} {o:HO} (h:H p=none) (s:eU H H1):eU H (upd H1 p o):=λb u e=>by
 rw [aP (aQ e h)];exact s b u e
theorem aSe {H:Hp} {p:Addr} {o:HO}:Kp p H (upd H p o):=λb u e n=>by
 rw [aP n];exact e
theorem small {n:Nat} (h:n<=10000):n<sizeLine:=by
 have:(10000:Nat)<sizeLine:=by decide
 omega
theorem aV8 {X:Cx} {x:Str} {n:String} {pos:Pos} (hg:Gl X x) (hm:X.mg x=none) (hv:bootBuiltins x=some (.type n)) (hn:x≠"__name__":=by decide) (hd:(x==("__debug__":Str))=false:=by decide):PE X (.Name x pos) (tC (.ty n)):=aH6 (v:= .ty n) hg hm hv rfl hn hd
structure Txt (K:Ac) (mg:Str->Option Value):Prop where
 isinstance:mg "isinstance"=none
 int:mg "int"=none
 tuple:mg "tuple"=none
 len:mg "len"=none
 any:mg "any"=none
 str:mg "str"=none
 mfi:∃t,mg "MOST_FIGURES"=some (.int 13 t)
 mst2:∃t,mg "MOST_STEPS_term_texts"=some (.int 3 t)
 mwi:∃t,mg "MOST_WITHIN"=some (.int 12 t)
end KR
namespace KR
open PySem PyProof.Rows L2
inductive Tm where
 |num (n:Int)
 |take (b:Int) (ss:List Int)
 |rest (t:Tm) (y:Int)
 |cho (a b c:Tm)
 |bin (k:Fin 5) (a b:Tm)
abbrev Tk:Type:=Int×List Int
def opn (k:Fin 5):Str:=match k with|0=>"+"|1=>"-"|2=>"*"|3=>"min"|4=>"max"
structure Cn where
 num:Addr
 take:Addr
 rest:Addr
 cho:Addr
 bin:Fin 5->Addr
def cls (N:Cn):Tm->Addr
 | .num _=>N.num
 | .take _ _=>N.take
 | .rest _ _=>N.rest
 | .cho _ _ _=>N.cho
 | .bin k _ _=>N.bin k
def IsC (N:Cn) (C:Addr):Prop:=C=N.num∨C=N.take∨C=N.rest∨C=N.cho∨∃k,C=N.bin k
theorem isC (N:Cn):∀t:Tm,IsC N (cls N t)
 | .num _=> .inl rfl
 | .take _ _=> .inr (.inl rfl)
 | .rest _ _=> .inr (.inr (.inl rfl))
 | .cho _ _ _=> .inr (.inr (.inr (.inl rfl)))
 | .bin k _ _=> .inr (.inr (.inr (.inr ⟨k,rfl⟩)))
def jU (N:Cn) (H:Hp) (fs:List (Str×V)):Tm->Prop
 | .num n=>fs=[(("value":Str),V.int n)]
 | .take b ss=>∃q,fs=[(("back":Str),V.int b),(("steps":Str),V.ref q)]/\H q=some (.tup (ss.map V.int))
 | .rest t y=>∃p dx gs,fs=[(("one":Str),V.ref p),(("by":Str),V.int y)]/\H p=some (.ins (cls N t) dx gs)/\jU N H gs t
 | .cho a b c=>∃p dp ps q dq qs r dr rs,fs=[(("test":Str),V.ref p),(("one":Str),V.ref q),(("other":Str),V.ref r)]/\(H p=some (.ins (cls N a) dp ps)/\jU N H ps a)/\(H q=some (.ins (cls N b) dq qs)/\jU N H qs b)/\H r=some (.ins (cls N c) dr rs)/\jU N H rs c
 | .bin _ a b=>∃p dp ps q dq qs,fs=[(("one":Str),V.ref p),(("other":Str),V.ref q)]/\(H p=some (.ins (cls N a) dp ps)/\jU N H ps a)/\H q=some (.ins (cls N b) dq qs)/\jU N H qs b
def KpN (H H':Hp):Prop:=∀c o,H c=some o->(∀xs,o≠ .lst xs)->H' c=some o
theorem KpN.of {H H':Hp} (s:eU H H'):KpN H H':=λc o e _=>s c o e
theorem jU.keep {N:Cn} {H H':Hp} (s:KpN H H'):∀{t:Tm} {fs:List (Str×V)},jU N H fs t->jU N H' fs t
 | .num _,_,h=>h
 | .take _ _,_,⟨q,e,h⟩=>⟨q,e,s _ _ h (by intro _ z;cases z)⟩
 | .rest _ _,_,⟨p,dx,gs,e,h,h2⟩=>⟨p,dx,gs,e,s _ _ h (by intro _ z;cases z),h2.keep s⟩
 | .cho _ _ _,_,⟨p,dp,ps,q,dq,qs,r,dr,rs,e,⟨h1,g1⟩,⟨h2,g2⟩,h3,g3⟩=>⟨p,dp,ps,q,dq,qs,r,dr,rs,e,⟨s _ _ h1 (by intro _ z;cases z),g1.keep s⟩,⟨s _ _ h2 (by intro _ z;cases z),g2.keep s⟩,s _ _ h3 (by intro _ z;cases z),g3.keep s⟩
 | .bin _ _ _,_,⟨p,dp,ps,q,dq,qs,e,⟨h1,g1⟩,h2,g2⟩=>⟨p,dp,ps,q,dq,qs,e,⟨s _ _ h1 (by intro _ z;cases z),g1.keep s⟩,s _ _ h2 (by intro _ z;cases z),g2.keep s⟩
theorem jU.same {N:Cn} {H H':Hp} (s:eU H H') {t:Tm} {fs:List (Str×V)} (h:jU N H fs t):jU N H' fs t:=h.keep (KpN.of s)
def lA (N:Cn) (H:Hp) (t:Tm) (v:V):Prop:=∃p dx fs,v= .ref p/\H p=some (.ins (cls N t) dx fs)/\jU N H fs t
def kids:Tm->List Tm
 | .num _=>[]
 | .take _ _=>[]
 | .rest t _=>[t]
 | .cho a b c=>[a,b,c]
 | .bin _ a b=>[a,b]
def ht:Tm->Nat
 | .num _=>1
 | .take _ _=>1
 | .rest t _=>ht t+1
 | .cho a b c=>max (ht a) (max (ht b) (ht c))+1
 | .bin _ a b=>max (ht a) (ht b)+1
def dD:Tm->Nat
 | .num _=>1
 | .take _ _=>1
 | .rest t _=>1+dD t
 | .cho a b c=>1+(dD a+(dD b+dD c))
 | .bin _ a b=>1+(dD a+dD b)
def raw:Tm->List Tk
 | .num _=>[]
 | .take b ss=>[(b,ss)]
 | .rest t _=>raw t
 | .cho a b c=>raw a++(raw b++raw c)
 | .bin _ a b=>raw a++raw b
theorem pC:∀t,0<ht t
 | .num _=>Pe
 | .take _ _=>Pe
 | .rest _ _=>Km _
 | .cho _ _ _=>Km _
 | .bin _ _ _=>Km _
theorem zG:∀{t k:Tm},k∈kids t->ht k<ht t
 | .rest t _,k,h=>by rw [List.mem_singleton.mp h,ht];omega
 | .cho a b c,k,h=>by
  simp only [kids,Bi,Be,or_false]at h;rw [ht];rcases h with rfl|rfl|rfl<;>omega
 | .bin _ a b,k,h=>by
  simp only [kids,Bi,Be,or_false]at h;rw [ht];rcases h with rfl|rfl<;>omega
theorem xV (t:Tm):(kids t).length<=3:=by cases t<;>simp [kids]
theorem aH4:∀{t k:Tm},k∈kids t->∀x∈raw k,x∈raw t
 | .rest t _,k,h,x,hx=>by rw [List.mem_singleton.mp h]at hx;exact hx
 | .cho a b c,k,h,x,hx=>by
  simp only [kids,Bi,Be,or_false]at h;simp only [raw,Gd];rcases h with rfl|rfl|rfl
  ·exact .inl hx
  ·exact .inr (.inl hx)
  ·exact .inr (.inr hx)
 | .bin _ a b,k,h,x,hx=>by
  simp only [kids,Bi,Be,or_false]at h;simp only [raw,Gd];rcases h with rfl|rfl
  ·exact .inl hx
  ·exact .inr hx
def rE (t:Tm) (l:List Tk):Prop:=l.Pairwise (λx y=>lQ x y=true)/\∀x,x∈l↔x∈raw t
theorem aB4 {x y:Tk} (h:lQ x y=true):lQ y x=false:=by
 unfold lQ at h⊢;by_cases e:x.1=y.1
 ·rw [if_pos e]at h;rw [if_pos e.symm];exact aBp _ _ h
 ·rw [if_neg e,decide_eq_true_iff]at h;rw [if_neg (Di e),decide_eq_false_iff_not];omega
theorem yZ:∀{l m:List Tk},l.Pairwise (λx y=>lQ x y=true)->m.Pairwise (λx y=>lQ x y=true)->(∀x,x∈l↔x∈m)->l=m
 | [],[],_,_,_=>rfl
 | [],b::m,_,_,h=>absurd ((h b).mpr Af) (by simp)
 |a::l,[],_,_,h=>absurd ((h a).mp Af) (by simp)
 |a::l,b::m,h1,h2,h=>by
  have ha:=List.pairwise_cons.mp h1;have hb:=List.pairwise_cons.mp h2;have O:∀x y:Tk,lQ x y=true->lQ y x=false:=λx y=>aB4;have irr:∀x:Tk,lQ x x=true->False:=λx hx=>by have:=O x x hx;rw [hx]at this;cases this
  have e:a=b:=by
   rcases List.mem_cons.mp ((h a).mp Af)with z|z
   ·exact z
   ·rcases List.mem_cons.mp ((h b).mpr Af)with y|y
    ·exact y.symm
    ·have:=O _ _ (ha.1 b y);rw [hb.1 a z]at this;cases this
  subst e;rw [yZ ha.2 hb.2 λx=>⟨λhx=>?_,λhx=>?_⟩]
  ·rcases List.mem_cons.mp ((h x).mp (Ae _ hx))with z|z
   ·exact(irr a (by have:=ha.1 x hx;rw [z]at this;exact this)).elim
   ·exact z
  ·rcases List.mem_cons.mp ((h x).mpr (Ae _ hx))with z|z
   ·exact(irr a (by have:=hb.1 x hx;rw [z]at this;exact this)).elim
   ·exact z
theorem rE.uniq {t:Tm} {l m:List Tk} (h1:rE t l) (h2:rE t m):l=m:=yZ h1.1 h2.1 λx=>(h1.2 x).trans (h2.2 x).symm
def wR (x:Tk):Prop:=1<=x.1/\x.1<=3/\∀s∈x.2, -9<=s/\s<=9
def Wf:Tm->Prop
 | .num n=> -1000000000000<=n/\n<=1000000000000
 | .take _ _=>True
 | .rest t y=>1<=y/\y<=1000000000/\Wf t
 | .cho a b c=>Wf a/\Wf b/\Wf c
 | .bin _ a b=>Wf a/\Wf b
end KR
namespace KR
open PySem PyProof.Rows L2
structure Cf (K:Ac) (C:Addr) (fs:List Str):Prop where
 cl:Cls K C
 na:∀f∈fs,jY K C f
inductive aRj (K:Ac) (a:Str) (vs:List V) (H:Hp) (Q:VK) (z3_:XK):Prop
 |mk (p C dx:Addr) (x:V) (q0_:vs=[.ref p,x]) (q1_:H p=some (.ins C dx [])) (q2_:Cf K C [a]) (q3_:Q .non (upd H p (.ins C dx [(a,x)]))):aRj K a vs H Q z3_
def aVm (K:Ac) (a:Str):Sp:=λvs H Q z3_=>aRj K a vs H Q z3_
inductive aSk (K:Ac) (a b:Str) (vs:List V) (H:Hp) (Q:VK) (z3_:XK):Prop
 |mk (p C dx:Addr) (x y:V) (q0_:vs=[.ref p,x,y]) (q1_:H p=some (.ins C dx [])) (q2_:Cf K C [a,b]) (q3_:Q .non (upd (upd H p (.ins C dx [(a,x)])) p (.ins C dx [(a,x),(b,y)]))):aSk K a b vs H Q z3_
def aDq (K:Ac) (a b:Str):Sp:=λvs H Q z3_=>aSk K a b vs H Q z3_
inductive aSp (K:Ac) (a b c:Str) (vs:List V) (H:Hp) (Q:VK) (z3_:XK):Prop
 |mk (p C dx:Addr) (x y z:V) (q0_:vs=[.ref p,x,y,z]) (q1_:H p=some (.ins C dx [])) (q2_:Cf K C [a,b,c]) (q3_:Q .non (upd (upd (upd H p (.ins C dx [(a,x)])) p (.ins C dx [(a,x),(b,y)])) p (.ins C dx [(a,x),(b,y),(c,z)]))):aSp K a b c vs H Q z3_
def aWl (K:Ac) (a b c:Str):Sp:=λvs H Q z3_=>aSp K a b c vs H Q z3_
section
variable {P:Program} {w:World} {K:Ac} {mg:Str->Option Value} {base:Heap}
theorem aP9:aL ["self","value"] ["self","value"] (aC aHi):=⟨rfl,rfl,rfl,by decide+kernel,rfl,by decide+kernel,by decide+kernel⟩
theorem aMi {f:Addr} {fd:FuncData} (F:Fun K "__init__" "Number.__init__" aHi f fd):bB P w K mg base CX0 1 f fd ["self","value"] (aVm K "value"):=by
 refine F.ok aP9 (λvs H Q E h=>?_) (λcdv A outer s H vs Q E hr h=>?_)
 ·obtain⟨p,C,dx,x,rfl,_⟩:=h;rfl
 ·obtain⟨p,C,dx,x,rfl,hp,c,q⟩:=h;refine⟨_,(aR (dF (pv 0) (pv 1) rfl)),?_⟩;exact⟨_,rfl,_,rfl,p,C,dx,_,rfl,hp,c.cl,c.na _ (by simp),by decide,q⟩
theorem aQt:aL ["self","back","steps"] ["self","back","steps"] (aC aFx):=⟨rfl,rfl,rfl,by decide+kernel,rfl,by decide+kernel,by decide+kernel⟩
theorem aNv {f:Addr} {fd:FuncData} (F:Fun K "__init__" "Take.__init__" aFx f fd):bB P w K mg base CX0 1 f fd ["self","back","steps"] (aDq K "back" "steps"):=by
 refine F.ok aQt (λvs H Q E h=>?_) (λcdv A outer s H vs Q E hr h=>?_)
 ·obtain⟨p,C,dx,x,y,rfl,_⟩:=h;rfl
 ·obtain⟨p,C,dx,x,y,rfl,hp,c,q⟩:=h;refine⟨_,(aJ (dF (pv 0) (pv 1) rfl) (aR (dF (pv 0) (pv 2) rfl))),?_⟩;refine⟨_,rfl,_,rfl,p,C,dx,_,rfl,hp,c.cl,c.na _ (by simp),by decide,?_⟩;exact⟨_,rfl,_,rfl,p,C,dx,_,rfl,aK,c.cl,c.na _ (by simp),by show(1:Nat)<1000;decide,q⟩
theorem aP3:aL ["self","one","other"] ["self","one","other"] (aC aHj):=⟨rfl,rfl,rfl,by decide+kernel,rfl,by decide+kernel,by decide+kernel⟩
theorem rC {f:Addr} {fd:FuncData} (F:Fun K "__init__" "Paired.__init__" aHj f fd):bB P w K mg base CX0 1 f fd ["self","one","other"] (aDq K "one" "other"):=by
 refine F.ok aP3 (λvs H Q E h=>?_) (λcdv A outer s H vs Q E hr h=>?_)
 ·obtain⟨p,C,dx,x,y,rfl,_⟩:=h;rfl
 ·obtain⟨p,C,dx,x,y,rfl,hp,c,q⟩:=h;refine⟨_,(aJ (dF (pv 0) (pv 1) rfl) (aR (dF (pv 0) (pv 2) rfl))),?_⟩;refine⟨_,rfl,_,rfl,p,C,dx,_,rfl,hp,c.cl,c.na _ (by simp),by decide,?_⟩;exact⟨_,rfl,_,rfl,p,C,dx,_,rfl,aK,c.cl,c.na _ (by simp),by show(1:Nat)<1000;decide,q⟩
theorem aQy:aL ["self","one","by"] ["self","one","by"] (aC aF5):=⟨rfl,rfl,rfl,by decide+kernel,rfl,by decide+kernel,by decide+kernel⟩
theorem aOj {f:Addr} {fd:FuncData} (F:Fun K "__init__" "Rest.__init__" aF5 f fd):bB P w K mg base CX0 1 f fd ["self","one","by"] (aDq K "one" "by"):=by
 refine F.ok aQy (λvs H Q E h=>?_) (λcdv A outer s H vs Q E hr h=>?_)
 ·obtain⟨p,C,dx,x,y,rfl,_⟩:=h;rfl
 ·obtain⟨p,C,dx,x,y,rfl,hp,c,q⟩:=h;refine⟨_,(aJ (dF (pv 0) (pv 1) rfl) (aR (dF (pv 0) (pv 2) rfl))),?_⟩;refine⟨_,rfl,_,rfl,p,C,dx,_,rfl,hp,c.cl,c.na _ (by simp),by decide,?_⟩;exact⟨_,rfl,_,rfl,p,C,dx,_,rfl,aK,c.cl,c.na _ (by simp),by show(1:Nat)<1000;decide,q⟩
theorem aQz:aL ["self","test","one","other"] ["self","test","one","other"] (aC aG3):=⟨rfl,rfl,rfl,by decide+kernel,rfl,by decide+kernel,by decide+kernel⟩
theorem aMa {f:Addr} {fd:FuncData} (F:Fun K "__init__" "Chosen.__init__" aG3 f fd):bB P w K mg base CX0 1 f fd ["self","test","one","other"] (aWl K "test" "one" "other"):=by
 refine F.ok aQz (λvs H Q E h=>?_) (λcdv A outer s H vs Q E hr h=>?_)
 ·obtain⟨p,C,dx,x,y,z,rfl,_⟩:=h;rfl
 ·obtain⟨p,C,dx,x,y,z,rfl,hp,c,q⟩:=h;refine⟨_,(aJ (dF (pv 0) (pv 1) rfl) (aJ (dF (pv 0) (pv 2) rfl) (aR (dF (pv 0) (pv 3) rfl)))),?_⟩;refine⟨_,rfl,_,rfl,p,C,dx,_,rfl,hp,c.cl,c.na _ (by simp),by decide,?_⟩;refine⟨_,rfl,_,rfl,p,C,dx,_,rfl,aK,c.cl,c.na _ (by simp),by show(1:Nat)<1000;decide,?_⟩;exact⟨_,rfl,_,rfl,p,C,dx,_,rfl,aK,c.cl,c.na _ (by simp),by show(2:Nat)<1000;decide,q⟩
end
end KR
namespace KR
open PySem PyProof.Rows L2
structure Mkr (P:Program) (w:World) (K:Ac) (mg:Str->Option Value) (base:Heap) (C:Addr) (x:Str) (ps:List Str) (sp:Sp):Prop where
 ex:∃f fd,bB P w K mg base CX0 1 f fd ps sp/\Mk K C f/\mg x=some (.ref C)/\Binds K fd ps []
theorem sO {X:Cx} {C:Addr} {x:Str} {ps:List Str} {sp:Sp} {E:XK} {e:Expr} {es:List Expr} {t:TA} {p pos:Pos} (R:Mkr X.prog X.w X.K X.mg X.base C x ps sp) (hr:dN 2 X.A) (hg:Gl X x) (hx:pN CX0 X E) (ha:PA X (e::es) t)
  (hdb:(x==("__debug__":Str))=false:=by decide) (he:starEach (e::es) X.env=(false,eval e X.env)::starEach es X.env:=by rfl) (hpl:(backTo pos (starEach es X.env)).any (·.1)=false:=by rfl):PE X (.Call (.Name x p) (e::es) [] pos) (aRf C sp [] E t):=by
 obtain⟨f,fd,F,M,hm,hb⟩:=R.ex;exact aHx M F hr hg hm hb .nil hx ha hdb he hpl
theorem sF {a b:Str} (h:a≠b:=by decide+kernel):decide (V.str a=V.str b)=false:=decide_eq_false λz=>h (V.str.inj z)
def bnm (k:Fin 5):Str:=match k with|0=>"Added"|1=>"Lessened"|2=>"Multiplied"|3=>"Least"|4=>"Most"
theorem aHe {H:Hp} {x dx C:Addr} {fs:List (Str×V)} (nx:H x=none) (nd:H dx=none):eU H (upd (upd (upd H dx (.own x)) x (.ins C dx [])) x (.ins C dx fs)):=jM nx (jM nx (jM nd (eU.refl H)))
theorem qD {N:Cn} {K:Ac} {H H1:Hp} {k:Fin 5} {t1 t2:Tm} {v1 v2:V} {Q:VK} {E:XK} (c:Cf K (N.bin k) ["one","other"]) (u1:lA N H1 t1 v1) (u2:lA N H1 t2 v2) (s:eU H H1) (q:∀(v':V) (H':Hp),eU H H'->lA N H' (.bin k t1 t2) v'->Q v' H'):
  ∀x dx,H1 x=none->H1 dx=none->dx≠x->aDq K "one" "other" (.ref x::([v1,v2]++[])) (upd (upd H1 dx (.own x)) x (.ins (N.bin k) dx [])) (λv H2=>v= .non/\Q (.ref x) H2) E:=by
 intro x dx nx nd ne;obtain⟨p1,d1,f1,rfl,h1,g1⟩:=u1;obtain⟨p2,d2,f2,rfl,h2,g2⟩:=u2;refine⟨x,N.bin k,dx,.ref p1,.ref p2,rfl,aK,c,rfl,?_⟩;have sN:eU H1 (upd (upd (upd (upd H1 dx (.own x)) x (.ins (N.bin k) dx [])) x (.ins (N.bin k) dx [("one",.ref p1)])) x (.ins (N.bin k) dx [("one",.ref p1),("other",.ref p2)])):=jM nx (aHe nx nd);exact q _ _ (s.trans sN) ⟨x,dx,_,rfl,aK,p1,d1,f1,p2,d2,f2,rfl,⟨sN _ _ h1,g1.same sN⟩,sN _ _ h2,g2.same sN⟩
theorem aU8:∀{t k:Tm},k∈kids t->Wf t->Wf k
 | .rest t _,k,h,w=>by rw [List.mem_singleton.mp h];exact w.2.2
 | .cho a b c,k,h,w=>by
  simp only [kids,Bi,Be,or_false]at h;rcases h with rfl|rfl|rfl
  ·exact w.1
  ·exact w.2.1
  ·exact w.2.2
 | .bin _ a b,k,h,w=>by
  simp only [kids,Bi,Be,or_false]at h;rcases h with rfl|rfl
  ·exact w.1
  ·exact w.2
theorem aIy {n:Nat} (h:n<=9000):n<=sizeLine:=by rw [Cr];omega
theorem Kp.upd {a q:Addr} {H H':Hp} {o:HO} (k:Kp a H H') (hq:H q=none):Kp a H (upd H' q o):=λb u e n=>by
 rw [aP (aQ e hq)];exact k b u e n
theorem aSx {i j:Str} {l m:List Nat} {H:Hp} {Q:VK} (h1:i=tx l) (h2:j=tx m) (hz:l.length+m.length<=9000) (q:Q (.str (tx (l++m))) H):aRw (.str i) (.str j) H Q:=by
 subst h1 h2;exact⟨_,_,rfl,rfl,by rw [gC,gC];exact aIy hz,by rw [gF];exact q⟩
theorem aDm {α:Type} {f:α->V} {l:List α} {i:Nat} {x:V} (h:(l.map f)[i]? =some x):∃n,x=f n/\l[i]? =some n:=by
 rw [Ay]at h;cases g:l[i]? with
 |none=>rw [g]at h;cases h
 |some b=>rw [g]at h;cases h;exact⟨b,rfl,rfl⟩
theorem kW {c:Bool} {a b:Prop} (h:c=true) (x:a):if c=true then a else b:=by rw [if_pos h];exact x
theorem fJ {c:Bool} {a b:Prop} (h:c=false) (x:b):if c=true then a else b:=by rw [if_neg (by rw [h];exact Aj)];exact x
theorem aDt {X:Cx} {x:Str} {i:Int} {t:Tok} {pos:Pos} (hg:Gl X x) (hm:X.mg x=some (.int i t)) (hd:(x==("__debug__":Str))=false:=by decide):PE X (.Name x pos) (tC (.int i)):=yM (v:= .int i) hg hm ⟨_,rfl⟩ hd
end KR
namespace KR
open PySem PyProof.Rows L2
def dg (m:Nat):List Nat:=(Kl 10 m).map Char.toNat
theorem aNn:∀d:Nat,d<10->(Nl d).toNat=48+d:=by decide
theorem aEc {m:Nat} (h:m<10):dg m=[48+m]:=by
 unfold dg;rw [Nk h];show [(Nl m).toNat]=_;rw [aNn m h]
theorem aL8 {m:Nat} (h:10<=m):dg m=dg (m / 10)++[48+m % 10]:=by
 have hm:m % 10<10:=Kg m (by decide);have t:Kl 10 (m / 10)++Kl 10 (m % 10)=Kl 10 (10*(m / 10)+m % 10):=Nat.toDigits_append_toDigits (by decide) (by omega) hm;rw [Nat.div_add_mod]at t;unfold dg;rw [<-t,Bc,Nk hm];show _++[(Nl (m % 10)).toNat]=_;rw [aNn _ hm]
theorem aTz (m:Nat):Oi (dg m):=by
 induction m using Ls with
 |_ m ih=>
  by_cases h:m<10
  ·rw [aEc h];intro c hc;rw [List.mem_singleton.mp hc];omega
  ·rw [aL8 (by omega)];intro c hc;rcases List.mem_append.mp hc with z|z
   ·exact ih (m / 10) (by omega) c z
   ·rw [List.mem_singleton.mp z];omega
theorem aUh (m:Nat):Jt (dg m)=m:=W.KIN.val_back m
theorem vK (m:Nat) (h:0<m):∃c r,dg m=c::r/\49<=c/\c<=57:=by
 induction m using Ls with
 |_ m ih=>
  by_cases h10:m<10
  ·exact⟨_,_,aEc h10,by omega,by omega⟩
  ·obtain⟨c,r,e,h1,h2⟩:=ih (m / 10) (by omega) (by omega);exact⟨c,r++[48+m % 10],by rw [aL8 (by omega),e];rfl,h1,h2⟩
theorem aDs:∀(k m:Nat),m<10 ^ (k+1)->(dg m).length<=k+1
 |0,m,h=>by rw [aEc (by simpa using h)];exact Am _
 |k+1,m,h=>by
  by_cases h10:m<10
  ·rw [aEc h10];show 1<=_;omega
  ·rw [aL8 (by omega),Ah];have:=aDs k (m / 10) (by rw [Uh]at h;omega);show _+1<=_;omega
theorem xZ:dg 0=[48]:=aEc (by decide)
theorem xW (m:Nat):itx (m:Int)=dg m:=Qe m
theorem aCt (m:Nat):itx (Vb m)=45::dg (m+1):=by
 have e:=Qe (m+1);have h:toString (Vb m)="-"++toString (((m+1:Nat):Int)):=rfl;unfold itx;rw [h];have:∀a b:String,(As (a++b)).cps.toList=(As a).cps.toList++(As b).cps.toList:=λa b=>by
  rw [Nz,Nz,Nz,String.toList_append,Bc]
 rw [this,e];rfl
theorem rO {n:Int} (h:n.natAbs<10 ^ 13):(itx n).length<=14:=by
 cases n with
 |ofNat m=>rw [show Rf m=(m:Int)from rfl,xW];have:=aDs 12 m h;omega
 |negSucc m=>rw [aCt,Ag];have:=aDs 12 (m+1) (by simpa using h);omega
theorem wK {n:Int} (h:n.natAbs<10 ^ 13):n.natAbs.log2<1920:=by
 by_cases z:n.natAbs=0
 ·rw [z];decide
 ·exact(Uy z).mpr (Ko h (by
   have:(10:Nat) ^ 13<2 ^ 50:=by decide
   exact Bg this (Nat.pow_le_pow_right (by decide) (by decide))))
def sgn (x:Str):List Nat:=x.cps.toList
def txt:Tm->List Nat
 | .num n=>itx n
 | .take b ss=>91::(glu [32] (itx b::ss.map itx)++[93])
 | .rest t y=>40::(txt t++([32,114,101,115,116,32]++(itx y++[41])))
 | .cho a b c=>40::(txt a++([32,63,32]++(txt b++([32,58,32]++(txt c++[41])))))
 | .bin k a b=>40::(txt a++(32::(sgn (opn k)++(32::(txt b++[41])))))
def lB (t:Tm):Prop:=Wf t/\∀x∈raw t,wR x/\1<=x.2.length/\x.2.length<=3
theorem bL {x:String} (l:List Nat) (h:(As x).cps.toList=l):As x=tx l:=by rw [aFd (As x),h]
theorem aHo (k:Fin 5):(sgn (opn k)).length<=3:=by
 match k with
 |0=>decide
 |1=>decide
 |2=>decide
 |3=>decide
 |4=>decide
theorem aCr (sep:List Nat):∀(ls:List (List Nat)) (m:Nat),(∀l∈ls,l.length<=m)->(glu sep ls).length<=ls.length*(m+sep.length)
 | [],_,_=>Bb _
 | [x],m,h=>by
  have:=h x Af;show x.length<=1*(m+sep.length);omega
 |x::y::r,m,h=>by
  have h1:=h x Af;have h2:=aCr sep (y::r) m λl hl=>h l (Ae _ hl);rw [glu,Ah,Ah,Ag,Ue];omega
theorem tH {s:Int} (h: -9<=s/\s<=9):s.natAbs<10 ^ 13:=by omega
theorem mG:∀{t:Tm},lB t->(txt t).length<=70*dD t
 | .num n,h=>by
  have h1:=h.1;have:=rO (n:=n) (by simp only [Wf]at h1;omega);show(itx n).length<=70*1;omega
 | .take b ss,h=>by
  obtain⟨⟨h1,h2,h3⟩,h4,h5⟩:=h.2 (b,ss) Af;have:(glu [32] (itx b::ss.map itx)).length<=(itx b::ss.map itx).length*(14+1):=aCr [32] _ 14 λl hl=>by
   rcases List.mem_cons.mp hl with rfl|hl
   ·exact rO (by simp only at h1 h2;omega)
   ·obtain⟨s,hs,rfl⟩:=List.mem_map.mp hl;exact rO (tH (h3 s hs))
  rw [Ag,Ab]at this;show(glu [32] (itx b::ss.map itx)++[93]).length+1<=70*1;rw [Ah];simp only at h4 h5;show _+1+1<=_;omega
 | .rest t y,h=>by
  have h1:=h.1;have i1:=mG (t:=t) ⟨h1.2.2,h.2⟩;have:=rO (n:=y) (by have:=h1.1;have:=h1.2.1;omega);simp only [txt,dD,Ag,Ah,Bd];omega
 | .cho a b c,h=>by
  have h1:=h.1;have i1:=mG (t:=a) ⟨h1.1,λx hx=>h.2 x (by simp [raw,hx])⟩;have i2:=mG (t:=b) ⟨h1.2.1,λx hx=>h.2 x (by simp [raw,hx])⟩;have i3:=mG (t:=c) ⟨h1.2.2,λx hx=>h.2 x (by simp [raw,hx])⟩;simp only [txt,dD,Ag,Ah,Bd];omega
 | .bin k a b,h=>by
  have h1:=h.1;have i1:=mG (t:=a) ⟨h1.1,λx hx=>h.2 x (by simp [raw,hx])⟩;have i2:=mG (t:=b) ⟨h1.2,λx hx=>h.2 x (by simp [raw,hx])⟩;have:=aHo k;simp only [txt,dD,Ag,Ah,Bd];omega
theorem lB.kid {t k:Tm} (h:k∈kids t) (a:lB t):lB k:=⟨aU8 h a.1,λx hx=>a.2 x (aH4 h x hx)⟩
end KR
namespace KR
open PySem PyProof.Rows L2
theorem aQu {X:Cx} {x z:Str} {t:Tok} {pos:Pos} (hg:Gl X x) (hm:X.mg x=some (.str z t)) (hd:(x==("__debug__":Str))=false:=by decide):PE X (.Name x pos) (tC (.str z)):=yM (v:= .str z) hg hm ⟨_,rfl⟩ hd
theorem aIp {X:Cx} {x:Str} {a:Addr} {pos:Pos} (hg:Gl X x) (hm:X.mg x=some (.ref a)) (hd:(x==("__debug__":Str))=false:=by decide):PE X (.Name x pos) (tC (.ref a)):=yM (v:= .ref a) hg hm rfl hd
def gD (CR:Addr) (H:Hp) (rd:Addr) (z:List Nat) (g:Nat):Prop:=∃dx,H rd=some (.ins CR dx [(("text":Str),V.str (tx z)),(("gone":Str),aAx g)])
theorem gD.same {CR:Addr} {H H':Hp} {rd:Addr} {z:List Nat} {g:Nat} (s:eU H H') (h:gD CR H rd z g):gD CR H' rd z g:=let⟨dx,e⟩:=h;⟨dx,s _ _ e⟩
def dig (c:Nat):Bool:=decide (48<=c/\c<=57)
def qO (z:List Nat) (g:Nat):Bool:=match z[g]? with|some c=>dig c|none=>false
inductive aEb (CR:Addr) (vs:List V) (H:Hp) (Q:VK) (z3_:XK):Prop
 |mk (rd:Addr) (z:List Nat) (g:Nat) (q0_:vs=[.ref rd]) (q1_:gD CR H rd z g) (q2_:z.length<=9000) (q3_:Q (.str (tx ((z.drop g).take 1))) H):aEb CR vs H Q z3_
def lF (CR:Addr):Sp:=λvs H Q z3_=>aEb CR vs H Q z3_
inductive aIn (CR:Addr) (vs:List V) (H:Hp) (Q:VK) (z3_:XK):Prop
 |mk (rd:Addr) (z w:List Nat) (g:Nat) (r:List Nat) (q0_:vs=[.ref rd,.str (tx w)]) (q1_:gD CR H rd z g) (q2_:z.length<=9000) (q3_:(∀c∈w,c<128)) (q4_:z.drop g=w++r) (q5_:∀H',Kp rd H H'->gD CR H' rd z (g+w.length)->Q .non H'):aIn CR vs H Q z3_
def qN (CR:Addr):Sp:=λvs H Q z3_=>aIn CR vs H Q z3_
inductive aO6 (CR:Addr) (vs:List V) (H:Hp) (Q:VK) (z3_:XK):Prop
 |mk (rd:Addr) (z:List Nat) (g:Nat) (q0_:vs=[.ref rd]) (q1_:gD CR H rd z g) (q2_:z.length<=9000) (q3_:Q (.bl (qO z g)) H):aO6 CR vs H Q z3_
def aSj (CR:Addr):Sp:=λvs H Q z3_=>aO6 CR vs H Q z3_
def NoD (r:List Nat):Prop:=∀c s,r=c::s->dig c=false
inductive aIb (CR:Addr) (vs:List V) (H:Hp) (Q:VK) (z3_:XK):Prop
 |mk (rd:Addr) (z:List Nat) (g m:Nat) (r:List Nat) (q0_:vs=[.ref rd]) (q1_:gD CR H rd z g) (q2_:z.length<=9000) (q3_:z.drop g=dg m++r) (q4_:NoD r) (q5_:m<10 ^ 13) (q6_:∀H',Kp rd H H'->gD CR H' rd z (g+(dg m).length)->Q (aAx m) H'):aIb CR vs H Q z3_
def aC2 (CR:Addr):Sp:=λvs H Q z3_=>aIb CR vs H Q z3_
inductive aH3 (CR:Addr) (vs:List V) (H:Hp) (Q:VK) (z3_:XK):Prop
 |mk (rd:Addr) (z:List Nat) (g:Nat) (n:Int) (r:List Nat) (q0_:vs=[.ref rd]) (q1_:gD CR H rd z g) (q2_:z.length<=9000) (q3_:z.drop g=itx n++r) (q4_:NoD r) (q5_:n.natAbs<10 ^ 13) (q6_:∀H',Kp rd H H'->gD CR H' rd z (g+(itx n).length)->Q (.int n) H'):aH3 CR vs H Q z3_
def aCh (CR:Addr):Sp:=λvs H Q z3_=>aH3 CR vs H Q z3_
theorem take1 {z:List Nat} {g c:Nat} {r:List Nat} (h:z.drop g=c::r):(z.drop g).take 1=[c]:=by rw [h];rfl
theorem xY {z:List Nat} {g c:Nat} {r:List Nat} (h:z.drop g=c::r):z[g]? =some c:=by
 have:=Pg (xs:=z) (i:=g) (j:=0);rw [h]at this;simpa using this.symm
theorem cO {z:List Nat} {g:Nat} {w r:List Nat} (h:z.drop g=w++r):z.drop (g+w.length)=r:=by
 rw [<-Jk,h,Re]
theorem aOz:∀c:Nat,c∈sgn "0123456789"↔dig c=true:=by
 intro c;unfold dig;rw [decide_eq_true_iff,show sgn "0123456789"=[48,49,50,51,52,53,54,55,56,57]from rfl];simp only [Bi,Be,or_false];omega
theorem zX {rd:Addr} {x:String} {l:List Nat} (h:(As x).cps.toList=l):[V.ref rd,V.str (As x)]=[V.ref rd,V.str (tx l)]:=by rw [bL l h]
abbrev FR:List Str:=["text","gone"]
abbrev DR (P:Program) (w:World) (K:Ac) (mg:Str->Option Value) (base:Heap) (k:Nat) (CR:Addr) (m:Str) (ps:List Str) (sp:Sp):Prop:=Dis P w K mg base CX0 k (·=CR) m ps (λ_=>sp)
section
variable {P:Program} {w:World} {K:Ac} {mg:Str->Option Value} {base:Heap} {CR:Addr}
theorem aKl:aL ["self"] ["self"] (aC aAs):=⟨rfl,rfl,rfl,by decide+kernel,rfl,by decide+kernel,by decide+kernel⟩
theorem aN9 {f:Addr} {fd:FuncData} (F:Fun K "ahead" "TermReader.ahead" aAs f fd) (c:Cf K CR FR):bB P w K mg base CX0 1 f fd ["self"] (lF CR):=by
 refine F.ok aKl (λvs H Q E h=>?_) (λcdv A outer s H vs Q E hr h=>?_)
 ·obtain⟨rd,z,g,rfl,_⟩:=h;rfl
 ·obtain⟨rd,z,g,rfl,⟨dx,hp⟩,zl,q⟩:=h;refine⟨_,(aR (cQ (aFv aM7 (lM (pv 0) rfl) (yL (lM (pv 0) rfl)) (yL (pQ tE (lM (pv 0) rfl) dI))))),?_⟩;have q':Q (.str (tx ((z.drop g).take (g+1-g)))) H:=by rw [show g+1-g=1 by omega];exact q
  exact⟨_,rfl,rd,CR,dx,_,_,rfl,hp,c.cl,c.na _ (by simp),rfl,_,rfl,rd,CR,dx,_,_,rfl,hp,c.cl,c.na _ (by simp),rfl,(g:Int),rfl,_,rfl,rd,CR,dx,_,_,rfl,hp,c.cl,c.na _ (by simp),rfl,_,_,rfl,rfl,((g+1:Nat):Int),rfl,z,g,g+1,rfl,rfl,rfl,by omega,aIy zl,q'⟩
theorem aEs:aL ["self","signs","sign"] ["self","signs"] (aC aDu):=⟨rfl,rfl,rfl,by decide+kernel,rfl,by decide+kernel,by decide+kernel⟩
theorem aQ5 {f:Addr} {fd:FuncData} (F:Fun K "pass_by" "TermReader.pass_by" aDu f fd) (c:Cf K CR FR) (D_ahead:DR P w K mg base 1 CR "ahead" ["self"] (lF CR)):bB P w K mg base CX0 2 f fd ["self","signs"] (qN CR):=by
 refine F.ok aEs (λvs H Q E h=>?_) (λcdv A outer s H vs Q E hr h=>?_)
 ·obtain⟨rd,z,w',g,r,rfl,_⟩:=h;rfl
 ·obtain⟨rd,z,w',g,r,rfl,R,zl,asc,hz,q⟩:=h;refine⟨_,(aR (aMp Bf rfl (aS5 (pv 1)) (bO (i:=2) aEs.nd rfl (Bw rfl)) (aJ (eQ (cL aHr (bJ (pv 0) D_ahead (hr.mono (by omega)) bG) (pv 2) (cZ _)) (aR dO) bY) (aR (dF (pv 0) (pQ tE (lM (pv 0) rfl) dI) rfl))))),?_⟩;refine⟨_,rfl,w',rfl,asc,?_⟩;refine aQ2 (z:=w') (λi σ H2=>∃v2,σ=[some (.ref rd),some (.str (tx w')),v2]/\Kp rd H H2/\gD CR H2 rd z (g+i)) ⟨_,rfl,Kp.of (eU.refl H),R⟩ ?_ ?_
  ·rintro i ch σ H2 hi ⟨v2,rfl,k2,dx,hp⟩;have hd:z.drop (g+i)=ch::(w'.drop (i+1)++r):=by
    obtain⟨hlt,e⟩:=List.getElem?_eq_some_iff.mp hi;rw [<-Jk,hz,Gw (Es hlt),Bh hlt,e];rfl
   refine⟨_,rfl,rd,CR,dx,_,rfl,hp,rfl,rfl,rd,z,g+i,rfl,⟨dx,hp⟩,zl,_,rfl,rfl,_,rfl,?_⟩;rw [take1 hd];refine aL1 rfl ?_;refine⟨_,rfl,rd,CR,dx,_,_,rfl,hp,c.cl,c.na _ (by simp),rfl,_,_,rfl,rfl,_,rfl,rd,CR,dx,_,rfl,hp,c.cl,c.na _ (by simp),by show(2:Nat)<1000;decide,?_⟩;exact⟨_,rfl,k2.trans aSe,dx,aK⟩
  ·rintro σ H2 ⟨v2,rfl,k2,R2⟩;exact q H2 k2 R2
theorem aQk:aL ["self"] ["self"] (aC aG6):=⟨rfl,rfl,rfl,by decide+kernel,rfl,by decide+kernel,by decide+kernel⟩
theorem aTd {f:Addr} {fd:FuncData} {t0:Tok} (F:Fun K "figure_is_ahead" "TermReader.figure_is_ahead" aG6 f fd) (D_ahead:DR P w K mg base 1 CR "ahead" ["self"] (lF CR)) (g_FIGURES:mg "FIGURES"=some (.str "0123456789" t0)):bB P w K mg base CX0 2 f fd ["self"] (aSj CR):=by
 refine F.ok aQk (λvs H Q E h=>?_) (λcdv A outer s H vs Q E hr h=>?_)
 ·obtain⟨rd,z,g,rfl,_⟩:=h;rfl
 ·obtain⟨rd,z,g,rfl,R,zl,q⟩:=h;have R':=R;obtain⟨dx,hp⟩:=R';refine⟨_,(aR (cQ (aM9 (aDp aHr (bJ (pv 0) D_ahead (hr.mono (by omega)) bG) bU (cZ _)) (aLz (aDp aJl (bJ (pv 0) D_ahead (hr.mono (by omega)) bG) (aQu rfl g_FIGURES) rfl))))),?_⟩;refine⟨_,rfl,rd,CR,dx,_,rfl,hp,rfl,rfl,rd,z,g,rfl,R,zl,rfl,_,rfl,?_⟩;cases hd:z.drop g with
  |nil=>
   have e:qO z g=false:=by
    unfold qO;rw [show z[g]? =none from Cm (List.drop_eq_nil_iff.mp hd)]
   rw [e]at q;exact pX q
  |cons ch r=>
   have e:qO z g=dig ch:=by unfold qO;rw [xY hd]
   rw [e]at q;refine kW (by rw [decide_eq_false λz=>by have:=jH ((V.str.inj z).trans (bL [] rfl));cases this];rfl) ?_;refine⟨_,rfl,rd,CR,dx,_,rfl,hp,rfl,rfl,rd,z,g,rfl,R,zl,_,_,rfl,rfl,?_⟩;rw [take1 hd];have f1:=StrLaws.found_one (As "0123456789") ch;have f2:(!(Kj (As "0123456789") (tx [ch]) 0 (As "0123456789").length 1).isEmpty)=dig ch:=by
    refine f1.trans ?_;rw [Eo,decide_eq_true_iff];exact aOz ch
   rw [f2];exact q
theorem aD8:aL ["self","begin"] ["self"] (aC aDx):=⟨rfl,rfl,rfl,by decide+kernel,rfl,by decide+kernel,by decide+kernel⟩
theorem aPg {f:Addr} {fd:FuncData} (F:Fun K "read_figures" "TermReader.read_figures" aDx f fd) (c:Cf K CR FR) (D_ahead:DR P w K mg base 1 CR "ahead" ["self"] (lF CR)) (D_pass_by:DR P w K mg base 2 CR "pass_by" ["self","signs"] (qN CR)) (D_figure_is_ahead:DR P w K mg base 2 CR "figure_is_ahead" ["self"] (aSj CR)) (T:Txt K mg):bB P w K mg base CX0 3 f fd ["self"] (aC2 CR):=by
 refine F.ok aD8 (λvs H Q E h=>?_) (λcdv A outer s H vs Q E hr h=>?_)
 ·obtain⟨rd,z,g,m,r,rfl,_⟩:=h;rfl
 ·obtain⟨rd,z,g,m,r,rfl,R,zl,hz,nd,hm,q⟩:=h;obtain⟨dx,hp⟩:=R;obtain⟨_,g_MOST_FIGURES⟩:=T.mfi;refine⟨_,(aJ (iB (i:=1) aD8.nd rfl (Bw rfl) (lM (pv 0) rfl)) (aJ (eQ (aCu (zW (bJ (pv 0) D_figure_is_ahead (hr.mono (by omega)) bG))) (aR dO) bY) (aJ (eQ (cL oA (bJ (pv 0) D_ahead (hr.mono (by omega)) bG) bU (cZ _)) (aJ (cX (cF (pv 0) D_pass_by (hr.mono (by omega)) bG (aM bU aZ))) (aR (cQ dI))) bY) (aJ (uA Bf (PW.pt (aFw (zW (bJ (pv 0) D_figure_is_ahead (hr.mono (by omega)) bG)) (aC7 (cL uK (pQ iD (lM (pv 0) rfl) (pv 1)) (aDt rfl g_MOST_FIGURES) (cZ _))))) (aR (dF (pv 0) (pQ tE (lM (pv 0) rfl) dI) rfl))) (aR (cQ (nZ aKb rfl T.int Rk (aM (aFv aM7 (lM (pv 0) rfl) (yL (pv 1)) (yL (lM (pv 0) rfl))) aZ)))))))),?_⟩;have al:=aTz m;have ln:=aDs 12 m hm;obtain⟨ch,rs,ec⟩:∃c rs,dg m=c::rs:=by
   rcases Ew m with h0|h0
   ·exact⟨48,[],by rw [h0,xZ]⟩
   ·obtain⟨c,r,e,_⟩:=vK m h0;exact⟨c,r,e⟩
  have hd:z.drop g=ch::(rs++r):=by rw [hz,ec];rfl
  have dch:qO z g=true:=by unfold qO;rw [xY hd];exact decide_eq_true (al ch (by rw [ec];exact Af))
  refine⟨_,rfl,rd,CR,dx,_,_,rfl,hp,c.cl,c.na _ (by simp),rfl,?_⟩;refine⟨_,rfl,rd,CR,dx,_,rfl,hp,rfl,rfl,rd,z,g,rfl,⟨dx,hp⟩,zl,_,rfl,?_⟩;rw [dch];refine pX ?_;refine⟨_,rfl,rd,CR,dx,_,rfl,hp,rfl,rfl,rd,z,g,rfl,⟨dx,hp⟩,zl,rfl,_,rfl,?_⟩;rw [take1 hd];rcases Ew m with h0|h0
  ·subst h0;rw [xZ]at ec hz q;cases ec;refine kW (decide_eq_true (congrArg V.str (bL [48] rfl).symm)) ?_;refine⟨_,rfl,rd,CR,dx,_,rfl,hp,rfl,rfl,rd,z,[48],g,r,zX rfl,⟨dx,hp⟩,zl,by decide,hz,λH1 k1 R1=>?_⟩;exact q H1 k1 R1
  ·obtain⟨c',r',e',h49,h57⟩:=vK m h0;rw [ec]at e';obtain⟨rfl,rfl⟩:=Bs e';refine fJ (decide_eq_false λx=>by have:=jH ((V.str.inj x).trans (bL [48] rfl));injection this with h1;omega) ?_;refine⟨λk σ H1=>∃i,k=(dg m).length-i/\i<=(dg m).length/\σ=[some (.ref rd),some (aAx g)]/\Kp rd H H1/\gD CR H1 rd z (g+i),⟨_,0,rfl,Bb _,rfl,Kp.of (eU.refl H),dx,hp⟩,?_⟩;rintro k σ H1 ⟨i,rfl,hi,rfl,k1,dx1,hp1⟩;refine⟨_,rfl,rd,CR,dx1,_,rfl,hp1,rfl,rfl,rd,z,g+i,rfl,⟨dx1,hp1⟩,zl,_,rfl,?_⟩;have dr:z.drop (g+i)=(dg m).drop i++r:=by rw [<-Jk,hz,Gw hi]
   by_cases lt:i<(dg m).length
   ·have hc:z[g+i]? =some (dg m)[i]:=xY (r:=(dg m).drop (i+1)++r) (by rw [dr,Bh lt];rfl);have dd:qO z (g+i)=true:=by unfold qO;rw [hc];exact decide_eq_true (al _ (Cp lt))
    rw [dd];refine aD2 ?_;refine⟨_,rfl,rd,CR,dx1,_,_,rfl,hp1,c.cl,c.na _ (by simp),rfl,_,rfl,_,_,rfl,rfl,_,_,rfl,rfl,_,rfl,?_⟩;refine kW (decide_eq_true (by show((g+i:Nat):Int)-(g:Int)<13;omega)) ?_;refine⟨λσ' H'=>∃m',m'<(dg m).length-i/\_,λ_ _ z=>z,?_⟩;refine⟨_,rfl,rd,CR,dx1,_,_,rfl,hp1,c.cl,c.na _ (by simp),rfl,_,_,rfl,rfl,_,rfl,rd,CR,dx1,_,rfl,hp1,c.cl,c.na _ (by simp),by show(2:Nat)<1000;decide,?_⟩;exact⟨(dg m).length-(i+1),by omega,i+1,rfl,lt,rfl,k1.trans aSe,dx1,aK⟩
   ·have ei:i=(dg m).length:=by omega
    subst ei;have dd:qO z (g+(dg m).length)=false:=by
     rw [Gi (Am _),Ec]at dr;unfold qO;cases r with
     |nil=>rw [show z[g+(dg m).length]? =none from Cm (List.drop_eq_nil_iff.mp dr)]
     |cons x y=>rw [xY dr];exact nd x y rfl
    rw [dd];refine pX ?_;have ct:(z.drop g).take (g+(dg m).length-g)=dg m:=by rw [show g+(dg m).length-g=(dg m).length by omega,hz,Qz]
    refine⟨_,rfl,rd,CR,dx1,_,_,rfl,hp1,c.cl,c.na _ (by simp),rfl,_,rfl,(g:Int),rfl,_,rfl,rd,CR,dx1,_,_,rfl,hp1,c.cl,c.na _ (by simp),rfl,((g+(dg m).length:Nat):Int),rfl,z,g,g+(dg m).length,rfl,rfl,rfl,by omega,aIy zl,?_⟩;rw [ct];refine⟨dg m,rfl,by rw [ec];simp,al,by omega,?_⟩;rw [aUh];exact q H1 k1 ⟨dx1,hp1⟩
theorem aPn:aL ["self"] ["self"] (aC aGq):=⟨rfl,rfl,rfl,by decide+kernel,rfl,by decide+kernel,by decide+kernel⟩
theorem aTb {f:Addr} {fd:FuncData} (F:Fun K "read_number" "TermReader.read_number" aGq f fd) (D_ahead:DR P w K mg base 1 CR "ahead" ["self"] (lF CR)) (D_pass_by:DR P w K mg base 2 CR "pass_by" ["self","signs"] (qN CR)) (D_read_figures:DR P w K mg base 3 CR "read_figures" ["self"] (aC2 CR)):bB P w K mg base CX0 4 f fd ["self"] (aCh CR):=by
 refine F.ok aPn (λvs H Q E h=>?_) (λcdv A outer s H vs Q E hr h=>?_)
 ·obtain⟨rd,z,g,n,r,rfl,_⟩:=h;rfl
 ·obtain⟨rd,z,g,n,r,rfl,⟨dx,hp⟩,zl,hz,nd,hn,q⟩:=h;refine⟨_,(aJ (eQ (cL aHr (bJ (pv 0) D_ahead (hr.mono (by omega)) bG) bU (cZ _)) (aR (cQ (bJ (pv 0) D_read_figures (hr.mono (by omega)) bG))) bY) (aJ (cX (cF (pv 0) D_pass_by (hr.mono (by omega)) bG (aM bU aZ))) (aJ (eQ (cL oA (bJ (pv 0) D_ahead (hr.mono (by omega)) bG) bU (cZ _)) (aR dO) bY) (aR (cQ (aK7 aHb (bJ (pv 0) D_read_figures (hr.mono (by omega)) bG))))))),?_⟩;refine⟨_,rfl,rd,CR,dx,_,rfl,hp,rfl,rfl,rd,z,g,rfl,⟨dx,hp⟩,zl,rfl,_,rfl,?_⟩;cases n with
  |ofNat m=>
   rw [show Rf m=(m:Int)from rfl,xW]at hz q;obtain⟨ch,rs,ec,hc⟩:∃c rs,dg m=c::rs/\48<=c:=by
    rcases Ew m with h0|h0
    ·exact⟨48,[],by rw [h0,xZ],by omega⟩
    ·obtain⟨c,r,e,h1,_⟩:=vK m h0;exact⟨c,r,e,by omega⟩
   rw [take1 (c:=ch) (r:=rs++r) (by rw [hz,ec];rfl)];refine kW (by rw [decide_eq_false λx=>by have:=jH ((V.str.inj x).trans (bL [45] rfl));injection this with h1;omega];rfl) ?_;exact⟨_,rfl,rd,CR,dx,_,rfl,hp,rfl,rfl,rd,z,g,m,r,rfl,⟨dx,hp⟩,zl,hz,nd,hn,λH1 k1 R1=>q H1 k1 R1⟩
  |negSucc m=>
   rw [aCt]at hz q;rw [take1 (c:=45) (r:=dg (m+1)++r) (by rw [hz];rfl)];refine aL1 (congrArg V.str (bL [45] rfl).symm) ?_;refine⟨_,rfl,rd,CR,dx,_,rfl,hp,rfl,rfl,rd,z,[45],g,dg (m+1)++r,zX rfl,⟨dx,hp⟩,zl,by decide,hz,λH1 k1 R1=>?_⟩;obtain⟨dx1,hp1⟩:=R1;have h2:z.drop (g+1)=dg (m+1)++r:=cO (w:=[45]) hz;obtain⟨c',r',e',h49,h57⟩:=vK (m+1) (by omega);refine⟨_,rfl,rd,CR,dx1,_,rfl,hp1,rfl,rfl,rd,z,g+1,rfl,⟨dx1,hp1⟩,zl,rfl,_,rfl,?_⟩;rw [take1 (c:=c') (r:=r'++r) (by rw [h2,e'];rfl)];refine fJ (decide_eq_false λx=>by have:=jH ((V.str.inj x).trans (bL [48] rfl));injection this with h1;omega) ?_;refine⟨_,rfl,rd,CR,dx1,_,rfl,hp1,rfl,rfl,rd,z,g+1,m+1,r,rfl,⟨dx1,hp1⟩,zl,h2,nd,by simpa using hn,λH2 k2 R2=>?_⟩;refine⟨_,rfl,?_⟩;refine q H2 (k1.trans k2) ?_;rw [Ag,show g+((dg (m+1)).length+1)=g+1+(dg (m+1)).length by omega];exact R2
end
end KR
namespace KR
open PySem PyProof.Rows L2
def tl:List Int->List Nat
 | []=>[]
 |s::r=>32::(itx s++tl r)
theorem aMe:∀(b:Int) (ss:List Int),glu [32] (itx b::ss.map itx)=itx b++tl ss
 |b,[]=>by simp [glu,tl]
 |b,s::r=>by rw [Aw,glu,aMe s r];rfl
theorem yS (b:Int) (ss:List Int):txt (.take b ss)=91::(itx b++(tl ss++[93])):=by rw [txt,aMe,Bj]
theorem lU {c:Nat} {r:List Nat} (h:dig c=false):NoD (c::r):=λx s e=>by cases e;exact h
theorem aF0 {ss:List Int} {r:List Nat}:NoD (tl ss++93::r):=by
 cases ss with
 |nil=>exact lU rfl
 |cons s r=>exact lU rfl
theorem Kp.freeR {CR:Addr} {a q:Addr} {H H':Hp} {z:List Nat} {g:Nat} (k:Kp a H H') (R:gD CR H' a z g) (hq:H' q=none):H q=none:=by
 obtain⟨dx,e⟩:=R;cases h:H q with
 |none=>rfl
 |some o=>
  have:q≠a:=λz=>by rw [z,e]at hq;cases hq
  rw [k q o h this]at hq;cases hq
theorem aSm {CR:Addr} {H:Hp} {rd q:Addr} {z:List Nat} {g:Nat} {o:HO} (R:gD CR H rd z g) (h:H q=some o) (no:∀dx fs,o≠ .ins CR dx fs):q≠rd:=λe=>by
 obtain⟨dx,e2⟩:=R;rw [e,e2]at h;cases h;exact no _ _ rfl
theorem gD.new {CR:Addr} {H:Hp} {rd q:Addr} {z:List Nat} {g:Nat} {o:HO} (R:gD CR H rd z g) (h:q≠rd):gD CR (upd H q o) rd z g:=let⟨dx,e⟩:=R;⟨dx,by rw [aP (Di h)];exact e⟩
inductive aFt (N:Cn) (CR:Addr) (vs:List V) (H:Hp) (Q:VK) (z3_:XK):Prop
 |mk (rd:Addr) (z:List Nat) (g:Nat) (b:Int) (ss:List Int) (r:List Nat) (q0_:vs=[.ref rd]) (q1_:gD CR H rd z g) (q2_:z.length<=9000) (q3_:z.drop g=txt (.take b ss)++r) (q4_:wR (b,ss)) (q5_:1<=ss.length) (q6_:ss.length<=3) (q7_:∀(v':V) (H':Hp),Kp rd H H'->gD CR H' rd z (g+(txt (.take b ss)).length)->lA N H' (.take b ss) v'->Q v' H'):aFt N CR vs H Q z3_
def aC6 (N:Cn) (CR:Addr):Sp:=λvs H Q z3_=>aFt N CR vs H Q z3_
section
variable {P:Program} {w:World} {K:Ac} {mg:Str->Option Value} {base:Heap} {CR:Addr} {N:Cn}
theorem aAj:aL ["self","back","steps"] ["self"] (aC aCo):=⟨rfl,rfl,rfl,by decide+kernel,rfl,by decide+kernel,by decide+kernel⟩
theorem aKx {f:Addr} {fd:FuncData} (F:Fun K "read_take" "TermReader.read_take" aCo f fd) (D_ahead:DR P w K mg base 1 CR "ahead" ["self"] (lF CR)) (D_pass_by:DR P w K mg base 2 CR "pass_by" ["self","signs"] (qN CR)) (D_read_number:DR P w K mg base 4 CR "read_number" ["self"] (aCh CR)) (R_take:Mkr P w K mg base N.take "Take" ["self","back","steps"] (aDq K "back" "steps")) (c2:Cf K N.take ["back","steps"]) (T:Txt K mg):bB P w K mg base CX0 5 f fd ["self"] (aC6 N CR):=by
 refine F.ok aAj (λvs H Q E h=>?_) (λcdv A outer s H vs Q E hr h=>?_)
 ·obtain⟨rd,z,g,b,ss,r,rfl,_⟩:=h;rfl
 ·obtain⟨rd,z,g,b,ss,r,rfl,R,zl,hz,⟨b1,b3,bd⟩,l1,l3,q⟩:=h;obtain⟨_,g_MOST_STEPS_term_texts⟩:=T.mst2;simp only at b1 b3 bd;refine⟨_,(aJ (cX (cF (pv 0) D_pass_by (hr.mono (by omega)) bG (aM bU aZ))) (aJ (iB (i:=1) aAj.nd rfl (Bw rfl) (bJ (pv 0) D_read_number (hr.mono (by omega)) bG)) (aJ (cX (cF (pv 0) D_pass_by (hr.mono (by omega)) bG (aM bU aZ))) (aJ (iB (i:=2) aAj.nd rfl (Bw rfl) (aMz (aM (bJ (pv 0) D_read_number (hr.mono (by omega)) bG) aZ))) (aJ (uA Bf (PW.pt (aFw (cL oA (bJ (pv 0) D_ahead (hr.mono (by omega)) bG) bU (cZ _)) (aC7 (cL uK (gM aV (by rfl) T.len Lq (aM (pv 2) aZ)) (aDt rfl g_MOST_STEPS_term_texts) (cZ _))))) (aJ (cX (cF (pv 0) D_pass_by (hr.mono (by omega)) bG (aM bU aZ))) (aR (cX (aAh Ep Hl Hk oG (pv 2) (aM (bJ (pv 0) D_read_number (hr.mono (by omega)) bG) aZ)))))) (aJ (cX (cF (pv 0) D_pass_by (hr.mono (by omega)) bG (aM bU aZ))) (aR (cQ (sO R_take (hr.mono (by omega)) rfl bG (aM (pv 1) (aM (nZ sH rfl T.tuple Lm (aM (pv 2) aZ)) aZ))))))))))),?_⟩;obtain⟨s0,sr,rfl⟩:∃s0 sr,ss=s0::sr:=by
   cases ss with
   |nil=>simp at l1
   |cons a b=>exact⟨a,b,rfl⟩
  rw [yS]at hz q;have R':=R;obtain⟨dx,hp⟩:=R';have z0:z.drop g=[91]++(itx b++(tl (s0::sr)++(93::r))):=by rw [hz];simp
  refine⟨_,rfl,rd,CR,dx,_,rfl,hp,rfl,rfl,rd,z,[91],g,_,zX rfl,R,zl,by decide,z0,λH1 k1 R1=>?_⟩;have z1:=cO z0;obtain⟨dx1,hp1⟩:=id R1;refine⟨_,rfl,rd,CR,dx1,_,rfl,hp1,rfl,rfl,rd,z,_,b,_,rfl,R1,zl,z1,aF0,by omega,λH2 k2 R2=>?_⟩;have z2:=cO z1;obtain⟨dx2,hp2⟩:=id R2;refine⟨_,rfl,rd,CR,dx2,_,rfl,hp2,rfl,rfl,rd,z,[32],_,itx s0++(tl sr++93::r),zX rfl,R2,zl,by decide,by rw [z2];simp [tl],λH3 k3 R3=>?_⟩;have z3:z.drop (g+ [91].length+(itx b).length+ [32].length)=itx s0++(tl sr++93::r):=cO (w:=[32]) (by rw [z2];simp [tl]);obtain⟨dx3,hp3⟩:=id R3;have hs0:=tH (bd s0 Af);refine⟨_,rfl,rd,CR,dx3,_,rfl,hp3,rfl,rfl,rd,z,_,s0,_,rfl,R3,zl,z3,aF0,hs0,λH4 k4 R4=>?_⟩;have z4:=cO z3;have k04:=((k1.trans k2).trans k3).trans k4;refine⟨by show 1<=sizeLine;decide,λD nD=>?_⟩;have Dr:D≠rd:=λe=>by obtain⟨_,e4⟩:=id R4;rw [e,e4]at nD;cases nD
  have nH:=k04.freeR R4 nD;refine⟨λk σ H5=>∃(i p:Nat),k=sr.length-i/\i<=sr.length/\σ=[some (.ref rd),some (.int b),some (.ref D)]/\Kp rd H H5/\gD CR H5 rd z p/\H5 D=some (.lst ((s0::sr.take i).map V.int))/\z.drop p=tl (sr.drop i)++93::r/\p+(tl (sr.drop i)).length=g+1+(itx b).length+(tl (s0::sr)).length,⟨_,0,_,rfl,Bb _,rfl,k04.upd nH,R4.new Dr,aK,z4,?_⟩,?_⟩
  ·simp only [Gn,tl,Ag,Ah,Bd];omega
  rintro k σ H5 ⟨i,p,rfl,hi,rfl,k5,R5,hD,z5,hl⟩;obtain⟨dx5,hp5⟩:=id R5;refine⟨_,rfl,rd,CR,dx5,_,rfl,hp5,rfl,rfl,rd,z,p,rfl,R5,zl,rfl,_,rfl,?_⟩;by_cases lt:i<sr.length
  ·have ed:sr.drop i=sr[i]::sr.drop (i+1):=Bh lt;rw [ed,tl]at z5 hl;rw [take1 (c:=32) z5];refine kW (decide_eq_true (congrArg V.str (bL [32] rfl).symm)) ?_;have hs:=tH (bd sr[i] (Ae _ (Cp lt)));rw [Ag]at l3;refine⟨_,rfl,D,_,rfl,.inl (SqL.of hD),_,_,rfl,rfl,_,rfl,?_⟩;refine kW (decide_eq_true (by rw [Ab,Ag,Ce];show((min i sr.length+1:Nat):Int)<3;omega)) ?_;refine⟨λσ' H'=>∃m',m'<sr.length-i/\_,λ_ _ z=>z,?_⟩;have z5':z.drop p=[32]++(itx sr[i]++(tl (sr.drop (i+1))++93::r)):=by rw [z5];simp
   refine⟨_,rfl,rd,CR,dx5,_,rfl,hp5,rfl,rfl,rd,z,[32],p,_,zX rfl,R5,zl,by decide,z5',λH6 k6 R6=>?_⟩;have z6:=cO z5';obtain⟨dx6,hp6⟩:=id R6;have hD6:H6 D=some (.lst ((s0::sr.take i).map V.int)):=k6 _ _ hD Dr;refine⟨_,rfl,.inl ⟨rfl,_,SqL.of hD6⟩,_,rfl,rd,CR,dx6,_,rfl,hp6,rfl,rfl,rd,z,_,sr[i],_,rfl,R6,zl,z6,aF0,hs,λH7 k7 R7=>?_⟩;have z7:=cO z6;have hD7:H7 D=some (.lst ((s0::sr.take i).map V.int)):=k7 _ _ (k6 _ _ hD Dr) Dr;refine⟨D,_,_,rfl,rfl,hD7,small (by rw [Ab,Ag,Ce];omega),?_⟩;refine⟨sr.length-(i+1),by omega,i+1,_,rfl,lt,rfl,((k5.trans k6).trans k7).upd nH,R7.new Dr,?_,z7,?_⟩
   ·rw [aK];show some (HO.lst ((s0::sr.take i).map V.int++[V.int sr[i]]))=_;rw [Ji,Al lt, <-List.cons_append,Bc];rfl
   ·simp only [Ag,Ah,Bd]at hl⊢;omega
  ·have ei:i=sr.length:=by omega
   subst ei;rw [Gi (Am _)]at z5 hl;rw [take1 (c:=93) z5];refine fJ (decide_eq_false λx=>by have:=jH ((V.str.inj x).trans (bL [32] rfl));injection this with h1;omega) ?_;have z5':z.drop p=[93]++r:=z5;refine⟨_,rfl,rd,CR,dx5,_,rfl,hp5,rfl,rfl,rd,z,[93],p,_,zX rfl,R5,zl,by decide,z5',λH6 k6 R6=>?_⟩;have hD6:H6 D=some (.lst ((s0::sr).map V.int)):=by have:=k6 _ _ hD Dr;rw [Ig]at this;exact this
   refine⟨_,rfl,_,rfl,D,_,rfl,.inl ⟨SqL.of hD6,λu nu=>?_⟩⟩;generalize e:upd H6 u _=H7;obtain⟨s7,e7⟩:=aTs nu e;refineλx dx nx nd ne=>⟨x,N.take,dx,.int b,.ref u,rfl,aK,c2,rfl,?_⟩;have sN:eU H7 (upd (upd (upd (upd H7 dx (.own x)) x (.ins N.take dx [])) x (.ins N.take dx [("back",.int b)])) x (.ins N.take dx [("back",.int b),("steps",.ref u)])):=jM nx (aHe nx nd);refine q _ _ (((k5.trans k6).same s7).same sN) ?_ ⟨x,dx,_,rfl,aK,u,rfl,sN _ _ e7⟩;have:p+ [93].length=g+(91::(itx b++(tl (s0::sr)++[93]))).length:=by
    simp only [Ag,Ah,Bd,tl]at hl⊢;omega
   rw [<-this];exact(R6.same s7).same sN
theorem aTp {X:Cx} {K:Ac} {o e:Expr} {es:List Expr} {to:TE} {t:TA} {name:Str} {apos cpos:Pos} {T id:String} {r:V->List V->Hp->VK->Prop} (h:X.K=K) (pa:PlainAttrs T) (slot:Slot T name id) (hty:typeOf (.builtin id)=pure (.type "method_descriptor")) (hm:MtR X id r) (ho:PE X o to) (ha:PA X (e::es) t)
  (hbase:attributeBase o name X.env (eval o X.env)=eval o X.env:=by rfl)
  (hfew:((backTo cpos (starEach (e::es) X.env)).all (λx=> !x.1) && (backToKw cpos (keywordEach [] X.env)).all (λx=>x.1.isSome)
   && decide ((e::es).length+([]:List Keyword).length+(if([]:List Keyword).isEmpty then 0 else 1)<30))=true:=by rfl)
  (hline:(apos.endLine==cpos.line)=true:=by rfl) (hs:starEach (e::es) X.env=(false,eval e X.env)::starEach es X.env:=by rfl) (hplain:(backTo cpos (starEach es X.env)).any (·.1)=false:=by rfl):PE X (.Call (.Attribute o name apos) (e::es) [] cpos) (tBM K T r to t):=by
 subst h;exact aAh pa slot hty hm ho ha hbase hfew hline hs hplain
def wl:List (List Nat):=[[43],[45],[42],[109,105,110],[109,97,120],[114,101,115,116],[63]]
def Words (K:Ac) (aW:Addr):Prop:=∀H:Hp,SqT K H aW (wl.map λl=>V.str (tx l))
inductive aIk (CR:Addr) (vs:List V) (H:Hp) (Q:VK) (z3_:XK):Prop
 |mk (rd:Addr) (z:List Nat) (g:Nat) (x r:List Nat) (q0_:vs=[.ref rd]) (q1_:gD CR H rd z g) (q2_:z.length<=9000) (q3_:x∈wl) (q4_:z.drop g=x++r) (q5_:∀H',Kp rd H H'->gD CR H' rd z (g+x.length)->Q (.str (tx x)) H'):aIk CR vs H Q z3_
def aGi (CR:Addr):Sp:=λvs H Q z3_=>aIk CR vs H Q z3_
theorem aTw (x:List Nat) (ls:List (List Nat)):inV (.str (tx x)) (ls.map λl=>V.str (tx l))=decide (x∈ls):=by
 rw [Eo,decide_eq_true_iff];unfold inV;rw [Qh];constructor
 ·rintro⟨y,hy,e⟩;obtain⟨l,hl,rfl⟩:=List.mem_map.mp hy;have:tx l=tx x:=by simpa [eqV]using e
  rw [<-jH this];exact hl
 ·intro h;exact⟨_,List.mem_map.mpr ⟨x,h,rfl⟩,by simp [eqV]⟩
theorem aSu:∀x∈wl,∀k:Nat,k<x.length->x.take k∉wl:=by decide
theorem aTe:∀x∈wl,∀c∈x,c<128:=by decide
theorem aTm:∀x∈wl,x.length<=4:=by decide
abbrev aPv:List Str:=["self","begun","longer"]
theorem tY:aL ["self","begun","longer"] ["self"] (aC yJ):=⟨rfl,rfl,rfl,by decide+kernel,rfl,by decide+kernel,by decide+kernel⟩
theorem aQc {f aW:Addr} {fd:FuncData} (F:Fun K "read_word" "TermReader.read_word" yJ f fd) (D_ahead:DR P w K mg base 1 CR "ahead" ["self"] (lF CR)) (D_pass_by:DR P w K mg base 2 CR "pass_by" ["self","signs"] (qN CR)) (g_WORDS:mg "WORDS"=some (.ref aW)) (W_:Words K aW) (T:Txt K mg):bB P w K mg base CX0 3 f fd ["self"] (aGi CR):=by
 refine F.ok tY (λvs H Q E h=>?_) (λcdv A outer s H vs Q E hr h=>?_)
 ·obtain⟨rd,z,g,x,r,rfl,_⟩:=h;rfl
 ·obtain⟨rd,z,g,x,r,rfl,R,zl,hx,hz,q⟩:=h;refine⟨_,(aJ (iB (i:=1) tY.nd rfl (Bw rfl) bU) (aJ (uA Bf (cL aDg (pv 1) (aIp rfl g_WORDS) rfl) (aJ (iB (i:=2) tY.nd rfl (Cb rfl) (pQ aPu (pv 1) (bJ (pv 0) D_ahead (hr.mono (by omega)) bG))) (aJ (eQ (PW.pt (aRr (cL oA (pv 2) (pv 1) (cZ _)) (aNd (aCu (zW (gM aNf rfl T.any boot_any (aM (aRd (own:=["word"]) (cap:=[("longer",2)]) (g:=uB 0) (aC yJ) aPv rfl rfl (λx h=>bQ h) (by decide+kernel) rfl (aN2 (aIp rfl g_WORDS)) (λcl C s2 H2 fp=>(bO (i:=0) (show(["word","longer"]:List Str).Nodup by decide+kernel) rfl (Bw rfl) (Cb rfl))) (λcl C s2 H2 fp=>(aTp (K:=K) rfl Mc PySem.F.slot_str_startswith PySem.F.type_str_startswith aI7 (pv 0) (aM (pv 1) aZ)))) aZ))))))) (aR dO) bY) (aJ (cX (cF (pv 0) D_pass_by (hr.mono (by omega)) bG (aM (bJ (pv 0) D_ahead (hr.mono (by omega)) bG) aZ))) (aR (iB (i:=1) tY.nd rfl (Bw rfl) (pv 2))))))) (aR (cQ (pv 1))))),?_⟩;have xl:=aTm x hx;refine⟨λk σ H1=>∃i v2,k=x.length-i/\i<=x.length/\σ=[some (.ref rd),some (.str (tx (x.take i))),v2]/\Kp rd H H1/\gD CR H1 rd z (g+i),⟨_,0,_,rfl,Bb _,by rw [show As ""=tx []from bL [] rfl];rfl,Kp.of (eU.refl H),R⟩,?_⟩;rintro k σ H1 ⟨i,v2,rfl,hi,rfl,k1,R1⟩;obtain⟨dx1,hp1⟩:=id R1;refine⟨_,rfl,aW,_,rfl,.inr (W_ H1),rfl,rfl,_,rfl,?_⟩;rw [aTw];rcases Fy i x.length with lt|ge
  ·refine kW (by rw [decide_eq_false (aSu x hx i lt)];rfl) ?_;refine⟨λσ' H'=>∃m',m'<x.length-i/\_,λ_ _ z=>z,?_⟩;have hd:z.drop (g+i)=[x[i]]++(x.drop (i+1)++r):=by rw [<-Jk,hz,Gw hi,Bh lt];rfl
   have hc:=aTe x hx _ (Cp lt);have e1:x.take i++[x[i]]=x.take (i+1):=by rw [Ji,Al lt];rfl
   refine⟨_,rfl,_,rfl,rd,CR,dx1,_,rfl,hp1,rfl,rfl,rd,z,g+i,rfl,R1,zl,?_⟩;rw [take1 hd];refine aSx rfl rfl (by rw [Ce];show _+1<=9000;omega) ?_;rw [e1];refine⟨_,rfl,_,rfl,rfl,_,rfl,?_⟩;refine fJ (decide_eq_false λe=>?_) ?_
   ·have:=congrArg Cd (jH (V.str.inj e));rw [Ce,Ce]at this;omega
   have xt:(x.take (i+1)).length=i+1:=by rw [Ce];omega
   generalize ey:x.take (i+1)=y;rw [ey]at xt;refine⟨aW,rfl,⟨_,W_ H1⟩,λD hD=>?_⟩;refine aNl (K:=K) (a:=aW) (xs:=wl.map λl=>V.str (tx l)) (λj acc σ H3=>(∃v0,σ=[v0,some (.str (tx y))])/\eU H1 H3/\H3 D=some (.lst acc)/\acc=((wl.take j).map λl=>decide (l.take y.length=y)).map V.bl) ⟨⟨_,rfl⟩,sameNew hD,aK,rfl⟩ (λj acc σ H3 _ _=>W_ H3) ?_ ?_
   ·rintro j v acc σ H3 hj hv ⟨⟨v0,rfl⟩,s3,hD3,rfl⟩;obtain⟨l,rfl,hl⟩:=aDm hv;refine⟨_,rfl,rfl,_,rfl,l,y,rfl,rfl,?_⟩;refine aXv hD3 (small (by rw [Ab,Ab,Ce];have:wl.length=7:=rfl;omega)) hj ⟨⟨_,rfl⟩,jM hD s3,aK,?_⟩;rw [Ji,hl,Bc,Bc];rfl
   ·rintro acc σ H3 ⟨_,s3,hD3,rfl⟩;rw [Ab,Ig]at hD3;refine⟨D,_,rfl,SqL.of hD3,rfl,?_⟩;have an:(wl.map λl=>decide (l.take y.length=y)).any id=true:=by
     rw [Qh];exact⟨_,List.mem_map.mpr ⟨x,hx,rfl⟩,by rw [xt,ey];simp⟩
    rw [an];refine⟨_,rfl,?_⟩;refine pX ?_;have R3:=R1.same s3;obtain⟨dx3,hp3⟩:=id R3;refine⟨_,rfl,rd,CR,dx3,_,rfl,hp3,rfl,rfl,_,rfl,rd,CR,dx3,_,rfl,hp3,rfl,rfl,rd,z,g+i,rfl,R3,zl,?_⟩;rw [take1 hd];refine⟨rd,z,[x[i]],g+i,_,rfl,R3,zl,λc hc'=>by rw [List.mem_singleton.mp hc'];exact hc,hd,λH4 k4 R4=>?_⟩;refine⟨_,rfl,x.length-(i+1),by omega,i+1,some (.str (tx y)),rfl,lt,?_,(k1.same s3).trans k4,R4⟩;rw [ey];rfl
  ·have ei:i=x.length:=by omega
   subst ei;rw [Ig];refine fJ (by rw [decide_eq_true hx];rfl) ?_;exact⟨_,rfl,q H1 k1 R1⟩
end
end KR
namespace KR
open PySem PyProof.Rows L2
def spl:Tm->Option (Tm×List Nat×List Nat)
 | .rest t y=>some (t,[114,101,115,116],itx y)
 | .cho a b c=>some (a,[63],txt b++([32,58,32]++txt c))
 | .bin k a b=>some (a,sgn (opn k),txt b)
 |_=>none
theorem aIj:∀{t a:Tm} {x y:List Nat},spl t=some (a,x,y)->txt t=40::(txt a++(32::(x++(32::(y++[41])))))
 | .rest t y,_,_,_,h=>by cases h;simp [txt]
 | .cho a b c,_,_,_,h=>by cases h;simp [txt]
 | .bin k a b,_,_,_,h=>by cases h;simp [txt]
theorem aLv (k:Fin 5):sgn (opn k)∈wl/\sgn (opn k)≠[114,101,115,116]/\sgn (opn k)≠[63]:=by
 match k with
 |0=>decide
 |1=>decide
 |2=>decide
 |3=>decide
 |4=>decide
theorem aU5:∀{t a:Tm} {x y:List Nat},spl t=some (a,x,y)->x∈wl/\a∈kids t
 | .rest t y,_,_,_,h=>by cases h;exact⟨by decide,by simp [kids]⟩
 | .cho a b c,_,_,_,h=>by cases h;exact⟨by decide,by simp [kids]⟩
 | .bin k a b,_,_,_,h=>by cases h;exact⟨(aLv k).1,by simp [kids]⟩
def aEn (N:Cn) (CR:Addr):Prop:=∀t:Tm,cls N t≠CR
theorem tM {N:Cn} {CR:Addr} {H H':Hp} {rd p dx:Addr} {z:List Nat} {g:Nat} {t:Tm} {fs:List (Str×V)} (n:aEn N CR) (R:gD CR H rd z g) (k:Kp rd H H') (h:H p=some (.ins (cls N t) dx fs)):H' p=some (.ins (cls N t) dx fs):=k _ _ h (aSm R h λ_ _ e=>by injection e with e1;exact n t e1)
theorem jU.kp {N:Cn} {CR:Addr} {H H':Hp} {rd:Addr} {z:List Nat} {g:Nat} (n:aEn N CR) (R:gD CR H rd z g) (s:Kp rd H H'):∀{t:Tm} {fs:List (Str×V)},jU N H fs t->jU N H' fs t
 | .num _,_,h=>h
 | .take _ _,_,⟨q,e,h⟩=>⟨q,e,s _ _ h (aSm R h λ_ _ e=>by cases e)⟩
 | .rest _ _,_,⟨p,dx,gs,e,h,h2⟩=>⟨p,dx,gs,e,tM n R s h,h2.kp n R s⟩
 | .cho _ _ _,_,⟨p,dp,ps,q,dq,qs,r,dr,rs,e,⟨h1,g1⟩,⟨h2,g2⟩,h3,g3⟩=>⟨p,dp,ps,q,dq,qs,r,dr,rs,e,⟨tM n R s h1,g1.kp n R s⟩,⟨tM n R s h2,g2.kp n R s⟩,tM n R s h3,g3.kp n R s⟩
 | .bin _ _ _,_,⟨p,dp,ps,q,dq,qs,e,⟨h1,g1⟩,h2,g2⟩=>⟨p,dp,ps,q,dq,qs,e,⟨tM n R s h1,g1.kp n R s⟩,tM n R s h2,g2.kp n R s⟩
theorem lA.kp {N:Cn} {CR:Addr} {H H':Hp} {rd:Addr} {z:List Nat} {g:Nat} (n:aEn N CR) (R:gD CR H rd z g) (s:Kp rd H H') {t:Tm} {v:V} (h:lA N H t v):lA N H' t v:=let⟨p,dx,fs,e,h1,h2⟩:=h;⟨p,dx,fs,e,tM n R s h1,h2.kp n R s⟩
inductive aB8 (N:Cn) (vs:List V) (H:Hp) (Q:VK) (z3_:XK):Prop
 |mk (k:Fin 5) (a b:Tm) (va vb:V) (q0_:vs=[.str (opn k),va,vb]) (q1_:lA N H a va) (q2_:lA N H b vb) (q3_:∀(v':V) (H':Hp),eU H H'->lA N H' (.bin k a b) v'->Q v' H'):aB8 N vs H Q z3_
def zM (N:Cn):Sp:=λvs H Q z3_=>aB8 N vs H Q z3_
inductive aA9 (N:Cn) (CR:Addr) (d:Nat) (vs:List V) (H:Hp) (Q:VK) (z3_:XK):Prop
 |mk (rd:Addr) (z:List Nat) (g:Nat) (t a:Tm) (x y r:List Nat) (va:V) (wi:Nat) (q0_:vs=[.ref rd,va,.str (tx x),aAx wi]) (q1_:gD CR H rd z g) (q2_:z.length<=9000) (q3_:spl t=some (a,x,y)) (q4_:z.drop g=y++(41::r)) (q5_:lA N H a va) (q6_:ht t<=d+1) (q7_:wi+d<=12) (q8_:lB t) (q9_:∀(v':V) (H':Hp),Kp rd H H'->gD CR H' rd z (g+y.length)->lA N H' t v'->Q v' H'):aA9 N CR d vs H Q z3_
def aFo (N:Cn) (CR:Addr) (d:Nat):Sp:=λvs H Q z3_=>aA9 N CR d vs H Q z3_
inductive aHm (N:Cn) (CR:Addr) (d:Nat) (vs:List V) (H:Hp) (Q:VK) (z3_:XK):Prop
 |mk (rd:Addr) (z:List Nat) (g:Nat) (t:Tm) (r:List Nat) (wi:Nat) (q0_:vs=[.ref rd,aAx wi]) (q1_:gD CR H rd z g) (q2_:z.length<=9000) (q3_:z.drop g=txt t++r) (q4_:NoD r) (q5_:ht t<=d) (q6_:wi+d<=12) (q7_:lB t) (q8_:∀(v':V) (H':Hp),Kp rd H H'->gD CR H' rd z (g+(txt t).length)->lA N H' t v'->Q v' H'):aHm N CR d vs H Q z3_
def zU (N:Cn) (CR:Addr) (d:Nat):Sp:=λvs H Q z3_=>aHm N CR d vs H Q z3_
inductive aAe (N:Cn) (CR:Addr) (d:Nat) (vs:List V) (H:Hp) (Q:VK) (z3_:XK):Prop
 |mk (rd:Addr) (z:List Nat) (g:Nat) (t a:Tm) (x y r:List Nat) (wi:Nat) (q0_:vs=[.ref rd,aAx wi]) (q1_:gD CR H rd z g) (q2_:z.length<=9000) (q3_:spl t=some (a,x,y)) (q4_:z.drop g=txt t++r) (q5_:ht t<=d+1) (q6_:wi+d+1<=12) (q7_:lB t) (q8_:∀(v':V) (H':Hp),Kp rd H H'->gD CR H' rd z (g+(txt t).length)->lA N H' t v'->Q v' H'):aAe N CR d vs H Q z3_
def aBl (N:Cn) (CR:Addr) (d:Nat):Sp:=λvs H Q z3_=>aAe N CR d vs H Q z3_
structure aFf (P:Program) (w:World) (K:Ac) (mg:Str->Option Value) (base:Heap) (N:Cn):Prop where
 num:Mkr P w K mg base N.num "Number" ["self","value"] (aVm K "value")
 take:Mkr P w K mg base N.take "Take" ["self","back","steps"] (aDq K "back" "steps")
 rest:Mkr P w K mg base N.rest "Rest" ["self","one","by"] (aDq K "one" "by")
 cho:Mkr P w K mg base N.cho "Chosen" ["self","test","one","other"] (aWl K "test" "one" "other")
 bin:∀k,Mkr P w K mg base (N.bin k) (bnm k) ["self","one","other"] (aDq K "one" "other")
 c1:Cf K N.num ["value"]
 c2:Cf K N.take ["back","steps"]
 c3:Cf K N.rest ["one","by"]
 c4:Cf K N.cho ["test","one","other"]
 c5:∀k,Cf K (N.bin k) ["one","other"]
section
variable {P:Program} {w:World} {K:Ac} {mg:Str->Option Value} {base:Heap} {CR:Addr} {N:Cn}
theorem aU1:aL ["word","one","other"] ["word","one","other"] (aC aNh):=⟨rfl,rfl,rfl,by decide+kernel,rfl,by decide+kernel,by decide+kernel⟩
theorem aJc {f:Addr} {fd:FuncData} (F:Fun K "pair_by" "pair_by" aNh f fd) (M:aFf P w K mg base N):bB P w K mg base CX0 3 f fd ["word","one","other"] (zM N):=by
 refine F.ok aU1 (λvs H Q E h=>?_) (λcdv A outer s H vs Q E hr h=>?_)
 ·obtain⟨k,a,b,va,vb,rfl,_⟩:=h;rfl
 ·obtain⟨k,a,b,va,vb,rfl,ta,tb,q⟩:=h;have R_bin:=M.bin;refine⟨_,(aJ (eQ (cL oA (pv 0) bU (cZ _)) (aR (cQ (sO (R_bin 0) (hr.mono (by omega)) rfl bG (aM (pv 1) (aM (pv 2) aZ))))) bY) (aJ (eQ (cL oA (pv 0) bU (cZ _)) (aR (cQ (sO (R_bin 1) (hr.mono (by omega)) rfl bG (aM (pv 1) (aM (pv 2) aZ))))) bY) (aJ (eQ (cL oA (pv 0) bU (cZ _)) (aR (cQ (sO (R_bin 2) (hr.mono (by omega)) rfl bG (aM (pv 1) (aM (pv 2) aZ))))) bY) (aJ (eQ (cL oA (pv 0) bU (cZ _)) (aR (cQ (sO (R_bin 3) (hr.mono (by omega)) rfl bG (aM (pv 1) (aM (pv 2) aZ))))) bY) (aR (cQ (sO (R_bin 4) (hr.mono (by omega)) rfl bG (aM (pv 1) (aM (pv 2) aZ))))))))),?_⟩;match k,q with
  |0,q=>
   refine⟨_,rfl,rfl,_,rfl,kW (decide_eq_true rfl) ?_⟩;exact⟨_,rfl,_,rfl,qD (M.c5 0) ta tb (eU.refl H) q⟩
  |1,q=>
   refine⟨_,rfl,rfl,_,rfl,fJ sF ?_⟩;refine⟨_,rfl,rfl,_,rfl,kW (decide_eq_true rfl) ?_⟩;exact⟨_,rfl,_,rfl,qD (M.c5 1) ta tb (eU.refl H) q⟩
  |2,q=>
   refine⟨_,rfl,rfl,_,rfl,fJ sF ?_⟩;refine⟨_,rfl,rfl,_,rfl,fJ sF ?_⟩;refine⟨_,rfl,rfl,_,rfl,kW (decide_eq_true rfl) ?_⟩;exact⟨_,rfl,_,rfl,qD (M.c5 2) ta tb (eU.refl H) q⟩
  |3,q=>
   refine⟨_,rfl,rfl,_,rfl,fJ sF ?_⟩;refine⟨_,rfl,rfl,_,rfl,fJ sF ?_⟩;refine⟨_,rfl,rfl,_,rfl,fJ sF ?_⟩;refine⟨_,rfl,rfl,_,rfl,kW (decide_eq_true rfl) ?_⟩;exact⟨_,rfl,_,rfl,qD (M.c5 3) ta tb (eU.refl H) q⟩
  |4,q=>
   refine⟨_,rfl,rfl,_,rfl,fJ sF ?_⟩;refine⟨_,rfl,rfl,_,rfl,fJ sF ?_⟩;refine⟨_,rfl,rfl,_,rfl,fJ sF ?_⟩;refine⟨_,rfl,rfl,_,rfl,fJ sF ?_⟩;exact⟨_,rfl,_,rfl,qD (M.c5 4) ta tb (eU.refl H) q⟩
theorem zA:aL ["self","one","word","within","other"] ["self","one","word","within"] (aC rR):=⟨rfl,rfl,rfl,by decide+kernel,rfl,by decide+kernel,by decide+kernel⟩
theorem aJt {f:Addr} {fd:FuncData} {d:Nat} (F:Fun K "read_behind" "TermReader.read_behind" rR f fd) (n:aEn N CR) (M:aFf P w K mg base N) (D_pass_by:DR P w K mg base 2 CR "pass_by" ["self","signs"] (qN CR)) (D_read_figures:DR P w K mg base 3 CR "read_figures" ["self"] (aC2 CR)) (D_read_part:DR P w K mg base (3*d+3) CR "read_part" ["self","within"] (zU N CR d)) (c_pairBy:Cal P w K mg base CX0 3 "pair_by" ["word","one","other"] (zM N)):bB P w K mg base CX0 (3*d+4) f fd ["self","one","word","within"] (aFo N CR d):=by
 refine F.ok zA (λvs H Q E h=>?_) (λcdv A outer s H vs Q E hr h=>?_)
 ·obtain⟨rd,z,g,t,a,x,y,r,va,wi,rfl,_⟩:=h;rfl
 ·obtain⟨rd,z,g,t,a,x,y,r,va,wi,rfl,R,zl,sp,hz,ta,hd,hw,ok,q⟩:=h;have R_rest:=M.rest;have R_cho:=M.cho;obtain⟨dx,hp⟩:=id R;refine⟨_,(aJ (eQ (cL oA (pv 2) bU (cZ _)) (aR (cQ (sO R_rest (hr.mono (by omega)) rfl bG (aM (pv 1) (aM (bJ (pv 0) D_read_figures (hr.mono (by omega)) bG) aZ))))) bY) (aJ (iB (i:=4) zA.nd rfl (Bw rfl) (cF (pv 0) D_read_part (hr.mono (by omega)) bG (aM (pv 3) aZ))) (aJ (eQ (cL oA (pv 2) bU (cZ _)) (aJ (cX (cF (pv 0) D_pass_by (hr.mono (by omega)) bG (aM bU aZ))) (aR (cQ (sO R_cho (hr.mono (by omega)) rfl bG (aM (pv 1) (aM (pv 4) (aM (cF (pv 0) D_read_part (hr.mono (by omega)) bG (aM (pv 3) aZ)) aZ))))))) bY) (aR (cQ (aT7 c_pairBy (hr.mono (by omega)) rfl bG (aM (pv 2) (aM (pv 1) (aM (pv 4) aZ))))))))),?_⟩;cases t with
  |num _=>cases sp
  |take _ _=>cases sp
  |rest t1 yy=>
   cases sp;refine⟨_,rfl,rfl,_,rfl,kW (decide_eq_true (congrArg V.str (bL [114,101,115,116] rfl).symm)) ?_⟩;have y1:=ok.1.1;have y2:=ok.1.2.1;obtain⟨m,rfl⟩:∃m:Nat,yy=(m:Int):=⟨yy.toNat,by omega⟩;rw [xW]at hz q;refine⟨_,rfl,_,rfl,rd,CR,dx,_,rfl,hp,rfl,rfl,rd,z,g,m,_,rfl,R,zl,hz,lU rfl,by omega,λH1 k1 R1=>?_⟩;obtain⟨p1,d1,f1,rfl,h1,g1⟩:=ta.kp n R k1;refineλx dx nx nd ne=>⟨x,N.rest,dx,.ref p1,_,rfl,aK,M.c3,rfl,?_⟩;have sN:eU H1 (upd (upd (upd (upd H1 dx (.own x)) x (.ins N.rest dx [])) x (.ins N.rest dx [("one",.ref p1)])) x (.ins N.rest dx [("one",.ref p1),("by",.int (m:Int))])):=jM nx (aHe nx nd);exact q _ _ (k1.same sN) (R1.same sN) ⟨x,dx,_,rfl,aK,p1,d1,f1,rfl,sN _ _ h1,g1.same sN⟩
  |cho t1 t2 t3=>
   cases sp;have h2':ht t2+1<=ht (.cho a t2 t3):=Kf (zG (by simp [kids]));have h3':ht t3+1<=ht (.cho a t2 t3):=Kf (zG (by simp [kids]));have o2:lB t2:=ok.kid (t:= .cho a t2 t3) (by simp [kids]);have o3:lB t3:=ok.kid (t:= .cho a t2 t3) (by simp [kids]);refine⟨_,rfl,rfl,_,rfl,fJ (decide_eq_false λe=>by have:=jH ((V.str.inj e).trans (bL [114,101,115,116] rfl));cases this) ?_⟩;have hz0:z.drop g=txt t2++(32::(58::(32::(txt t3++41::r)))):=by rw [hz];simp
   refine⟨_,rfl,rd,CR,dx,_,rfl,hp,rfl,rfl,_,rfl,rd,z,g,t2,_,wi,rfl,R,zl,hz0,lU rfl,by omega,hw,o2,λv2 H2 k2 R2 u2=>?_⟩;have hz1:z.drop (g+(txt t2).length)=[32,58,32]++(txt t3++41::r):=cO hz0;have hz2:=cO hz1;obtain⟨dx2,hp2⟩:=id R2;refine⟨_,rfl,rfl,_,rfl,kW (decide_eq_true (congrArg V.str (bL [63] rfl).symm)) ?_⟩;refine⟨_,rfl,rd,CR,dx2,_,rfl,hp2,rfl,rfl,rd,z,[32,58,32],_,_,zX rfl,R2,zl,by decide,hz1,λH3 k3 R3=>?_⟩;obtain⟨dx3,hp3⟩:=id R3;refine⟨_,rfl,_,rfl,_,rfl,rd,CR,dx3,_,rfl,hp3,rfl,rfl,_,rfl,rd,z,_,t3,_,wi,rfl,R3,zl,hz2,lU rfl,by omega,hw,o3,λv3 H4 k4 R4 u3=>?_⟩;obtain⟨p1,d1,f1,rfl,h1,g1⟩:=((ta.kp n R k2).kp n R2 k3).kp n R3 k4;obtain⟨p2,d2,f2,rfl,h2,g2⟩:=(u2.kp n R2 k3).kp n R3 k4;obtain⟨p3,d3,f3,rfl,h3,g3⟩:=u3;refineλx dx nx nd ne=>⟨x,N.cho,dx,.ref p1,.ref p2,.ref p3,rfl,aK,M.c4,rfl,?_⟩;have sN:eU H4 (upd (upd (upd (upd (upd H4 dx (.own x)) x (.ins N.cho dx [])) x (.ins N.cho dx [("test",.ref p1)])) x (.ins N.cho dx [("test",.ref p1),("one",.ref p2)])) x (.ins N.cho dx [("test",.ref p1),("one",.ref p2),("other",.ref p3)])):=jM nx (jM nx (aHe nx nd));refine q _ _ (((k2.trans k3).trans k4).same sN) ?_ ⟨x,dx,_,rfl,aK,p1,d1,f1,p2,d2,f2,p3,d3,f3,rfl,⟨sN _ _ h1,g1.same sN⟩,⟨sN _ _ h2,g2.same sN⟩,sN _ _ h3,g3.same sN⟩;have e2:g+(txt t2++(([32,58,32]:List Nat)++txt t3)).length=g+(txt t2).length+([32,58,32]:List Nat).length+(txt t3).length:=by simp only [Ah];omega
   rw [e2];exact R4.same sN
  |bin k t1 t2=>
   cases sp;have h2':ht t2+1<=ht (.bin k a t2):=Kf (zG (by simp [kids]));have o2:lB t2:=ok.kid (t:= .bin k a t2) (by simp [kids]);obtain⟨_,n1,n2⟩:=aLv k;refine⟨_,rfl,rfl,_,rfl,fJ (decide_eq_false λe=>n1 (jH ((V.str.inj e).trans (bL [114,101,115,116] rfl)))) ?_⟩;refine⟨_,rfl,rd,CR,dx,_,rfl,hp,rfl,rfl,_,rfl,rd,z,g,t2,_,wi,rfl,R,zl,hz,lU rfl,by omega,hw,o2,λv2 H2 k2 R2 u2=>?_⟩;refine⟨_,rfl,rfl,_,rfl,fJ (decide_eq_false λe=>n2 (jH ((V.str.inj e).trans (bL [63] rfl)))) ?_⟩;refine⟨_,rfl,_,rfl,_,rfl,k,a,t2,va,v2,congrArg (λs=>[V.str s,va,v2]) (aFd (opn k)).symm,ta.kp n R k2,u2,λv' H' s' u'=>?_⟩;exact q v' H' (k2.same s') (R2.same s') u'
theorem rQ:aL ["self","within","one","word","term"] ["self","within"] (aC uI):=⟨rfl,rfl,rfl,by decide+kernel,rfl,by decide+kernel,by decide+kernel⟩
theorem aL4 {f:Addr} {fd:FuncData} {d:Nat} (F:Fun K "read_bracket" "TermReader.read_bracket" uI f fd) (n:aEn N CR) (D_pass_by:DR P w K mg base 2 CR "pass_by" ["self","signs"] (qN CR)) (D_read_word:DR P w K mg base 3 CR "read_word" ["self"] (aGi CR)) (D_read_part:DR P w K mg base (3*d+3) CR "read_part" ["self","within"] (zU N CR d)) (D_read_behind:DR P w K mg base (3*d+4) CR "read_behind" ["self","one","word","within"] (aFo N CR d)) (T:Txt K mg):bB P w K mg base CX0 (3*d+5) f fd ["self","within"] (aBl N CR d):=by
 refine F.ok rQ (λvs H Q E h=>?_) (λcdv A outer s H vs Q E hr h=>?_)
 ·obtain⟨rd,z,g,t,a,x,y,r,wi,rfl,_⟩:=h;rfl
 ·obtain⟨rd,z,g,t,a,x,y,r,wi,rfl,R,zl,sp,hz,hd,hw,ok,q⟩:=h;obtain⟨dx,hp⟩:=id R;obtain⟨_,g_MOST_WITHIN⟩:=T.mwi;have tt:=aIj sp;obtain⟨xw,ak⟩:=aU5 sp;have ha:=zG ak;have oa:=ok.kid ak;refine⟨_,(aJ (eQ (cL oA (pv 1) (aDt rfl g_MOST_WITHIN) (cZ _)) (aR dO) bY) (aJ (cX (cF (pv 0) D_pass_by (hr.mono (by omega)) bG (aM bU aZ))) (aJ (iB (i:=2) rQ.nd rfl (Bw rfl) (cF (pv 0) D_read_part (hr.mono (by omega)) bG (aM (pQ tE (pv 1) dI) aZ))) (aJ (cX (cF (pv 0) D_pass_by (hr.mono (by omega)) bG (aM bU aZ))) (aJ (iB (i:=3) rQ.nd rfl (Bw rfl) (bJ (pv 0) D_read_word (hr.mono (by omega)) bG)) (aJ (cX (cF (pv 0) D_pass_by (hr.mono (by omega)) bG (aM bU aZ))) (aJ (iB (i:=4) rQ.nd rfl (Bw rfl) (cF (pv 0) D_read_behind (hr.mono (by omega)) bG (aM (pv 2) (aM (pv 3) (aM (pQ tE (pv 1) dI) aZ))))) (aJ (cX (cF (pv 0) D_pass_by (hr.mono (by omega)) bG (aM bU aZ))) (aR (cQ (pv 4))))))))))),?_⟩;refine⟨_,rfl,rfl,_,rfl,fJ (decide_eq_false λe=>by have:(wi:Int)=12:=V.int.inj e;omega) ?_⟩;have z0:z.drop g=[40]++(txt a++(32::(x++(32::(y++41::r))))):=by rw [hz,tt];simp
  refine⟨_,rfl,rd,CR,dx,_,rfl,hp,rfl,rfl,rd,z,[40],g,_,zX rfl,R,zl,by decide,z0,λH1 k1 R1=>?_⟩;have z1:=cO z0;obtain⟨dx1,hp1⟩:=id R1;refine⟨_,rfl,rd,CR,dx1,_,rfl,hp1,rfl,rfl,_,rfl,_,_,rfl,rfl,rd,z,_,a,_,wi+1,rfl,R1,zl,z1,lU rfl,by omega,by omega,oa,λva H2 k2 R2 u2=>?_⟩;have z2:z.drop (g+ [40].length+(txt a).length)=[32]++(x++(32::(y++41::r))):=cO z1;obtain⟨dx2,hp2⟩:=id R2;refine⟨_,rfl,rd,CR,dx2,_,rfl,hp2,rfl,rfl,rd,z,[32],_,_,zX rfl,R2,zl,by decide,z2,λH3 k3 R3=>?_⟩;have z3:=cO z2;obtain⟨dx3,hp3⟩:=id R3;refine⟨_,rfl,rd,CR,dx3,_,rfl,hp3,rfl,rfl,rd,z,_,x,_,rfl,R3,zl,xw,z3,λH4 k4 R4=>?_⟩;have z4:=cO z3;have z4:z.drop (g+ [40].length+(txt a).length+ [32].length+x.length)=[32]++(y++41::r):=z4;obtain⟨dx4,hp4⟩:=id R4;refine⟨_,rfl,rd,CR,dx4,_,rfl,hp4,rfl,rfl,rd,z,[32],_,_,zX rfl,R4,zl,by decide,z4,λH5 k5 R5=>?_⟩;have z5:=cO z4;obtain⟨dx5,hp5⟩:=id R5;have u5:=((u2.kp n R2 k3).kp n R3 k4).kp n R4 k5;refine⟨_,rfl,rd,CR,dx5,_,rfl,hp5,rfl,rfl,_,rfl,_,rfl,_,rfl,_,_,rfl,rfl,rd,z,_,t,a,x,y,r,va,wi+1,rfl,R5,zl,sp,z5,u5,hd,by omega,ok,λv' H6 k6 R6 u6=>?_⟩;have z6:z.drop (g+ [40].length+(txt a).length+ [32].length+x.length+ [32].length+y.length)=[41]++r:=cO z5;obtain⟨dx6,hp6⟩:=id R6;refine⟨_,rfl,rd,CR,dx6,_,rfl,hp6,rfl,rfl,rd,z,[41],_,_,zX rfl,R6,zl,by decide,z6,λH7 k7 R7=>?_⟩;refine⟨_,rfl,?_⟩;refine q v' H7 ((((((k1.trans k2).trans k3).trans k4).trans k5).trans k6).trans k7) ?_ (u6.kp n R6 k7);have e:g+(txt t).length=g+([40]:List Nat).length+(txt a).length+([32]:List Nat).length+x.length+([32]:List Nat).length+y.length+([41]:List Nat).length:=by
   rw [tt];simp only [Ag,Ah,Bd];omega
  rw [e];exact R7
theorem aNr:aL ["self","within"] ["self","within"] (aC yC):=⟨rfl,rfl,rfl,by decide+kernel,rfl,by decide+kernel,by decide+kernel⟩
theorem aPs {f:Addr} {fd:FuncData} {d:Nat} (F:Fun K "read_part" "TermReader.read_part" yC f fd) (M:aFf P w K mg base N) (D_ahead:DR P w K mg base 1 CR "ahead" ["self"] (lF CR)) (D_read_number:DR P w K mg base 4 CR "read_number" ["self"] (aCh CR)) (D_read_take:DR P w K mg base 5 CR "read_take" ["self"] (aC6 N CR)) (D_read_bracket:DR P w K mg base (3*d+5) CR "read_bracket" ["self","within"] (aBl N CR d)):bB P w K mg base CX0 (3*d+6) f fd ["self","within"] (zU N CR (d+1)):=by
 refine F.ok aNr (λvs H Q E h=>?_) (λcdv A outer s H vs Q E hr h=>?_)
 ·obtain⟨rd,z,g,t,r,wi,rfl,_⟩:=h;rfl
 ·obtain⟨rd,z,g,t,r,wi,rfl,R,zl,hz,nd,hd,hw,ok,q⟩:=h;obtain⟨dx,hp⟩:=id R;have R_num:=M.num;refine⟨_,(aJ (eQ (cL oA (bJ (pv 0) D_ahead (hr.mono (by omega)) bG) bU (cZ _)) (aR (cQ (cF (pv 0) D_read_bracket (hr.mono (by omega)) bG (aM (pv 1) aZ)))) bY) (aJ (eQ (cL oA (bJ (pv 0) D_ahead (hr.mono (by omega)) bG) bU (cZ _)) (aR (cQ (bJ (pv 0) D_read_take (hr.mono (by omega)) bG))) bY) (aR (cQ (sO R_num (hr.mono (by omega)) rfl bG (aM (bJ (pv 0) D_read_number (hr.mono (by omega)) bG) aZ)))))),?_⟩;refine⟨_,rfl,rd,CR,dx,_,rfl,hp,rfl,rfl,rd,z,g,rfl,R,zl,rfl,_,rfl,?_⟩;cases hs:spl t with
  |some w3=>
   obtain⟨a,x,y⟩:=w3;rw [take1 (c:=40) (r:=txt a++(32::(x++(32::(y++41::r))))) (by rw [hz,aIj hs];simp)];refine kW (decide_eq_true (congrArg V.str (bL [40] rfl).symm)) ?_;exact⟨_,rfl,rd,CR,dx,_,rfl,hp,rfl,rfl,_,rfl,rd,z,g,t,a,x,y,r,wi,rfl,R,zl,hs,hz,hd,hw,ok,λv' H1 k1 R1 u1=>q v' H1 k1 R1 u1⟩
  |none=>
   cases t with
   |rest _ _=>cases hs
   |cho _ _ _=>cases hs
   |bin _ _ _=>cases hs
   |take b ss=>
    obtain⟨g1,l1,l3⟩:=ok.2 (b,ss) Af;rw [take1 (c:=91) (r:=itx b++(tl ss++93::r)) (by rw [hz,yS];simp)];refine fJ (decide_eq_false λx=>by have:=jH ((V.str.inj x).trans (bL [40] rfl));injection this with h1;omega) ?_;refine⟨_,rfl,rd,CR,dx,_,rfl,hp,rfl,rfl,rd,z,g,rfl,R,zl,rfl,_,rfl,?_⟩;rw [take1 (c:=91) (r:=itx b++(tl ss++93::r)) (by rw [hz,yS];simp)];refine kW (decide_eq_true (congrArg V.str (bL [91] rfl).symm)) ?_;exact⟨_,rfl,rd,CR,dx,_,rfl,hp,rfl,rfl,rd,z,g,b,ss,r,rfl,R,zl,hz,g1,l1,l3,λv' H1 k1 R1 u1=>q v' H1 k1 R1 u1⟩
   |num m=>
    have h1:=ok.1;have hz:z.drop g=itx m++r:=hz;obtain⟨ch,rs,ec,hc⟩:∃c rs,itx m=c::rs/\c≠40/\c≠91:=by
     cases m with
     |ofNat k=>
      rw [show Rf k=(k:Int)from rfl,xW];rcases Ew k with h0|h0
      ·exact⟨48,[],by rw [h0,xZ],by omega,by omega⟩
      ·obtain⟨c,r,e,h1,h2⟩:=vK k h0;exact⟨c,r,e,by omega,by omega⟩
     |negSucc k=>exact⟨45,_,aCt k,by omega,by omega⟩
    rw [take1 (c:=ch) (r:=rs++r) (by rw [hz,ec];rfl)];refine fJ (decide_eq_false λx=>by have:=jH ((V.str.inj x).trans (bL [40] rfl));injection this with h1;exact hc.1 h1) ?_;refine⟨_,rfl,rd,CR,dx,_,rfl,hp,rfl,rfl,rd,z,g,rfl,R,zl,rfl,_,rfl,?_⟩;rw [take1 (c:=ch) (r:=rs++r) (by rw [hz,ec];rfl)];refine fJ (decide_eq_false λx=>by have:=jH ((V.str.inj x).trans (bL [91] rfl));injection this with h1;exact hc.2 h1) ?_;refine⟨_,rfl,rd,CR,dx,_,rfl,hp,rfl,rfl,rd,z,g,m,r,rfl,R,zl,hz,nd,by simp only [Wf]at h1;omega,λH1 k1 R1=>?_⟩;refineλx dx nx nd ne=>⟨x,N.num,dx,.int m,rfl,aK,M.c1,rfl,?_⟩;exact q _ _ (k1.same (aHe nx nd)) (R1.same (aHe nx nd)) ⟨x,dx,_,rfl,aK,rfl⟩
end
end KR
namespace KR
open PySem PyProof.Rows L2
inductive aSl (K:Ac) (vs:List V) (H:Hp) (Q:VK) (z3_:XK):Prop
 |mk (p C dx:Addr) (x:V) (q0_:vs=[.ref p,x]) (q1_:H p=some (.ins C dx [])) (q2_:Cf K C FR) (q3_:Q .non (upd (upd H p (.ins C dx [("text",x)])) p (.ins C dx [("text",x),("gone",aAx 0)]))):aSl K vs H Q z3_
def aT4 (K:Ac):Sp:=λvs H Q z3_=>aSl K vs H Q z3_
inductive zP (N:Cn) (vs:List V) (H:Hp) (Q:VK) (z3_:XK):Prop
 |mk (t:Tm) (q0_:vs=[.str (tx (txt t))]) (q1_:ht t<=8) (q2_:lB t) (q3_:dD t<=40) (q4_:∀(v':V) (H':Hp),eU H H'->lA N H' t v'->Q v' H'):zP N vs H Q z3_
def aBh (N:Cn):Sp:=λvs H Q z3_=>zP N vs H Q z3_
section
variable {P:Program} {w:World} {K:Ac} {mg:Str->Option Value} {base:Heap} {CR:Addr} {N:Cn}
theorem aM1:aL ["self","text"] ["self","text"] (aC aDd):=⟨rfl,rfl,rfl,by decide+kernel,rfl,by decide+kernel,by decide+kernel⟩
theorem aKh {f:Addr} {fd:FuncData} (F:Fun K "__init__" "TermReader.__init__" aDd f fd):bB P w K mg base CX0 1 f fd ["self","text"] (aT4 K):=by
 refine F.ok aM1 (λvs H Q E h=>?_) (λcdv A outer s H vs Q E hr h=>?_)
 ·obtain⟨p,C,dx,x,rfl,_⟩:=h;rfl
 ·obtain⟨p,C,dx,x,rfl,hp,c,q⟩:=h;refine⟨_,(aJ (dF (pv 0) (pv 1) rfl) (aR (dF (pv 0) dI rfl))),?_⟩;refine⟨_,rfl,_,rfl,p,C,dx,_,rfl,hp,c.cl,c.na _ (by simp),by decide,?_⟩;exact⟨_,rfl,p,C,dx,_,rfl,aK,c.cl,c.na _ (by simp),by show(1:Nat)<1000;decide,q⟩
theorem vU:aL ["text","reader","term"] ["text"] (aC yV):=⟨rfl,rfl,rfl,by decide+kernel,rfl,by decide+kernel,by decide+kernel⟩
theorem aGg {f:Addr} {fd:FuncData} (F:Fun K "read_written" "read_written" yV f fd) (R_rd:Mkr P w K mg base CR "TermReader" ["self","text"] (aT4 K)) (c:Cf K CR FR) (n:aEn N CR) (D_read_part:DR P w K mg base 27 CR "read_part" ["self","within"] (zU N CR 8)) (T:Txt K mg):bB P w K mg base CX0 28 f fd ["text"] (aBh N):=by
 refine F.ok vU (λvs H Q E h=>?_) (λcdv A outer s H vs Q E hr h=>?_)
 ·obtain⟨t,rfl,_⟩:=h;rfl
 ·obtain⟨t,rfl,hd,ok,pr,q⟩:=h;have tl:=mG ok;refine⟨_,(aJ (eQ (aCu (zW (gM wW rfl T.isinstance Uw (aM (pv 0) (aM (aV8 rfl T.str Mu) aZ))))) (aR dO) bY) (aJ (iB (i:=1) vU.nd rfl (Bw rfl) (sO R_rd (hr.mono (by omega)) rfl bG (aM (pv 0) aZ))) (aJ (iB (i:=2) vU.nd rfl (Bw rfl) (cF (pv 1) D_read_part (hr.mono (by omega)) bG (aM dI aZ))) (aJ (eQ (cL aHr (lM (pv 1) rfl) (gM aCz (by rfl) T.len Lq (aM (pv 0) aZ)) (cZ _)) (aR dO) bY) (aR (cQ (pv 2))))))),?_⟩;refine⟨_,rfl,_,"str",_,true,rfl,.str _,rfl,_,rfl,?_⟩;refine pX ?_;refine⟨_,rfl,λx dx nx nd ne=>⟨x,CR,dx,_,rfl,aK,c,rfl,?_⟩⟩;have sN:eU H (upd (upd (upd (upd H dx (.own x)) x (.ins CR dx [])) x (.ins CR dx [("text",.str (tx (txt t)))])) x (.ins CR dx [("text",.str (tx (txt t))),("gone",aAx 0)])):=jM nx (aHe nx nd);revert sN;generalize eH:upd (upd (upd (upd H dx (.own x)) x (.ins CR dx [])) x (.ins CR dx [("text",.str (tx (txt t)))])) x (.ins CR dx [("text",.str (tx (txt t))),("gone",aAx 0)])=H1;intro sN;have hp1:H1 x=some (.ins CR dx [("text",.str (tx (txt t))),("gone",aAx 0)]):=by rw [<-eH];exact aK
  refine⟨_,rfl,x,CR,dx,_,rfl,hp1,rfl,rfl,x,txt t,0,t,[],0,rfl,⟨dx,hp1⟩,by omega,by simp,(λ_ _ e=>by cases e),hd,by omega,ok,λv' H2 k2 R2 u2=>?_⟩;obtain⟨dx2,hp2⟩:=id R2;have s02:eU H H2:=λb o e=>k2 b o (sN b o e) λz=>by rw [z,nx]at e;cases e
  refine⟨_,rfl,x,CR,dx2,_,_,rfl,hp2,c.cl,c.na _ (by simp),rfl,_,rfl,_,rfl,aIy (by rw [gC];omega),?_⟩;refine⟨rfl,_,rfl,?_⟩;rw [gC,Jc];refine aL1 rfl ?_;exact⟨_,rfl,q v' H2 s02 u2⟩
end
end KR
namespace Q
open PySem PyProof.Rows L2 KR
def enc (N:Cn):Tm->U
 | .num n=> .ob N.num ["value"] [.n n]
 | .take b ss=> .ob N.take ["back","steps"] [.n b,.tp (ss.map U.n)]
 | .rest t y=> .ob N.rest ["one","by"] [enc N t,.n y]
 | .cho a b c=> .ob N.cho ["test","one","other"] [enc N a,enc N b,enc N c]
 | .bin k a b=> .ob (N.bin k) ["one","other"] [enc N a,enc N b]
theorem aBe {W B:Addr->Prop} {H:Hp} {p:Addr} {o:HO} (e:EB W B H) (h:H p=some o) (n:¬Mt o):¬B p:=λz=>by
 obtain⟨xs,q,m⟩:=e.bl p z;rw [h]at q;cases q;exact n m
theorem tQ {W B:Addr->Prop} {H:Hp} {N:Cn} (e:EB W B H):∀{t:Tm} {p dx:Addr} {fs:List (Str×V)},H p=some (.ins (cls N t) dx fs)->jU N H fs t->DU W B H (enc N t) (.ref p)
 | .num n,p,dx,fs,h,hf=>by
  obtain rfl:=hf;exact⟨p,dx,[.int n],rfl,aBe e h id,h,rfl,_,_,rfl,⟨rfl,rfl⟩,rfl⟩
 | .take b ss,p,dx,fs,h,hf=>by
  obtain⟨q,rfl,hq⟩:=hf;exact⟨p,dx,[.int b,.ref q],rfl,aBe e h id,h,rfl,_,_,rfl,⟨rfl,rfl⟩,_,_,rfl,⟨q,_,rfl,aBe e hq id,hq,DUs.mapInts⟩,rfl⟩
 | .rest t y,p,dx,fs,h,hf=>by
  obtain⟨q,dq,gs,rfl,hq,f⟩:=hf;exact⟨p,dx,[.ref q,.int y],rfl,aBe e h id,h,rfl,_,_,rfl,tQ e hq f,_,_,rfl,⟨rfl,rfl⟩,rfl⟩
 | .cho a b c,p,dx,fs,h,hf=>by
  obtain⟨q1,d1,g1,q2,d2,g2,q3,d3,g3,rfl,⟨h1,f1⟩,⟨h2,f2⟩,h3,f3⟩:=hf;exact⟨p,dx,[.ref q1,.ref q2,.ref q3],rfl,aBe e h id,h,rfl,_,_,rfl,tQ e h1 f1,_,_,rfl,tQ e h2 f2,_,_,rfl,tQ e h3 f3,rfl⟩
 | .bin k a b,p,dx,fs,h,hf=>by
  obtain⟨q1,d1,g1,q2,d2,g2,rfl,⟨h1,f1⟩,h2,f2⟩:=hf;exact⟨p,dx,[.ref q1,.ref q2],rfl,aBe e h id,h,rfl,_,_,rfl,tQ e h1 f1,_,_,rfl,tQ e h2 f2,rfl⟩
theorem aS3 {W B:Addr->Prop} {H:Hp} {N:Cn} {t:Tm} {v:V} (e:EB W B H) (h:lA N H t v):DU W B H (enc N t) v:=by
 obtain⟨p,dx,fs,rfl,h1,h2⟩:=h;exact tQ e h1 h2
theorem fO {N:Cn} {m:Str} {F:Addr->Fv} {G:TVa} {ρ:EV} {R:Sl->Prop} (t:Tm) (h1:(["value","back","steps","one","by","test","other"]:List Str).elem m=false) (h:G ρ λvs=>F (cls N t) (enc N t::vs) R):mOb (IsC N) m F G ρ R (enc N t):=by
 have hc:=isC N t;have k:∀ns:List Str,(∀x∈ns,x∈(["value","back","steps","one","by","test","other"]:List Str))->ns.elem m=false:=λns hn=>by
  cases q:ns.elem m with
  |false=>rfl
  |true=>
   have:=hn m (List.elem_iff.mp q);rw [List.elem_iff.mpr this]at h1;cases h1
 cases t with
 |num n=>exact⟨hc,k _ (by simp),h⟩
 |take b ss=>exact⟨hc,k _ (by simp),h⟩
 |rest t y=>exact⟨hc,k _ (by simp),h⟩
 |cho a b c=>exact⟨hc,k _ (by simp),h⟩
 |bin j a b=>exact⟨hc,k _ (by simp),h⟩
def jD (N:Cn) (C:Addr):Fv:=λus R=>∃t,us=[enc N t]/\cls N t=C/\R (.ow ((kids t).map (enc N)))
section
variable {P:Program} {w:World} {K:Ac} {mg:Str->Option Value} {base:Heap} {f C:Addr} {fd:FuncData} {N:Cn}
theorem aA0:aL ["self"] ["self"] (aC lH):=⟨rfl,rfl,rfl,by decide+kernel,rfl,by decide+kernel,by decide+kernel⟩
theorem aCd (F:Fun K "inner" "Term.inner" lH f fd) (hC:∀t,cls N t=C->kids t=[]):bB P w K mg base CX0 1 f fd ["self"] (spV (jD N C)):=by
 refine vfn F aA0 (λcdv A outer s H E hr=>(aG (aY (cB aH)))) ?_;rintro _ R ⟨t,rfl,e,q⟩;rw [hC t e]at q;exact⟨rfl,q⟩
theorem xO:aL ["self"] ["self"] (aC iR):=⟨rfl,rfl,rfl,by decide+kernel,rfl,by decide+kernel,by decide+kernel⟩
theorem aJq {k:Fin 5} (F:Fun K "inner" "Paired.inner" iR f fd) (cP:Cfl K (N.bin k) ["one","other"]) (hC:∀t,cls N t=N.bin k->∃a b,t= .bin k a b):bB P w K mg base CX0 1 f fd ["self"] (spV (jD N (N.bin k))):=by
 refine vfn F xO (λcdv A outer s H E hr=>(aG (aY (cB (aB (dC cP (aA 0)) (aB (dC cP (aA 0)) aH)))))) ?_;rintro _ R ⟨t,rfl,e,q⟩;obtain⟨a,b,rfl⟩:=hC t e;exact⟨rfl,rfl,.inl ⟨rfl,rfl,.inr ⟨by decide+kernel,.inl ⟨rfl,q⟩⟩⟩⟩
theorem aAy:aL ["self"] ["self"] (aC lD):=⟨rfl,rfl,rfl,by decide+kernel,rfl,by decide+kernel,by decide+kernel⟩
theorem aJf (F:Fun K "inner" "Rest.inner" lD f fd) (cP:Cfl K N.rest ["one","by"]) (hC:∀t,cls N t=N.rest->∃a y,t= .rest a y):bB P w K mg base CX0 1 f fd ["self"] (spV (jD N N.rest)):=by
 refine vfn F aAy (λcdv A outer s H E hr=>(aG (aY (cB (aB (dC cP (aA 0)) aH))))) ?_;rintro _ R ⟨t,rfl,e,q⟩;obtain⟨a,b,rfl⟩:=hC t e;exact⟨rfl,rfl,.inl ⟨rfl,q⟩⟩
theorem xQ:aL ["self"] ["self"] (aC iY):=⟨rfl,rfl,rfl,by decide+kernel,rfl,by decide+kernel,by decide+kernel⟩
theorem aJw (F:Fun K "inner" "Chosen.inner" iY f fd) (cP:Cfl K N.cho ["test","one","other"]) (hC:∀t,cls N t=N.cho->∃a b c,t= .cho a b c):bB P w K mg base CX0 1 f fd ["self"] (spV (jD N N.cho)):=by
 refine vfn F xQ (λcdv A outer s H E hr=>(aG (aY (cB (aB (dC cP (aA 0)) (aB (dC cP (aA 0)) (aB (dC cP (aA 0)) aH))))))) ?_;rintro _ R ⟨t,rfl,e,q⟩;obtain⟨a,b,c,rfl⟩:=hC t e;exact⟨rfl,rfl,.inl ⟨rfl,rfl,.inr ⟨by decide+kernel,.inl ⟨rfl,rfl,.inr ⟨by decide+kernel,.inr ⟨by decide+kernel,.inl ⟨rfl,q⟩⟩⟩⟩⟩⟩⟩
end
end Q
namespace Q
open PySem PyProof.Rows L2 KR
theorem aBi {l:List Tk} (h:l.Pairwise λx y=>lQ x y=true):l.Nodup:=h.imp λ{x y} h z=>by
 subst z;rw [aB4 h]at h;cases h
def Few (t:Tm):Prop:=∃ks:List Tk,ks.length<18/\∀x∈raw t,x∈ks
theorem yO {t:Tm} {l:List Tk} (f:Few t) (h:rE t l):l.length<=17:=by
 obtain⟨ks,kl,km⟩:=f;have:=(aBi h.1).length_le_of_subset (l₂:=ks) λx hx=>km x ((h.2 x).mp hx);omega
theorem aMx:∀{t:Tm},(∀b ss,t≠ .take b ss)->∀x,x∈raw t↔ ∃k∈kids t,x∈raw k
 | .num _,_,x=>by simp [raw,kids]
 | .take b ss,h,x=>(h b ss rfl).elim
 | .rest t _,_,x=>by simp [raw,kids]
 | .cho a b c,_,x=>by simp [raw,kids]
 | .bin _ a b,_,x=>by simp [raw,kids]
theorem xT (t:Tm) {d:Nat} (h:ht t<=d+1):∀k∈kids t,ht k<=d:=λk hk=>by have:=zG hk;omega
def rG (N:Cn) (d:Nat) (C:Addr):Fv:=λus R=>∃t,us=[enc N t]/\cls N t=C/\ht t<=d/\Few t/\∀ys,rE t ys->R (.ow (ys.map tkU))
abbrev jZ (P:Program) (w:World) (K:Ac) (mg:Str->Option Value) (base:Heap) (N:Cn) (k:Nat) (m:Str) (F:Addr->Fv):Prop:=Dis P w K mg base CX0 k (IsC N) m ["self"] λC=>spV (F C)
section
variable {P:Program} {w:World} {K:Ac} {mg:Str->Option Value} {base:Heap} {f C:Addr} {fd:FuncData} {N:Cn} {d:Nat}
theorem mR:aL ["self","pairs","part"] ["self"] (aC lG):=⟨rfl,rfl,rfl,by decide+kernel,rfl,by decide+kernel,by decide+kernel⟩
theorem aJr (F:Fun K "takes" "Term.takes" lG f fd) (hC:∀t,cls N t=C->∀b ss,t≠ .take b ss) (D_inner:jZ P w K mg base N 1 "inner" (jD N)) (D_takes:jZ P w K mg base N (d+1) "takes" (rG N d)) (T:Txt mg):bB P w K mg base CX0 (d+2) f fd ["self"] (spV (rG N (d+1) C)):=by
 refine vfn F mR (λcdv A outer s H E hr=>(aD (bF (i:=1) mR.nd (cB aH)) (aD (eY Bf rfl (cH (cA (aA 0) D_inner (hr.mono (by omega)))) (dX (i:=2) mR.nd) (aG (aLo 1 (cA (aA 2) D_takes (hr.mono (by omega)))))) (aG (aY (aCw hr rfl T.sorted T.set (aN (aA 1) aX))))))) ?_;rintro _ R ⟨t,rfl,e,hd,fw,q⟩;refine⟨rfl,fO t (by decide+kernel) ⟨t,rfl,rfl,?_⟩⟩;refine cD (λl ρ=>∃(ks js:List Tm) (ps:List Tk) (x:Sl),l=ks.map (enc N)/\js++ks=kids t/\ρ=[.sh (enc N t),.ow (ps.map tkU),x]/\ps.length<=17*js.length/\∀y,y∈ps↔ ∃k∈js,y∈raw k) ?_ ?_ ⟨kids t,[],[],_,rfl,rfl,rfl,Am _,by simp⟩
 ·rintro ρ ⟨ks,js,ps,x,el,ej,rfl,pl,pm⟩;obtain rfl:=List.map_eq_nil_iff.mp el.symm;rw [Bo]at ej;subst ej;have kl:=xV t;obtain⟨zs,zl,zm⟩:=fw;have rk:=aMx (hC t e);exact⟨ps,zs,rfl,by omega,zl,λy hy=>zm y ((rk y).mpr ((pm y).mp hy)),λys pw ym=>q ys ⟨pw,λy=>(ym y).trans ((pm y).trans (rk y).symm)⟩⟩
 ·rintro u r ρ ⟨ks,js,ps,x,el,ej,rfl,pl,pm⟩ ih;obtain⟨k,ks,rfl,rfl,rfl⟩:=List.map_eq_cons_iff.mp el.symm;have hk:k∈kids t:=by rw [<-ej];simp
  have fk:Few k:=let⟨zs,zl,zm⟩:=fw;⟨zs,zl,λy hy=>zm y (aH4 hk y hy)⟩;refine fO k (by decide+kernel) ⟨k,rfl,rfl,xT t hd k hk,fk,λys ik=>?_⟩;have yl:=yO fk ik;have kl:=xV t;have jl:js.length+(ks.length+1)<=3:=by rw [<-ej,Ah,Ag]at kl;exact kl
  refine⟨by rw [Ab,Ab];omega,ih _ ⟨ks,js++[k],ps++ys,_,rfl,by rw [Bj];exact ej,by rw [Bc];rfl,by rw [Ah,Ah];show _<=17*(js.length+1);omega,λy=>?_⟩⟩;rw [Gd,pm y,ik.2 y];constructor
  ·rintro(⟨j,hj,hy⟩|hy)
   ·exact⟨j,Fl _ hj,hy⟩
   ·exact⟨k,by simp,hy⟩
  ·rintro⟨j,hj,hy⟩;rcases List.mem_append.mp hj with hj|hj
   ·exact .inl ⟨j,hj,hy⟩
   ·rw [List.mem_singleton.mp hj]at hy;exact .inr hy
theorem aAv:aL ["self"] ["self"] (aC lE):=⟨rfl,rfl,rfl,by decide+kernel,rfl,by decide+kernel,by decide+kernel⟩
theorem aJv (F:Fun K "takes" "Take.takes" lE f fd) (cK:Cfl K N.take ["back","steps"]) (hC:∀t,cls N t=N.take->∃b ss,t= .take b ss):bB P w K mg base CX0 (d+2) f fd ["self"] (spV (rG N (d+1) N.take)):=by
 refine vfn F aAv (λcdv A outer s H E hr=>(aG (aY (cB (aB (cW (aB (dC cK (aA 0)) (aB (dC cK (aA 0)) aH))) aH))))) ?_;rintro _ R ⟨t,rfl,e,hd,fw,q⟩;obtain⟨b,ss,rfl⟩:=hC t e;exact⟨rfl,rfl,.inl ⟨rfl,rfl,.inr ⟨by decide+kernel,.inl ⟨rfl,q [(b,ss)] ⟨Mw ..,λ_=>Np⟩⟩⟩⟩⟩
def aD4 (N:Cn) (g:Tm->Nat) (d:Nat) (C:Addr):Fv:=λus R=>∃t,us=[enc N t]/\cls N t=C/\ht t<=d/\dD t<=200/\R (.sh (.n (g t)))
theorem aAf:∀{t k:Tm},k∈kids t->dD k<=dD t
 | .rest t _,k,h=>by rw [List.mem_singleton.mp h,dD];omega
 | .cho a b c,k,h=>by
  simp only [kids,Bi,Be,or_false]at h;rw [dD];rcases h with rfl|rfl|rfl<;>omega
 | .bin _ a b,k,h=>by
  simp only [kids,Bi,Be,or_false]at h;rw [dD];rcases h with rfl|rfl<;>omega
theorem aK0 (t:Tm):∀m:Int,(kids t=[]/\m=0)∨(m∈(kids t).map (λk=>(ht k:Int))/\∀a∈(kids t).map (λk=>(ht k:Int)),a<=m)->1+m=(ht t:Int):=by
 intro m h;cases t with
 |num n=>rcases h with ⟨_,h⟩|⟨h,_⟩<;>simp [kids,ht]at h⊢;omega
 |take b ss=>rcases h with ⟨_,h⟩|⟨h,_⟩<;>simp [kids,ht]at h⊢;omega
 |rest t y=>rcases h with ⟨h,_⟩|⟨h,_⟩<;>simp [kids,ht]at h⊢;omega
 |cho a b c=>rcases h with ⟨h,_⟩|⟨h,g⟩<;>simp [kids,ht]at h⊢;simp [kids]at g;omega
 |bin k a b=>rcases h with ⟨h,_⟩|⟨h,g⟩<;>simp [kids,ht]at h⊢;simp [kids]at g;omega
theorem aK3 (t:Tm):1+((kids t).map (λk=>(dD k:Int))).sum=(dD t:Int):=by
 cases t<;>simp [kids,dD]<;>omega
theorem ints_map {g:Tm->Nat} (ks:List Tm):ks.map (λk=>U.n (g k))=(ks.map λk=>(g k:Int)).map U.n:=by rw [Bl];rfl
theorem aEh {g:Tm->Nat} {t:Tm} {h:U->(Option U->Prop)->Prop} {R:List U->Prop} (hf:∀k∈kids t,∀c:Option U->Prop,c (some (.n (g k)))->h (enc N k) c) (q:R (((kids t).map λk=>(g k:Int)).map U.n)):iI h ((kids t).map (enc N)) [] R:=by
 rw [<-ints_map]at q;revert hf q;generalize kids t=ks;have key:∀(ks:List Tm) (acc:List U),(∀k∈ks,∀c:Option U->Prop,c (some (.n (g k)))->h (enc N k) c)->R (acc++ks.map λk=>U.n (g k))->iI h (ks.map (enc N)) acc R:=by
  intro ks;induction ks with
  |nil=>exactλacc _ q=>by rw [Du,Bo]at q;exact q
  |cons k ks ih=>exactλacc hf q=>hf k Af _ (ih _ (λj hj=>hf j (Ae _ hj)) (by rw [Bj];exact q))
 exactλhf q=>key ks [] hf q
abbrev aC4:List Str:=["self"]
theorem aAu:aL ["self"] ["self"] (aC iZ):=⟨rfl,rfl,rfl,by decide+kernel,rfl,by decide+kernel,by decide+kernel⟩
theorem aKg (F:Fun K "depth" "Term.depth" iZ f fd) (D_inner:jZ P w K mg base N 1 "inner" (jD N)) (D_depth:jZ P w K mg base N (d+1) "depth" (aD4 N ht d)) (T:Txt mg):bB P w K mg base CX0 (d+2) f fd ["self"] (spV (aD4 N ht (d+1) C)):=by
 refine vfn F aAu (λcdv A outer s H E hr=>(aG (aY (aU bA bM aF (aIz rfl T.max (aN (lK (own:=["part"]) (cap:=[]) (aC iZ) aC4 rfl rfl (λx h=>bQ h) (by decide+kernel) rfl (vic (cH (cA (aA 0) D_inner (hr.mono (by omega))))) (λcl C s2 H2 fp=>(bO (i:=0) (show(["part"]:List Str).Nodup by decide+kernel) rfl (Bw rfl) (Cb rfl))) (dB (by decide)) (λcl C s2 H2 fp=>(cA (aA 0) D_depth (hr.mono (by omega))))) aX) aF))))) ?_;rintro _ R ⟨t,rfl,e,hd,hp,q⟩;refine⟨rfl,fO t (by decide+kernel) ⟨t,rfl,rfl,?_⟩⟩;refine⟨by have:=xV t;rw [Ab];omega,aEh (g:=ht) (λk hk c hc=>fO k (by decide+kernel) ⟨k,rfl,rfl,xT t hd k hk,by have:=aAf hk;omega,hc⟩) ?_⟩;refine⟨_,rfl,λh=>?_,λm hm ha=>?_⟩
 ·have:=aK0 t 0 (.inl ⟨List.map_eq_nil_iff.mp h,rfl⟩);rw [<-this]at q;exact q
 ·have:=aK0 t m (.inr ⟨hm,ha⟩);rw [<-this]at q;exact q
abbrev aC3:List Str:=["self"]
theorem aA6:aL ["self"] ["self"] (aC iM):=⟨rfl,rfl,rfl,by decide+kernel,rfl,by decide+kernel,by decide+kernel⟩
theorem aJn (F:Fun K "parts" "Term.parts" iM f fd) (D_inner:jZ P w K mg base N 1 "inner" (jD N)) (D_parts:jZ P w K mg base N (d+1) "parts" (aD4 N dD d)) (T:Txt mg):bB P w K mg base CX0 (d+2) f fd ["self"] (spV (aD4 N dD (d+1) C)):=by
 refine vfn F aA6 (λcdv A outer s H E hr=>(aG (aY (aU bA bM aF (bI (aO5 rfl) aUa T.sum boot_sum (aN (lK (own:=["part"]) (cap:=[]) (aC iM) aC3 rfl rfl (λx h=>bQ h) (by decide+kernel) rfl (vic (cH (cA (aA 0) D_inner (hr.mono (by omega))))) (λcl C s2 H2 fp=>(bO (i:=0) (show(["part"]:List Str).Nodup by decide+kernel) rfl (Bw rfl) (Cb rfl))) (dB (by decide)) (λcl C s2 H2 fp=>(cA (aA 0) D_parts (hr.mono (by omega))))) aX)))))) ?_;rintro _ R ⟨t,rfl,e,hd,hp,q⟩;have kl:=xV t;refine⟨rfl,fO t (by decide+kernel) ⟨t,rfl,rfl,?_⟩⟩;refine⟨by rw [Ab];omega,aEh (g:=dD) (λk hk c hc=>fO k (by decide+kernel) ⟨k,rfl,rfl,xT t hd k hk,by have:=aAf hk;omega,hc⟩) ?_⟩;refine⟨_,rfl,by rw [Ab];omega,λn hn=>?_,?_⟩
 ·obtain⟨k,hk,rfl⟩:=List.mem_map.mp hn;have:=aAf hk;omega
 ·have:=aK3 t;rw [<-this]at q;exact q
end
end Q
namespace Q
open PySem PyProof.Rows L2 KR
section
variable {P:Program} {w:World} {K:Ac} {mg:Str->Option Value} {base:Heap} {f C:Addr} {fd:FuncData} {N:Cn} {d:Nat}
def aHh:Fv:=λus R=>∃ss:List Int,us=[.tp (ss.map U.n)]/\1<=ss.length/\ss.length<=3/\(∀s∈ss, -9<=s/\s<=9)/\R (.sh (.b true))
abbrev aFp:List Str:=["thing"]
theorem aDw:aL ["thing"] ["thing"] (aC mO):=⟨rfl,rfl,rfl,by decide+kernel,rfl,by decide+kernel,by decide+kernel⟩
theorem aO2 (F:Fun K "are_steps" "are_steps" mO f fd) (c_is_within:Cal P w K mg base CX0 2 "is_within" PW3 (spV jP)) (T:Txt mg):bB P w K mg base CX0 3 f fd ["thing"] (spV aHh):=by
 obtain⟨_,g_MOST_STEPS_terms⟩:=T.c_MOST_STEPS_terms;obtain⟨_,g_GREATEST_STEP⟩:=T.c_GREATEST_STEP;refine vfn F aDw (λcdv A outer s H E hr=>(aD (cU (uF (wQ (gJ (gW (qI .tp nofun T.isinstance T.tuple Lm (aA 0)))) (qY (gJ (uO uV uV cC cC aF (bI aV dM T.len Ee (aN (aA 0) aX)) (dG g_MOST_STEPS_terms)))))) (aG (aY vI)) bK) (aG (aY (bI aAr (aG2 rfl) T.all boot_all (aN (lK (own:=["step"]) (cap:=[]) (aC mO) aFp rfl rfl (λx h=>bQ h) (by decide+kernel) rfl (vic (aKq (aA 0))) (λcl C s2 H2 fp=>(bO (i:=0) (show(["step"]:List Str).Nodup by decide+kernel) rfl (Bw rfl) (Cb rfl))) (dB (by decide)) (λcl C s2 H2 fp=>(aO c_is_within (hr.mono (by decide)) rfl (aB (aA 0) (aB (aNa (dG g_GREATEST_STEP)) (aB (dG g_GREATEST_STEP) aH)))))) aX)))))) ?_;rintro _ R ⟨ss,rfl,l1,l3,hs,q⟩;have e1:(ss.map U.n).length=ss.length:=Ab ..;refine⟨rfl,_,rfl,nofun,λ_=>⟨λ_=>⟨λh=>?_,λ_=>?_⟩,λh=>?_⟩⟩
 ·simp at h;omega
 ·refine⟨by omega,fH (h:=λ_=> .b true) (λu hu k hk=>?_) ?_⟩
  ·obtain⟨s,hs',rfl⟩:=List.mem_map.mp hu;have:=hs s hs';refine⟨_,_,_,_,rfl,rfl,?_⟩;show k (some (.b (isIn (.n s) (-9) 9)));rw [show isIn (.n s) (-9) 9=true by simp [isIn,this.1,this.2]];exact hk
  ·refine⟨ss.map λ_=>true,by rw [Bl,Bl];rfl,?_⟩;exact Rbl q (by simp)
 ·simp at h;omega
def pY (N:Cn) (C:Addr):Fv:=λus R=>∃t,us=[enc N t]/\cls N t=C/\lB t/\R (.sh .no)
theorem uG:aL ["self"] ["self"] (aC fU):=⟨rfl,rfl,rfl,by decide+kernel,rfl,by decide+kernel,by decide+kernel⟩
theorem aB6 (F:Fun K "own_fault" "Term.own_fault" fU f fd):bB P w K mg base CX0 4 f fd ["self"] (spV (pY N C)):=by
 refine bB.mono (vfn F uG (λcdv A outer s H E (hr:dN 0 _)=>(aG (aY pB))) ?_) (by decide);rintro _ R ⟨t,rfl,e,ok,q⟩;exact⟨rfl,q⟩
theorem rT:aL ["self"] ["self"] (aC dZ):=⟨rfl,rfl,rfl,by decide+kernel,rfl,by decide+kernel,by decide+kernel⟩
theorem aJ4 (F:Fun K "own_fault" "Number.own_fault" dZ f fd) (cN:Cfl K N.num ["value"]) (hC:∀t,cls N t=N.num->∃n,t= .num n) (c_is_within:Cal P w K mg base CX0 2 "is_within" PW3 (spV jP)) (T:Txt mg):bB P w K mg base CX0 4 f fd ["self"] (spV (pY N N.num)):=by
 obtain⟨_,g_GREATEST_NUMBER⟩:=T.c_GREATEST_NUMBER;refine vfn F rT (λcdv A outer s H E hr=>(aD (cU (gW (aO c_is_within (hr.mono (by decide)) rfl (aB (dC cN (aA 0)) (aB (aNa (dG g_GREATEST_NUMBER)) (aB (dG g_GREATEST_NUMBER) aH))))) (aG (aY pB)) bK) (aG (aY bN)))) ?_;rintro _ R ⟨t,rfl,e,ok,q⟩;obtain⟨n,rfl⟩:=hC t e;have h:=ok.1;simp only [Wf]at h;refine⟨rfl,rfl,.inl ⟨rfl,_,_,_,_,rfl,rfl,λ_=>q,λz=>?_⟩⟩;simp [isIn,h.1,h.2]at z
theorem vM:aL ["self"] ["self"] (aC fX):=⟨rfl,rfl,rfl,by decide+kernel,rfl,by decide+kernel,by decide+kernel⟩
theorem aJ8 (F:Fun K "own_fault" "Take.own_fault" fX f fd) (cK:Cfl K N.take ["back","steps"]) (hC:∀t,cls N t=N.take->∃b ss,t= .take b ss) (c_is_within:Cal P w K mg base CX0 2 "is_within" PW3 (spV jP)) (c_are_steps:Cal P w K mg base CX0 3 "are_steps" ["thing"] (spV aHh)) (T:Txt mg):bB P w K mg base CX0 4 f fd ["self"] (spV (pY N N.take)):=by
 obtain⟨_,g_GREATEST_BACK⟩:=T.c_GREATEST_BACK;refine vfn F vM (λcdv A outer s H E hr=>(aD (cU (gJ (gW (aO c_is_within (hr.mono (by decide)) rfl (aB (dC cK (aA 0)) (aB aF (aB (dG g_GREATEST_BACK) aH)))))) (aG (aY bN)) bK) (aD (cU (gJ (gW (aO c_are_steps (hr.mono (by decide)) rfl (aB (dC cK (aA 0)) aH)))) (aG (aY bN)) bK) (aG (aY pB))))) ?_;rintro _ R ⟨t,rfl,e,ok,q⟩;obtain⟨b,ss,rfl⟩:=hC t e;obtain⟨⟨h1,h2,h3⟩,h4,h5⟩:=ok.2 (b,ss) Af;refine⟨rfl,rfl,.inl ⟨rfl,_,_,_,_,rfl,rfl,λz=>?_,λ_=>?_⟩⟩
 ·simp only at h1 h2;simp [isIn,h1,h2]at z
 ·exact⟨rfl,.inr ⟨by decide+kernel,.inl ⟨rfl,ss,rfl,h4,h5,h3,nofun,λ_=>q⟩⟩⟩
theorem vD:aL ["self"] ["self"] (aC fZ):=⟨rfl,rfl,rfl,by decide+kernel,rfl,by decide+kernel,by decide+kernel⟩
theorem aKa (F:Fun K "own_fault" "Rest.own_fault" fZ f fd) (cP:Cfl K N.rest ["one","by"]) (hC:∀t,cls N t=N.rest->∃a y,t= .rest a y) (c_is_within:Cal P w K mg base CX0 2 "is_within" PW3 (spV jP)) (T:Txt mg):bB P w K mg base CX0 4 f fd ["self"] (spV (pY N N.rest)):=by
 obtain⟨_,g_GREATEST_DIVISOR⟩:=T.c_GREATEST_DIVISOR;refine vfn F vD (λcdv A outer s H E hr=>(aD (cU (gW (aO c_is_within (hr.mono (by decide)) rfl (aB (dC cP (aA 0)) (aB aF (aB (dG g_GREATEST_DIVISOR) aH))))) (aG (aY pB)) bK) (aG (aY bN)))) ?_;rintro _ R ⟨t,rfl,e,ok,q⟩;obtain⟨a,y,rfl⟩:=hC t e;have h:=ok.1;simp only [Wf]at h;refine⟨rfl,rfl,.inr ⟨by decide+kernel,.inl ⟨rfl,_,_,_,_,rfl,rfl,λ_=>q,λz=>?_⟩⟩⟩;simp [isIn,h.1,h.2.1]at z
def fFF (N:Cn) (d:Nat):Fv:=λus R=>∃t,us=[enc N t]/\ht t<=d/\lB t/\R (.sh .no)
theorem lX:aL ["term","part","fault"] ["term"] (aC jL):=⟨rfl,rfl,rfl,by decide+kernel,rfl,by decide+kernel,by decide+kernel⟩
theorem aWp (F:Fun K "first_fault" "first_fault" jL f fd) (c_first_fault:Cal P w K mg base CX0 (d+4) "first_fault" ["term"] (spV (fFF N d))) (D_inner:jZ P w K mg base N 1 "inner" (jD N)) (D_own_fault:jZ P w K mg base N 4 "own_fault" (pY N)):bB P w K mg base CX0 (d+5) f fd ["term"] (spV (fFF N (d+1))):=by
 refine vfn F lX (λcdv A outer s H E hr=>(aD (eY Bf rfl (cH (cA (aA 0) D_inner (hr.mono (by omega)))) (dX (i:=1) lX.nd) (aD (bF (i:=2) lX.nd (aO c_first_fault (hr.mono (by omega)) rfl (aB (aA 1) aH))) (aG (cU (aIv (aA 2)) (aG (iV 2)) bK)))) (aG (aY (cA (aA 0) D_own_fault (hr.mono (by omega))))))) ?_;rintro _ R ⟨t,rfl,hd,ok,q⟩;refine⟨rfl,fO t (by decide+kernel) ⟨t,rfl,rfl,?_⟩⟩;refine cD (λl ρ=>∃(ks:List Tm) (x y:Sl),l=ks.map (enc N)/\(∀k∈ks,k∈kids t)/\ρ=[.sh (enc N t),x,y]) ?_ ?_ ⟨kids t,_,_,rfl,λ_ h=>h,rfl⟩
 ·rintro ρ ⟨ks,x,y,el,hk,rfl⟩;exact fO t (by decide+kernel) ⟨t,rfl,rfl,ok,q⟩
 ·rintro u r ρ ⟨ks,x,y,el,hk,rfl⟩ ih;obtain⟨k,ks,rfl,rfl,rfl⟩:=List.map_eq_cons_iff.mp el.symm;have kk:=hk k Af;exact⟨k,rfl,xT t hd k kk,ok.kid kk,nofun,λ_=>ih _ ⟨ks,_,_,rfl,λj hj=>hk j (Ae _ hj),rfl⟩⟩
def Ln (t:Tm) (n:Nat):Prop:=(n=1∨n=2∨n=3)/\(∀x∈raw t,x.2.length=n)/\∃ks:List Tk,ks.length<=6/\∀x∈raw t,x∈ks
theorem Ln.few {t:Tm} {n:Nat} (h:Ln t n):Few t:=let⟨ks,l,m⟩:=h.2.2;⟨ks,by omega,m⟩
def aAq (N:Cn) (d:Nat):Fv:=λus R=>∃t n,us=[enc N t]/\ht t<=d/\Ln t n/\∀s,s= .sh .no∨s= .sh (.n (n:Nat))->R s
abbrev aGj:List Str:=["term","counts"]
theorem wL:aL ["term","counts"] ["term"] (aC oY):=⟨rfl,rfl,rfl,by decide+kernel,rfl,by decide+kernel,by decide+kernel⟩
theorem aGb (F:Fun K "lines_of" "lines_of" oY f fd) (D_takes:jZ P w K mg base N (d+1) "takes" (rG N d)) (T:Txt mg):bB P w K mg base CX0 (d+3) f fd ["term"] (spV (aAq N d)):=by
 refine vfn F wL (λcdv A outer s H E hr=>(aD (bF (i:=1) wL.nd (aK1 rfl T.sorted T.set (aN (lK (own:=["take"]) (cap:=[]) (aC oY) aGj rfl rfl (λx h=>bQ h) (by decide+kernel) rfl (vic (cH (cA (aA 0) D_takes (hr.mono (by omega))))) (λcl C s2 H2 fp=>(bO (i:=0) (show(["take"]:List Str).Nodup by decide+kernel) rfl (Bw rfl) (Cb rfl))) (dB (by decide)) (λcl C s2 H2 fp=>(bI aV dM T.len Ee (aN (bT bC bR (aA 0) aF) aX)))) aX))) (aD (cU (cI sJ cC (bI aV dM T.len Ee (aN (aA 1) aX)) aF) (aG lO) bK) (aD (cU (cI (lJ (huD hr)) kO (bI aV dM T.len Ee (aN (aA 1) aX)) aF) (aG (aY pB)) bK) (aG (aY (bT bC bR (aA 1) aF))))))) ?_;rintro _ R ⟨t,n,rfl,hd,ln,q⟩;refine⟨rfl,fO t (by decide+kernel) ⟨t,rfl,rfl,hd,ln.few,λys ik=>?_⟩⟩;have yl:=yO ln.few ik;refine⟨by rw [Ab];omega,fH (h:=λ_=> .n (n:Nat)) (λu hu k hk=>?_) ?_⟩
 ·obtain⟨y,hy,rfl⟩:=List.mem_map.mp hu;have e:=ln.2.1 y ((ik.2 y).mp hy);refine⟨_,rfl,?_⟩;show k (some (.n ((y.2.map U.n).length:Nat)));rw [Ab,e];exact hk
 ·refine⟨ys.map λ_=>n,by rw [Bl,Bl];rfl,λm hm=>?_,λzs zsub zm=>?_⟩
  ·obtain⟨_,_,rfl⟩:=List.mem_map.mp hm;rcases ln.1 with rfl|rfl|rfl<;>decide
  ·have hz:zs=[]∨zs=[n]:=by
    have h1:∀z∈zs,z=n:=λz hz=>by
     obtain⟨_,_,e⟩:=List.mem_map.mp ((zm z).mp hz);exact e.symm
    simp only [fC,Bi,Be,or_false]at zsub;rcases zsub with rfl|rfl|rfl|rfl|rfl|rfl|rfl|rfl<;>simp at h1⊢ <;>omega
   rcases hz with rfl|rfl
   ·exact⟨nofun,λ_=>⟨trivial,trivial,λ_=>q _ (.inl rfl),nofun⟩⟩
   ·exact⟨nofun,λ_=>⟨trivial,trivial,nofun,λ_=>⟨_,rfl,q _ (.inr rfl)⟩⟩⟩
def aDv (N:Cn) (d:Nat):Fv:=λus R=>∃t n,us=[enc N t]/\ht t<=d/\lB t/\dD t<=60/\Ln t n/\R (.sh .no)
theorem sS:aL ["term","fault"] ["term"] (aC oX):=⟨rfl,rfl,rfl,by decide+kernel,rfl,by decide+kernel,by decide+kernel⟩
theorem aJ7 (F:Fun K "check_term" "check_term" oX f fd) (d12:d<=12) (c_first_fault:Cal P w K mg base CX0 (d+4) "first_fault" ["term"] (spV (fFF N d))) (c_lines_of:Cal P w K mg base CX0 (d+3) "lines_of" ["term"] (spV (aAq N d))) (D_takes:jZ P w K mg base N (d+1) "takes" (rG N d)) (D_depth:jZ P w K mg base N (d+1) "depth" (aD4 N ht d)) (D_parts:jZ P w K mg base N (d+1) "parts" (aD4 N dD d)) (T:Txt mg):bB P w K mg base CX0 (d+5) f fd ["term"] (spV (aDv N d)):=by
 obtain⟨_,g_MOST_DEPTH⟩:=T.c_MOST_DEPTH;obtain⟨_,g_MOST_PARTS⟩:=T.c_MOST_PARTS;obtain⟨_,g_MOST_TAKES⟩:=T.c_MOST_TAKES;refine vfn F sS (λcdv A outer s H E hr=>(aD (bF (i:=1) sS.nd (aO c_first_fault (hr.mono (by omega)) rfl (aB (aA 0) aH))) (aD (cU (aIv (aA 1)) (aG lO) bK) (aD (aSt (aO c_lines_of (hr.mono (by omega)) rfl (aB (aA 0) aH))) (aD (cU (cI sJ cC (cA (aA 0) D_depth (hr.mono (by omega))) (dG g_MOST_DEPTH)) (aG lO) bK) (aD (cU (cI sJ cC (cA (aA 0) D_parts (hr.mono (by omega))) (dG g_MOST_PARTS)) (aG lO) bK) (aG (cU (cI sJ cC (bI aV dM T.len Ee (aN (cA (aA 0) D_takes (hr.mono (by omega))) aX)) (dG g_MOST_TAKES)) (aG lO) bK)))))))) ?_;rintro _ R ⟨t,n,rfl,hd,ok,hp,ln,q⟩;refine⟨rfl,t,rfl,hd,ok,nofun,λ_=>?_⟩;refine⟨t,n,rfl,hd,ln,λ_ _=>?_⟩;refine fO t (by decide+kernel) ⟨t,rfl,rfl,hd,by omega,λz=>?_,λ_=>?_⟩
 ·have:=of_decide_eq_true z;omega
 refine fO t (by decide+kernel) ⟨t,rfl,rfl,hd,by omega,λz=>?_,λ_=>?_⟩
 ·have:=of_decide_eq_true z;omega
 refine fO t (by decide+kernel) ⟨t,rfl,rfl,hd,ln.few,λys ik=>⟨λz=>?_,λ_=>q⟩⟩;have:=of_decide_eq_true z;obtain⟨ks,kl,km⟩:=ln.2.2;have h2:=(aBi ik.1).length_le_of_subset (l₂:=ks) λx hx=>km x ((ik.2 x).mp hx);rw [Ab]at this;omega
def aD7 (N:Cn):Fv:=λus R=>∃t,us=[.s (tx (txt t))]/\ht t<=8/\lB t/\dD t<=40/\R (.sh (enc N t))
theorem aKp {k:Nat} {ps:List Str} (h:bB P w K mg base CX0 k f fd ps (aBh N)):bB P w K mg base CX0 k f fd ps (spV (aD7 N)):=h.imp λvs H Q E ⟨W,B,us,R,eb,d,⟨t,eu,h1,h2,h3,hR⟩,q⟩=>by
 subst eu;obtain⟨x,r,rfl,dx,dr⟩:=d;obtain rfl:r=[]:=dr;rw [dx.1];exact⟨t,rfl,h1,h2,h3,λv' H' s tr=>q _ _ _ hR (eb.same s) (aS3 (eb.to (eb.same s)) tr)⟩
def aMq (N:Cn):Fv:=λus R=>∃t n,us=[.s (tx (txt t))]/\ht t<=8/\lB t/\dD t<=40/\Ln t n/\R (.sh (enc N t))
theorem vO:aL ["text","term"] ["text"] (aC qQ):=⟨rfl,rfl,rfl,by decide+kernel,rfl,by decide+kernel,by decide+kernel⟩
theorem aLk {k:Nat} (F:Fun K "read_term" "read_term" qQ f fd) (c_read_written:Cal P w K mg base CX0 (k+13) "read_written" ["text"] (spV (aD7 N))) (c_check_term:Cal P w K mg base CX0 13 "check_term" ["term"] (spV (aDv N 8))):bB P w K mg base CX0 (k+14) f fd ["text"] (spV (aMq N)):=by
 refine vfn F vO (λcdv A outer s H E hr=>(aD (bF (i:=1) vO.nd (aO c_read_written (hr.mono (by omega)) rfl (aB (aA 0) aH))) (aD (aSt (aO c_check_term (hr.mono (by omega)) rfl (aB (aA 1) aH))) (aG (iV 1))))) ?_;rintro _ R ⟨t,n,rfl,hd,ok,hp,ln,q⟩;exact⟨rfl,t,rfl,hd,ok,hp,t,n,rfl,hd,ok,by omega,ln,q⟩
end
end Q
namespace Q
open PySem PyProof.Rows L2 KR
section
variable {P:Program} {w:World} {K:Ac} {mg:Str->Option Value} {base:Heap} {f C:Addr} {fd:FuncData} {N:Cn} {d:Nat}
def GoodR (n:Int) (m:Int) (l:List Int):Prop:=(l.length:Int)=n/\l.length<=40/\∀x∈l,0<=x/\x<m
def aLi:Fv:=λus R=>∃(l:List Int) (n m:Int),us=[.ls (l.map U.n),.n n,.n m]/\GoodR n m l/\R (.sh (.b true))
abbrev aLp:List Str:=["thing","many","modulus"]
theorem aJb:aL ["thing","many","modulus"] ["thing","many","modulus"] (aC uN):=⟨rfl,rfl,rfl,by decide+kernel,rfl,by decide+kernel,by decide+kernel⟩
theorem aLn (F:Fun K "is_row" "is_row" uN f fd) (c_is_within:Cal P w K mg base CX0 2 "is_within" PW3 (spV jP)) (T:Txt mg):bB P w K mg base CX0 3 f fd ["thing","many","modulus"] (spV aLi):=by
 refine vfn F aJb (λcdv A outer s H E hr=>(aD (cU (uF (wQ (gJ (gW (qI .ls nofun T.isinstance T.list Iq (aA 0)))) (qY (cI (aAb (huD hr)) kO (bI aV dM T.len Ee (aN (aA 0) aX)) (aA 1))))) (aG (aY vI)) bK) (aG (aY (bI aAr (aG2 rfl) T.all boot_all (aN (lK (own:=["worth"]) (cap:=[("modulus",2)]) (aC uN) aLp rfl rfl (λx h=>bQ h) (by decide+kernel) rfl (vic (cH (aA 0))) (λcl C s2 H2 fp=>(bO (i:=0) (show(["worth","modulus"]:List Str).Nodup by decide+kernel) rfl (Bw rfl) (Cb rfl))) (dB (by decide)) (λcl C s2 H2 fp=>(aO c_is_within (hr.mono (by decide)) rfl (aB (aA 0) (aB aF (aB (aU iD cC (aA 1) aF) aH)))))) aX)))))) ?_;rintro _ R ⟨l,n,m,rfl,⟨h1,h2,h3⟩,q⟩;refine⟨rfl,_,rfl,nofun,λ_=>⟨trivial,trivial,λz=>?_,λ_=>?_⟩⟩
 ·simp [U.eq,U.d,D.eq,eqV,Sl.rd,h1]at z
 ·refine⟨by rw [Ab];omega,fH (h:=λ_=> .b true) (λu hu k hk=>?_) ⟨l.map λ_=>true,by rw [Bl,Bl];rfl,Rbl q (by simp)⟩⟩;obtain⟨x,hx,rfl⟩:=List.mem_map.mp hu;have:=h3 x hx;refine⟨_,_,_,_,rfl,rfl,?_⟩;show k (some (.b (isIn (.n x) 0 (m-1))));rw [show isIn (.n x) 0 (m-1)=true by simp [isIn,this.1];omega];exact hk
def jC (ls:List (List Int)):List U:=ls.map λl=> .ls (l.map U.n)
def aD6:Fv:=λus R=>∃(ls:List (List Int)) (k n m:Int),us=[.ls (jC ls),.n k,.n n,.n m]/\(ls.length:Int)=k/\ls.length<=3/\(∀l∈ls,GoodR n m l)/\R (.sh (.b true))
abbrev aHk:List Str:=["thing","deep","many","modulus"]
theorem aFk:aL ["thing","deep","many","modulus"] ["thing","deep","many","modulus"] (aC oN):=⟨rfl,rfl,rfl,by decide+kernel,rfl,by decide+kernel,by decide+kernel⟩
theorem aGy (F:Fun K "are_rows" "are_rows" oN f fd) (c_is_row:Cal P w K mg base CX0 3 "is_row" ["thing","many","modulus"] (spV aLi)) (T:Txt mg):bB P w K mg base CX0 4 f fd ["thing","deep","many","modulus"] (spV aD6):=by
 refine vfn F aFk (λcdv A outer s H E hr=>(aD (cU (uF (wQ (gJ (gW (qI .ls nofun T.isinstance T.list Iq (aA 0)))) (qY (cI (aAb (huD hr)) kO (bI aV dM T.len Ee (aN (aA 0) aX)) (aA 1))))) (aG (aY vI)) bK) (aG (aY (bI aAr (aG2 rfl) T.all boot_all (aN (lK (own:=["row"]) (cap:=[("many",2),("modulus",3)]) (aC oN) aHk rfl rfl (λx h=>bQ h) (by decide+kernel) rfl (vic (cH (aA 0))) (λcl C s2 H2 fp=>(bO (i:=0) (show(["row","many","modulus"]:List Str).Nodup by decide+kernel) rfl (Bw rfl) (Cb rfl))) (dB (by decide)) (λcl C s2 H2 fp=>(aO c_is_row (hr.mono (by decide)) rfl (aB (aA 0) (aB (aA 1) (aB (aA 2) aH)))))) aX)))))) ?_;rintro _ R ⟨ls,k,n,m,rfl,h1,h2,h3,q⟩;have e1:(jC ls).length=ls.length:=Ab ..;refine⟨rfl,_,rfl,nofun,λ_=>⟨trivial,trivial,λz=>?_,λ_=>?_⟩⟩
 ·simp [U.eq,U.d,D.eq,eqV,Sl.rd,h1,e1]at z
 ·refine⟨by omega,fH (h:=λ_=> .b true) (λu hu k hk=>?_) ⟨ls.map λ_=>true,by unfold jC;rw [Bl,Bl];rfl,Rbl q (by simp)⟩⟩;obtain⟨x,hx,rfl⟩:=List.mem_map.mp hu;exact⟨x,n,m,rfl,h3 x hx,hk⟩
def dpt (ys:List Tk):Int:=if ys=[]then 1 else ys.foldl (λm y=>max m y.1) 0
theorem aMb {ys:List Tk} {m:Int} (hp:∀y∈ys,0<=y.1) (hm:m∈ys.map (·.1)) (ha:∀a∈ys.map (·.1),a<=m):dpt ys=m:=by
 have key:∀(l:List Tk) (a:Int),(∀y∈l,y.1<=m)->a<=m->l.foldl (λm y=>max m y.1) a<=m/\a<=l.foldl (λm y=>max m y.1) a/\∀y∈l,y.1<=l.foldl (λm y=>max m y.1) a:=by
  intro l;induction l with
  |nil=>exactλa _ h=>⟨h,Lu _,λ_ z=>nomatch z⟩
  |cons x l ih=>
   intro a h1 h2;have hx:=h1 x Af;obtain⟨g1,g2,g3⟩:=ih (max a x.1) (λy hy=>h1 y (Ae _ hy)) (by omega);refine⟨g1,by rw [Fe];omega,λy hy=>?_⟩;rw [Fe];rcases List.mem_cons.mp hy with rfl|hy
   ·omega
   ·exact g3 y hy
 obtain⟨y,hy,rfl⟩:=List.mem_map.mp hm;have h0:=hp y hy;obtain⟨g1,g2,g3⟩:=key ys 0 (λz hz=>ha _ (List.mem_map.mpr ⟨z,hz,rfl⟩)) h0;unfold dpt;rw [if_neg (by intro z;rw [z]at hy;cases hy)];have:=g3 y hy;omega
def aRh (C:Addr):Fv:=λus R=>∃(ys:List Tk) (ns:List Str) (ws:List U),us=[.ob C ("taken"::ns) (.ls (ys.map tkU)::ws)]/\ys.length<=17/\(∀y∈ys,0<=y.1)/\R (.sh (.n (dpt ys)))
abbrev aG7:List Str:=["self"]
theorem aFn:aL ["self"] ["self"] (aC pH):=⟨rfl,rfl,rfl,by decide+kernel,rfl,by decide+kernel,by decide+kernel⟩
theorem aQl (F:Fun K "deep" "Job.deep" pH f fd) (cJ:Cfl K C ["taken"]) (T:Txt mg):bB P w K mg base CX0 1 f fd ["self"] (spV (aRh C)):=by
 refine vfn F aFn (λcdv A outer s H E hr=>(aG (aY (aIz rfl T.max (aN (lK (own:=["take"]) (cap:=[]) (aC pH) aG7 rfl rfl (λx h=>bQ h) (by decide+kernel) rfl (vic (cH (dC cJ (aA 0)))) (λcl C s2 H2 fp=>(bO (i:=0) (show(["take"]:List Str).Nodup by decide+kernel) rfl (Bw rfl) (Cb rfl))) (dB (by decide)) (λcl C s2 H2 fp=>(bT bC bR (aA 0) aF))) aX) aF)))) ?_;rintro _ R ⟨ys,ns,ws,rfl,yl,hp,q⟩;have e:(ys.map tkU).map (λu=>match u with| .tp (x::_)=>x|u=>u)=(ys.map (·.1)).map U.n:=by rw [Bl,Bl];rfl
 refine⟨rfl,rfl,.inl ⟨rfl,by rw [Ab];omega,fH (h:=λu=>match u with| .tp (x::_)=>x|u=>u) (λu hu k hk=>?_) ?_⟩⟩
 ·obtain⟨y,hy,rfl⟩:=List.mem_map.mp hu;exact⟨_,rfl,hk⟩
 ·rw [Ec,e];refine⟨_,rfl,λz=>?_,λm hm ha=>?_⟩
  ·have z:=List.map_eq_nil_iff.mp z;subst z;exact q
  ·rw [aMb hp hm ha]at q;exact q
end
end Q
namespace Q
open PySem PyProof.Rows L2 KR
section
variable {P:Program} {w:World} {K:Ac} {mg:Str->Option Value} {base:Heap} {f C:Addr} {fd:FuncData} {N:Cn} {d:Nat}
inductive aHu (us:List U) (R:(List Str->List U->Prop)):Prop
 |mk (ns:List Int) (rs:List Rim) (q0_:us=[.ls (ns.map U.n),.ls (rs.map Rim.u)]) (q1_:oJ ns) (q2_:rs.length=ns.length) (q3_:(∀r∈rs,r.ok)) (q4_:R ["sizes","rims"] [.ls (ns.map U.n),.ls (rs.map Rim.u)]):aHu us R
def aHc:List U->(List Str->List U->Prop)->Prop:=λus R=>aHu us R
theorem vN (ns:List Int):U.dts 5 (ns.map U.n):=by
 induction ns with
 |nil=>trivial
 |cons r rs ih=>exact⟨trivial,ih⟩
theorem aIl (rs:List Rim):U.dts 5 (rs.map Rim.u):=by
 induction rs with
 |nil=>trivial
 |cons r rs ih=>exact⟨by cases r<;>first|exact⟨trivial,trivial⟩|exact⟨trivial,trivial,trivial⟩,ih⟩
theorem vQ:aL ["self","sizes","rims"] ["self","sizes","rims"] (aC kI):=⟨rfl,rfl,rfl,by decide+kernel,rfl,by decide+kernel,by decide+kernel⟩
theorem aOb (F:Fun K "__init__" "Grid.__init__" kI f fd) (cG:Cfl K C ["sizes","rims"]) (c_check_lines:Cal P w K mg base CX0 4 "check_lines" ["sizes","rims"] (spV aK2)) (c_product:Cal P w K mg base CX0 1 "product" ["sizes"] (spV aLd)) (T:Txt mg):bB P w K mg base CX0 5 f fd ["self","sizes","rims"] (spI C aHc):=by
 obtain⟨_,g_MOST_PLACES⟩:=T.c_MOST_PLACES;refine F.ok vQ (λvs H Q E h=>?_) (λcdv A outer s H vs Q E hr h=>?_)
 ·obtain⟨x,dx,vs',H1,W,B,us,R,rfl,_,_,_,_,ds,⟨ns,rs,rfl,_⟩,_⟩:=h;rw [Ag, <-ds.length];rfl
 ·obtain⟨x,dx,vs',H1,W,B,us,R,rfl,n1,hx,s1,eb,ds,⟨ns,rs,rfl,g,el,rk,hR⟩,q⟩:=h;obtain⟨v1,_,rfl,d1,v2,r,rfl,d2,dr⟩:=ds;obtain rfl:r=[]:=dr;have ee:∀{H'},Fw W H1 H'->EE W B H' [.no,.sh (.ls (ns.map U.n)),.sh (.ls (rs.map Rim.u))] [some (.ref x),some v1,some v2]:=λfw=>pA (mL (DU.mono (eb.keep fw) _ d1) (mL (DU.mono (eb.keep fw) _ d2) (aLb (eb.to fw))));have nw:¬W x:=λz=>eb.dm x (eb.wb x z) n1;have nB:¬B x:=eb.nw n1;refine⟨_,(aJ (cX (VE.can (aO c_check_lines (hr.mono (by decide)) rfl (aB (aA 1) (aB (aA 2) aH))))) (aJ (eQ (VC.can (cI sJ cC (aO c_product (hr.mono (by decide)) rfl (aB (aA 1) aH)) (dG g_MOST_PLACES))) (aR dO) bY) (aJ (dF (pv 0) (VE.can (dU (lY rfl) uM T.list Iq (aN (aA 1) aX))) rfl) (aR (dF (pv 0) (VE.can (dU (lY rfl) uM T.list Iq (aN (aA 2) aX))) rfl))))),?_⟩;have f0:=eb.same s1;refine aB3 (R:=λ_=>True) (ee f0) ⟨ns,rs,rfl,g.ok,g.l1,g.l3,el,rk,trivial⟩ λs v H2 _ w2 _=>?_;have f2:=f0.trans w2;refine zZ (R:=λc=>c=false) (ee f2) ⟨ns,rfl,g.ok,g.l3,decide_eq_false (by have:=g.mn;omega)⟩ λc H3 hc w3=>?_;subst hc;refine pX ?_;have f3:=f2.trans w3;have hx3:H3 x=some (.ins C dx []):=w3.fr _ _ nw (w2.fr _ _ nw hx);refine aB3 (R:=λs=>s= .ow (ns.map U.n)) (ee f3) rfl λs v4 H4 hs w4 r4=>?_;subst hs;obtain⟨p4,x4,rfl,n4,h4,d4⟩:=r4;have f4:=f3.trans w4;have hx4:=w4.fr _ _ nw hx3;refine⟨_,rfl,x,C,dx,_,rfl,hx4,cG.cl,cG.na _ (by simp),by decide,?_⟩;have f5:=f4.upd (o:= .ins C dx (jT "sizes" (.ref p4) [])) n1 nw;have hx5:upd H4 x (.ins C dx (jT "sizes" (.ref p4) [])) x=_:=aK;have h5:=fM (B:=B) (o:= .ins C dx (jT "sizes" (.ref p4) [])) hx4 p4 _ (λz=>(eb.to f3).dm p4 z n4) h4 (.inr ⟨_,rfl⟩);have d5:=DUs.data (fM (o:= .ins C dx (jT "sizes" (.ref p4) [])) hx4) 5 _ (vN ns) d4.less;revert f5 hx5 h5 d5;generalize upd H4 x (.ins C dx (jT "sizes" (.ref p4) []))=H5;intro f5 hx5 h5 d5;refine aB3 (R:=λs=>s= .ow (rs.map Rim.u)) (ee f5) rfl λs v6 H6 hs w6 r6=>?_;subst hs;obtain⟨p6,x6,rfl,n6,h6,d6⟩:=r6;have hx6:=w6.fr _ _ nw hx5;refine⟨_,rfl,x,C,dx,_,rfl,hx6,cG.cl,cG.na _ (by simp),by show(1:Nat)<1000;decide,?_⟩;have e6:=eb.to (f5.trans w6);refine q ["sizes","rims"] _ [.ref p4,.ref p6] _ hR ((f5.trans w6).upd n1 nw) aK rfl ⟨_,_,rfl,⟨p4,x4,rfl,(eb.to f3).nw n4,?_,?_⟩,_,_,rfl,⟨p6,x6,rfl,(eb.to f5).nw n6,?_,?_⟩,rfl⟩
  ·exact fM (B:=B) hx6 p4 _ ((eb.to f3).nw n4) (w6.fr _ _ (λz=>(eb.to f3).nw n4 (eb.wb _ z)) h5) (.inr ⟨_,rfl⟩)
  ·exact DUs.data (fM hx6) 5 _ (vN ns) (DUs.mono ((eb.to f5).keep w6) _ d5)
  ·exact fM (B:=B) hx6 p6 _ ((eb.to f5).nw n6) h6 (.inr ⟨_,rfl⟩)
  ·exact DUs.data (fM hx6) 5 _ (aIl rs) d6.less
def aDh (N:Cn) (CG CJ:Addr) (ns:List Int) (rs:List Rim) (t:Tm) (ys:List Tk) (m r:Int) (ls:List (List Int)):U:= .ob CJ ["taken","grid","term","modulus","rounds","first"] [.ls (ys.map tkU),grU CG ns rs,enc N t,.n m,.n r,.ls (jC ls)]
structure aSh (ns:List Int) (rs:List Rim) (t:Tm) (m r:Int) (ls:List (List Int)):Prop where
 gs:oJ ns
 el:rs.length=ns.length
 rk:∀x∈rs,x.ok
 hd:ht t<=8
 ok:lB t
 pr:dD t<=60
 ln:Ln t ns.length
 m2:2<=m/\m<=1000000000
 r0:0<=r/\r<=12
 rm:r*rD ns<=120
 dp:∀ys,rE t ys->(ls.length:Int)=dpt ys
 l3:ls.length<=3
 rw_:∀l∈ls,GoodR (rD ns) m l
inductive aH2 (N:Cn) (CG:Addr) (us:List U) (R:(List Str->List U->Prop)):Prop
 |mk (ns:List Int) (rs:List Rim) (t:Tm) (m r:Int) (ls:List (List Int)) (q0_:us=[grU CG ns rs,enc N t,.n m,.n r,.ls (jC ls)]) (q1_:aSh ns rs t m r ls) (q2_:∀ys,rE t ys->R ["taken","grid","term","modulus","rounds","first"] [.ls (ys.map tkU),grU CG ns rs,enc N t,.n m,.n r,.ls (jC ls)]):aH2 N CG us R
def aHg (N:Cn) (CG:Addr):List U->(List Str->List U->Prop)->Prop:=λus R=>aH2 N CG us R
theorem aH7 (ls:List (List Int)):U.dts 6 (jC ls):=by
 induction ls with
 |nil=>trivial
 |cons l ls ih=>exact⟨vN l,ih⟩
theorem aGv (ys:List Tk):U.dts 7 (ys.map tkU):=by
 induction ys with
 |nil=>trivial
 |cons y ys ih=>exact⟨⟨trivial,vN y.2,trivial⟩,ih⟩
theorem aYv (i j:Int):U.eq (.n i) (.n j)=(i==j):=rfl
abbrev yQ:List Str:=["self","grid","term","modulus","rounds","first"]
theorem xN:aL ["self","grid","term","modulus","rounds","first"] ["self","grid","term","modulus","rounds","first"] (aC jB):=⟨rfl,rfl,rfl,by decide+kernel,rfl,by decide+kernel,by decide+kernel⟩
theorem aOf {CG CJ:Addr} (F:Fun K "__init__" "Job.__init__" jB f fd) (cJ:Cfl K CJ ["taken","grid","term","modulus","rounds","first"]) (c_check_term:Cal P w K mg base CX0 13 "check_term" ["term"] (spV (aDv N 8))) (c_lines_of:Cal P w K mg base CX0 11 "lines_of" ["term"] (spV (aAq N 8)))
  (c_is_within:Cal P w K mg base CX0 2 "is_within" PW3 (spV jP)) (c_are_rows:Cal P w K mg base CX0 4 "are_rows" ["thing","deep","many","modulus"] (spV aD6)) (D_takes:jZ P w K mg base N 9 "takes" (rG N 8)) (D_lines:Dis P w K mg base CX0 1 (·=CG) "lines" ["self"] λ_=>spV (aMo CG)) (D_places_many:Dis P w K mg base CX0 2 (·=CG) "places_many" ["self"] λ_=>spV (aSr CG)) (D_deep:Dis P w K mg base CX0 1 (·=CJ) "deep" ["self"] λ_=>spV (aRh CJ)) (T:Txt mg):bB P w K mg base CX0 14 f fd ["self","grid","term","modulus","rounds","first"] (spI CJ (aHg N CG)):=by
 obtain⟨_,g_GREATEST_MODULUS⟩:=T.c_GREATEST_MODULUS;obtain⟨_,g_MOST_ROUNDS⟩:=T.c_MOST_ROUNDS;obtain⟨_,g_MOST_SPOTS⟩:=T.c_MOST_SPOTS;refine F.ok xN (λvs H Q E h=>?_) (λcdv A outer s H vs Q E hr h=>?_)
 ·obtain⟨x,dx,vs',H1,W,B,us,R,rfl,_,_,_,_,ds,⟨ns,rs,t,m,r,ls,rfl,_⟩,_⟩:=h;rw [Ag, <-ds.length];rfl
 ·obtain⟨x,dx,vs',H1,W,B,us,R,rfl,n1,hx,s1,eb,ds,⟨ns,rs,t,m,r,ls,rfl,g,hR⟩,q⟩:=h;obtain⟨v1,_,rfl,d1,v2,_,rfl,d2,v3,_,rfl,d3,v4,_,rfl,d4,v5,r5,rfl,d5,dr⟩:=ds;obtain rfl:r5=[]:=dr;have ee:∀{H' s0},Fw W H1 H'->EE W B H' [s0,.sh (grU CG ns rs),.sh (enc N t),.sh (.n m),.sh (.n r),.sh (.ls (jC ls))] [some (.ref x),some v1,some v2,some v3,some v4,some v5]->EE W B H' [s0,.sh (grU CG ns rs),.sh (enc N t),.sh (.n m),.sh (.n r),.sh (.ls (jC ls))] [some (.ref x),some v1,some v2,some v3,some v4,some v5]:=λ_ e=>e;have et:∀{H'},Fw W H1 H'->EE W B H' [.sh (grU CG ns rs),.sh (enc N t),.sh (.n m),.sh (.n r),.sh (.ls (jC ls))] [some v1,some v2,some v3,some v4,some v5]:=λfw=>mL (DU.mono (eb.keep fw) _ d1) (mL (DU.mono (eb.keep fw) _ d2) (mL d3 (mL d4 (mL (DU.mono (eb.keep fw) _ d5) (aLb (eb.to fw))))));have nw:¬W x:=λz=>eb.dm x (eb.wb x z) n1;refine⟨_,(aJ (cX (VE.can (aO c_check_term (hr.mono (by decide)) rfl (aB (aA 2) aH)))) (aJ (eQ (VC.can (cI (aCc (huD hr)) aOn (aO c_lines_of (hr.mono (by decide)) rfl (aB (aA 2) aH)) (cW (aB pB (aB (cA (aA 1) D_lines (hr.mono (by decide))) aH))))) (aR dO) bY) (aJ (eQ (VC.can (gJ (gW (aO c_is_within (hr.mono (by decide)) rfl (aB (aA 3) (aB aF (aB (dG g_GREATEST_MODULUS) aH))))))) (aR dO) bY) (aJ (eQ (VC.can (uF (wQ (gJ (gW (aO c_is_within (hr.mono (by decide)) rfl (aB (aA 4) (aB aF (aB (dG g_MOST_ROUNDS) aH)))))) (qY (cI sJ cC (aU kJ jK (aA 4) (cA (aA 1) D_places_many (hr.mono (by decide)))) (dG g_MOST_SPOTS)))))) (aR dO) bY) (aJ (dF (pv 0) (VE.can (cA (aA 2) D_takes (hr.mono (by decide)))) rfl) (aJ (eQ (VC.can (gJ (gW (aO c_are_rows (hr.mono (by decide)) rfl (aB (aA 5) (aB (cA (aA 0) D_deep (hr.mono (by decide))) (aB (cA (aA 1) D_places_many (hr.mono (by decide))) (aB (aA 3) aH)))))))) (aR dO) bY) (aJ (dF (pv 0) (pv 1) rfl) (aJ (dF (pv 0) (pv 2) rfl) (aJ (dF (pv 0) (pv 3) rfl) (aJ (dF (pv 0) (pv 4) rfl) (aR (dF (pv 0) (VE.can (lK (own:=["row"]) (cap:=[]) (aC jB) yQ rfl rfl (λx h=>bQ h) (by decide+kernel) rfl (vic (cH (aA 5))) (λcl C s2 H2 fp=>(bO (i:=0) (show(["row"]:List Str).Nodup by decide+kernel) rfl (Bw rfl) (Cb rfl))) (dB (by decide)) (λcl C s2 H2 fp=>(dU (lY rfl) uM T.list Iq (aN (aA 0) aX))))) rfl)))))))))))),?_⟩;have f0:=eb.same s1;refine aB3 (R:=λ_=>True) (pA (et f0)) ⟨t,_,rfl,g.hd,g.ok,g.pr,g.ln,trivial⟩ λs v H2 _ w2 _=>?_;have f2:=f0.trans w2;refine zZ (R:=λc=>c=false) (pA (et f2)) ⟨t,_,rfl,g.hd,g.ln,λs hs=>?_⟩ λc H3 hc w3=>?_
  ·rcases hs with rfl|rfl
   ·exact⟨rfl,rfl,ns,rs,rfl,trivial,⟨trivial,trivial,trivial⟩,rfl⟩
   ·refine⟨rfl,rfl,ns,rs,rfl,trivial,⟨trivial,trivial,trivial⟩,?_⟩;simp [aYv,Sl.rd]
  subst hc;refine pX ?_;have f3:=f2.trans w3;refine zZ (R:=λc=>c=false) (pA (et f3)) ⟨_,_,_,_,rfl,rfl,?_⟩ λc H4 hc w4=>?_
  ·show(!isIn (.n m) 2 1000000000)=false;simp [isIn,g.m2.1,g.m2.2]
  subst hc;refine pX ?_;have f4:=f3.trans w4;refine zZ (R:=λc=>c=false) (pA (et f4)) ⟨_,_,_,_,rfl,rfl,λz=>?_,λ_=>⟨rfl,rfl,ns,rs,rfl,g.gs,?_⟩⟩ λc H5 hc w5=>?_
  ·simp [isIn,g.r0.1,g.r0.2]at z
  ·refine⟨.inl ⟨by have:=g.r0;omega,by have:=g.r0;omega⟩,?_⟩;exact decide_eq_false (by have:=g.rm;omega)
  subst hc;refine pX ?_;have f5:=f4.trans w5;have hx5:H5 x=some (.ins CJ dx []):=w5.fr _ _ nw (w4.fr _ _ nw (w3.fr _ _ nw (w2.fr _ _ nw hx)));refine aB3 (R:=λs=>∃ys,rE t ys/\s= .ow (ys.map tkU)) (pA (et f5)) (fO t (by decide+kernel) ⟨t,rfl,rfl,g.hd,g.ln.few,λys hy=>⟨ys,hy,rfl⟩⟩) λs v6 H6 hs w6 r6=>?_;obtain⟨ys,hy,rfl⟩:=hs;obtain⟨p6,x6,rfl,n6,h6,d6⟩:=r6;have f6:=f5.trans w6;have hx6:=w6.fr _ _ nw hx5;have nB6:¬B p6:=(eb.to f5).nw n6;refine⟨_,rfl,x,CJ,dx,_,rfl,hx6,cJ.cl,cJ.na _ (by simp),by decide,?_⟩;have f7:=f6.upd (o:= .ins CJ dx (jT "taken" (.ref p6) [])) n1 nw;have hx7:upd H6 x (.ins CJ dx (jT "taken" (.ref p6) [])) x=_:=aK;have h7:=fM (B:=B) (o:= .ins CJ dx (jT "taken" (.ref p6) [])) hx6 p6 _ nB6 h6 (.inr ⟨_,rfl⟩);have d7:=DUs.data (fM (o:= .ins CJ dx (jT "taken" (.ref p6) [])) hx6) 7 _ (aGv ys) d6.less;revert f7 hx7 h7 d7;generalize upd H6 x (.ins CJ dx (jT "taken" (.ref p6) []))=H7;intro f7 hx7 h7 d7;have yl:=yO g.ln.few hy;have yp:∀y∈ys,0<=y.1:=λy h=>by have:=(g.ok.2 y ((hy.2 y).mp h)).1.1;omega
  have dJ:DU W B H7 (.ob CJ ["taken"] [.ls (ys.map tkU)]) (.ref x):=⟨x,dx,[.ref p6],rfl,eb.nw n1,hx7,rfl,_,_,rfl,⟨p6,x6,rfl,nB6,h7,d7⟩,rfl⟩;refine zZ (R:=λc=>c=false) (mL dJ (et f7)) ⟨rfl,rfl,ys,[],[],rfl,yl,yp,rfl,rfl,ns,rs,rfl,g.gs,ls,_,_,_,rfl,g.dp ys hy,g.l3,g.rw_,rfl⟩ λc H8 hc w8=>?_;subst hc;refine pX ?_;have step:∀{H fs fs'},(Fw W H1 H/\H x=some (.ins CJ dx fs)/\DU W B H (.ls (ys.map tkU)) (.ref p6))->(Fw W H1 (upd H x (.ins CJ dx fs'))/\upd H x (.ins CJ dx fs') x=some (.ins CJ dx fs')/\DU W B (upd H x (.ins CJ dx fs')) (.ls (ys.map tkU)) (.ref p6)):=λ⟨a,b,c⟩=>⟨a.upd n1 nw,aK,DU.data (fM b) 8 _ (aGv ys) c⟩;have k8:Fw W H1 H8/\H8 x=some (.ins CJ dx [("taken",.ref p6)])/\DU W B H8 (.ls (ys.map tkU)) (.ref p6):=⟨f7.trans w8,w8.fr _ _ nw hx7,DU.mono ((eb.to f7).keep w8) _ ⟨p6,x6,rfl,nB6,h7,d7⟩⟩;have fl:∀{k:Nat},k<=6->k<1000:=λh=>by omega
  refine⟨_,rfl,_,rfl,x,CJ,dx,_,rfl,k8.2.1,cJ.cl,cJ.na _ (by simp),fl (by show(1:Nat)<=6;decide),?_⟩;have k9:=step (fs':=[("taken",.ref p6),("grid",v1)]) k8;refine⟨_,rfl,_,rfl,x,CJ,dx,_,rfl,k9.2.1,cJ.cl,cJ.na _ (by simp),fl (by show(2:Nat)<=6;decide),?_⟩;have k10:=step (fs':=[("taken",.ref p6),("grid",v1),("term",v2)]) k9;refine⟨_,rfl,_,rfl,x,CJ,dx,_,rfl,k10.2.1,cJ.cl,cJ.na _ (by simp),fl (by show(3:Nat)<=6;decide),?_⟩;have k11:=step (fs':=[("taken",.ref p6),("grid",v1),("term",v2),("modulus",v3)]) k10;refine⟨_,rfl,_,rfl,x,CJ,dx,_,rfl,k11.2.1,cJ.cl,cJ.na _ (by simp),fl (by show(4:Nat)<=6;decide),?_⟩;have k12:=step (fs':=[("taken",.ref p6),("grid",v1),("term",v2),("modulus",v3),("rounds",v4)]) k11;refine aB3 (R:=λs=>s= .ow (jC ls)) (pA (et k12.1)) ⟨by have:=g.l3;show(jC ls).length<=_;unfold jC;rw [Ab];omega,fH (h:=id) (λu hu k hk=>?_) (by rw [Ec,Uk])⟩ λs v13 H13 hs w13 r13=>?_
  ·obtain⟨l,_,rfl⟩:=List.mem_map.mp hu;exact hk
  subst hs;obtain⟨p13,x13,rfl,n13,h13,d13⟩:=r13;have f13:=k12.1.trans w13;have nB13:¬B p13:=(eb.to k12.1).nw n13;have k13:Fw W H1 H13/\H13 x=some (.ins CJ dx [("taken",.ref p6),("grid",v1),("term",v2),("modulus",v3),("rounds",v4)])/\DU W B H13 (.ls (ys.map tkU)) (.ref p6):=⟨f13,w13.fr _ _ nw k12.2.1,DU.mono ((eb.to k12.1).keep w13) _ k12.2.2⟩;refine⟨_,rfl,x,CJ,dx,_,rfl,k13.2.1,cJ.cl,cJ.na _ (by simp),fl (by show(5:Nat)<=6;decide),?_⟩;have k14:=step (fs':=[("taken",.ref p6),("grid",v1),("term",v2),("modulus",v3),("rounds",v4),("first",.ref p13)]) k13;have fin:=λu {v:V} (d:DU W B H1 u v)=>DU.mono (eb.keep k14.1) u d;exact q _ _ [.ref p6,v1,v2,v3,v4,.ref p13] _ (hR ys hy) k14.1 aK rfl ⟨_,_,rfl,k14.2.2,_,_,rfl,fin _ d1,_,_,rfl,fin _ d2,_,_,rfl,fin _ d3,_,_,rfl,fin _ d4,_,_,rfl,⟨p13,x13,rfl,nB13,fM (B:=B) k13.2.1 p13 _ nB13 h13 (.inr ⟨_,rfl⟩),DUs.data (fM k13.2.1) 6 _ (aH7 ls) d13.less⟩,rfl⟩
end
end Q
namespace Q
open PySem PyProof.Rows L2 KR
def aA4 (K:Ac) (ns:List Int):Opq where
 φ:=λ_ B H v=>∃a,v= .ref a/\((¬B a/\Rd H a (.lst (ns.map V.int)))∨∀H',SqL K H' a (ns.map V.int))
 mono:=λk ⟨a,e,h⟩=>by
  rcases h with ⟨nb,h|⟨o,h⟩⟩|h
  ·exact⟨a,e,.inl ⟨(k _ _ nb h).1,.inl (k _ _ nb h).2⟩⟩
  ·exact⟨a,e,.inl ⟨(k _ _ nb h).1,.inr ⟨o,(k _ _ nb h).2⟩⟩⟩
  ·exact⟨a,e,.inr h⟩
 wm:=λ_ h=>h
def aRm (K:Ac):Fv:=λus R=>∃(ns:List Int) (k:Nat),us=[.op (aA4 K ns),.n (k:Int)]/\∀n:Int,R (.sh (.n n))
theorem aXo (x:Int): -(2 ^ 64)<x % 2147483647/\x % 2147483647<2 ^ 64:=by omega
theorem DUs.two {W B:Addr->Prop} {H:Hp} {u v:U} {vs:List V} (h:DUs W B H [u,v] vs):∃x y,vs=[x,y]/\DU W B H u x/\DU W B H v y:=by
 obtain⟨x,_,rfl,d1,y,r,rfl,d2,e⟩:=h;obtain rfl:r=[]:=e;exact⟨x,y,rfl,d1,d2⟩
section
variable {P:Program} {w:World} {K:Ac} {mg:Str->Option Value} {base:Heap} {f C:Addr} {fd:FuncData} {N:Cn} {d:Nat}
theorem aDa:aL ["_law_script","_law_k"] ["_law_script","_law_k"] (aC rH):=⟨rfl,rfl,rfl,by decide+kernel,rfl,by decide+kernel,by decide+kernel⟩
theorem aQq (F:Fun K "_law_cell" "_law_cell" rH f fd) (T:Txt mg):bB P w K mg base CX0 1 f fd ["_law_script","_law_k"] (spV (aRm K)):=by
 refine F.ok aDa (λvs H Q E h=>?_) (λcdv A outer s H vs Q E hr h=>?_)
 ·obtain⟨W,B,us,R,eb,ds,⟨ns,k,rfl,_⟩,_⟩:=h;rw [<-ds.length];rfl
 ·obtain⟨W,B,us,R,eb,ds,⟨ns,k,rfl,hR⟩,q⟩:=h;obtain⟨x,y,rfl,⟨a,rfl,hs⟩,⟨rfl,_⟩⟩:=DUs.two ds;have hS:SqL K H a (ns.map V.int):=hs.elim (λh=> .inl h.2) λh=>h H;have q':∀n:Int,Q (.int n) H:=λn=>q _ _ _ (hR n) eb.refl ⟨rfl,rfl⟩;refine⟨_,(aJ (eQ (cL uK (pv 1) (gM aV (by rfl) T.len Lq (aM (pv 0) aZ)) (cZ _)) (aR (cQ (wM mJ (pv 0) (pv 1) (λ_ _=>rfl)))) bY) (aR (cQ dI))),?_⟩;refine⟨_,rfl,_,rfl,a,_,rfl,.inl hS,_,_,rfl,rfl,_,rfl,?_⟩;by_cases h:k<ns.length
  ·refine kW (decide_eq_true (by rw [Ab];omega)) ?_;exact⟨_,rfl,_,rfl,a,_,_,_,rfl,rfl,hS,uZ (show(ns.map V.int)[k]? =some (.int ns[k]) by rw [Ay,Al h];rfl),q' _⟩
  ·exact fJ (decide_eq_false (by rw [Ab];omega)) (q' 0)
def aBr:Fv:=λus R=>∃m:Int,us=[.wl,.n m]/\0<m/\m<2 ^ 62/\∀r:Int,0<=r->r<m->R (.sh (.n r))
def aPp:Fv:=λus R=>∃(c:Int) (k:Int),us=[.n c,.n k]/\∀r:Int,R (.sh (.n r))
theorem uR:aL ["_law_well_here","_law_most","_law_number"] ["_law_well_here","_law_most"] (aC qK):=⟨rfl,rfl,rfl,by decide+kernel,rfl,by decide+kernel,by decide+kernel⟩
theorem aQs (F:Fun K "_law_draw" "_law_draw" qK f fd) (c_twice:Cal P w K mg base CX0 2 "_law_twice" ["_law_cell_here","_law_k"] (spV aPp)):bB P w K mg base CX0 3 f fd ["_law_well_here","_law_most"] (spV aBr):=by
 refine F.ok uR (λvs H Q E h=>?_) (λcdv A outer s H vs Q E hr h=>?_)
 ·obtain⟨W,B,us,R,eb,ds,⟨m,rfl,_⟩,_⟩:=h;rw [<-ds.length];rfl
 ·obtain⟨W,B,us,R,eb,ds,⟨m,rfl,hm,hm2,hR⟩,q⟩:=h;obtain⟨v1,v2,rfl,⟨a,rfl,wa⟩,⟨rfl,_⟩⟩:=DUs.two ds;obtain⟨x,y,z,ha⟩:=eb.wo a wa;have up:∀{H':Hp} (x y z:Int),Fw W H H'->Fw W H (upd H' a (.lst [.int x,.int y,.int z])):=λ{H'} x y z f=>⟨λb o nw h=>(aP (λe:b=a=>nw (by rw [e];exact wa))).trans (f.fr b o nw h),λp hp=>by
   by_cases e:p=a
   ·exact⟨x,y,z,by rw [e,aK]⟩
   ·obtain⟨x',y',z',h⟩:=f.wo p hp;exact⟨x',y',z',(aP e).trans h⟩⟩
  have fin:∀(t:Int) (H':Hp),Fw W H H'->Q (.int (t % m)) H':=λt H' fw=>q _ _ _ (hR (t % m) (Jf t (by omega)) (Hq t hm)) fw ⟨rfl,rfl⟩;refine⟨_,(aJ (eQ (cL sJ (wM mJ (pv 0) dI (λ_ _=>rfl)) dI (cZ _)) (aJ (iB (i:=2) uR.nd rfl (Bw rfl) (pQ mW (wM mJ (pv 0) dI (λ_ _=>rfl)) (pv 1))) (aJ (aGl (pQ aLw (wM mJ (pv 0) dI (λ_ _=>rfl)) (pv 1)) (aN8 (pv 0) dI set_list)) (aR (cQ (pv 2))))) bY) (aJ (aGl (pQ tE (wM mJ (pv 0) dI (λ_ _=>rfl)) dI) (aN8 (pv 0) dI set_list)) (aR (cQ (pQ mW (aT7 c_twice (hr.mono (by omega)) rfl bG (aM (wM mJ (pv 0) dI (λ_ _=>rfl)) (aM (wM mJ (pv 0) dI (λ_ _=>rfl)) aZ))) (pv 1)))))),?_⟩;refine⟨_,rfl,a,_,_,_,rfl,rfl,SqL.of ha,rfl,_,_,rfl,rfl,_,rfl,?_⟩;refine aYr (λ_=>?_) (λ_=>?_)
  ·refine⟨_,rfl,a,_,_,_,rfl,rfl,SqL.of ha,rfl,_,rfl,_,_,rfl,rfl,hm,?_⟩;refine⟨_,rfl,a,_,_,_,rfl,rfl,SqL.of ha,rfl,_,rfl,_,_,rfl,rfl,⟨hm,hm2⟩,?_⟩;refine⟨_,rfl,a,_,_,0,rfl,rfl,ha,rfl,?_⟩;exact⟨_,rfl,fin _ _ (up _ _ _ eb.refl)⟩
  ·refine⟨_,rfl,a,_,_,_,rfl,rfl,SqL.of ha,rfl,_,_,rfl,rfl,?_⟩;refine⟨_,rfl,a,_,_,1,rfl,rfl,ha,rfl,?_⟩;have hb:(upd H a (.lst ([V.int x,V.int y,V.int z].set 1 (.int (y+1))))) a=some (.lst [.int x,.int (y+1),.int z]):=aK;have f1:Fw W H (upd H a (.lst ([V.int x,V.int y,V.int z].set 1 (.int (y+1))))):=up _ _ _ eb.refl;refine⟨_,rfl,a,_,_,_,rfl,rfl,SqL.of hb,rfl,_,rfl,a,_,_,_,rfl,rfl,SqL.of hb,rfl,?_⟩;refine⟨W,B,[.n z,.n (y+1)],λs=>∃r:Int,s= .sh (.n r),eb.to f1,⟨_,_,rfl,⟨rfl,rfl⟩,_,_,rfl,⟨rfl,rfl⟩,rfl⟩,⟨_,_,rfl,λr=>⟨r,rfl⟩⟩,λs v H' ⟨r,hs⟩ fw ro=>?_⟩;subst hs;obtain⟨rfl,_⟩:=ro;exact⟨_,rfl,_,_,rfl,rfl,hm,fin _ _ (f1.trans fw)⟩
end
end Q
namespace Q
open PySem PyProof.Rows L2 KR
theorem pull {α:Type} {g:α->U} {p:α->Prop}:∀{xs:List U},(∀x∈xs,∃a,x=g a/\p a)->∃as:List α,xs=as.map g/\∀a∈as,p a
 | [],_=>⟨[],rfl,nofun⟩
 |x::xs,h=>by
  obtain⟨a,rfl,ha⟩:=h x Af;obtain⟨as,rfl,hs⟩:=pull λy hy=>h y (Ae _ hy);exact⟨a::as,rfl,λb hb=>by
   rcases List.mem_cons.mp hb with rfl|hb
   ·exact ha
   ·exact hs b hb⟩
section
variable {P:Program} {w:World} {K:Ac} {mg:Str->Option Value} {base:Heap} {f C:Addr} {fd:FuncData} {N:Cn} {d:Nat}
theorem sU:aL ["_law_cell_here","_law_k","_law_number"] ["_law_cell_here","_law_k"] (aC oZ):=⟨rfl,rfl,rfl,by decide+kernel,rfl,by decide+kernel,by decide+kernel⟩
theorem aL2 (F:Fun K "_law_mixed" "_law_mixed" oZ f fd):bB P w K mg base CX0 1 f fd ["_law_cell_here","_law_k"] (spV aPp):=by
 refine vfn F sU (λcdv A outer s H E hr=>(aD (bF (i:=2) sU.nd (aU mW jK (aU kJ jK (aU bA bM (aU bA bM (aA 0) (aU kJ jK aF (aA 1))) aF) aF) aF)) (aG (aY (aU mW jK (aU kJ jK (aA 2) (aU bA bM (aU uH jK (aA 2) aF) aF)) aF))))) ?_;rintro _ R ⟨c,k,rfl,q⟩;refine⟨rfl,.inl ⟨by decide,by decide⟩,.inr ⟨by decide,by decide⟩,by show(0:Int)<2147483647;decide,?_⟩;exact⟨⟨by decide,by decide⟩,.inl (aXo _),by show(0:Int)<2147483647;decide,q _⟩
theorem sI:aL ["_law_cell_here","_law_k","_law_number"] ["_law_cell_here","_law_k"] (aC pI):=⟨rfl,rfl,rfl,by decide+kernel,rfl,by decide+kernel,by decide+kernel⟩
theorem aO4 (F:Fun K "_law_twice" "_law_twice" pI f fd) (c__law_mixed:Cal P w K mg base CX0 1 "_law_mixed" ["_law_cell_here","_law_k"] (spV aPp)):bB P w K mg base CX0 2 f fd ["_law_cell_here","_law_k"] (spV aPp):=by
 refine vfn F sI (λcdv A outer s H E hr=>(aD (bF (i:=2) sI.nd (aU mW jK (aU kJ jK (aU bA bM (aU bA bM (aO c__law_mixed (hr.mono (by decide)) rfl (aB (aA 0) (aB (aA 1) aH))) (aU kJ jK aF (aA 1))) aF) aF) aF)) (aG (aY (aU mW jK (aU kJ jK (aA 2) (aU bA bM (aU uH jK (aA 2) aF) aF)) aF))))) ?_;rintro _ R ⟨c,k,rfl,q⟩;refine⟨rfl,c,k,rfl,λr=>?_⟩;refine⟨.inl ⟨by decide,by decide⟩,.inr ⟨by decide,by decide⟩,by show(0:Int)<2147483647;decide,?_⟩;exact⟨⟨by decide,by decide⟩,.inl (aXo _),by show(0:Int)<2147483647;decide,q _⟩
def aRi (K:Ac):Fv:=λus R=>∃(ns:List Int) (k:Nat),us=[.op (aA4 K ns),.n (k:Int)]/\∀a b c:Int,R (.ow [.n a,.n b,.n c])
theorem vL:aL ["_law_script","_law_k","_law_cell_here"] ["_law_script","_law_k"] (aC rB):=⟨rfl,rfl,rfl,by decide+kernel,rfl,by decide+kernel,by decide+kernel⟩
theorem aQv (F:Fun K "_law_well" "_law_well" rB f fd) (c__law_cell:Cal P w K mg base CX0 1 "_law_cell" ["_law_script","_law_k"] (spV (aRm K))) (T:Txt mg):bB P w K mg base CX0 2 f fd ["_law_script","_law_k"] (spV (aRi K)):=by
 refine vfn F vL (λcdv A outer s H E hr=>(aD (bF (i:=2) vL.nd (aO c__law_cell (hr.mono (by decide)) rfl (aB (aA 0) (aB (aA 1) aH)))) (aG (aY (cB (aB (bT bC bR (cB (aB aF (aB (aA 2) aH))) (dU aBs aNk T.int Rk (aN (aCg aVt cC (aA 2) (aU aNq jK aF aF)) aX))) (aB aF (aB (aU bA bM (aA 2) (aA 1)) aH)))))))) ?_;rintro _ R ⟨ns,k,rfl,q⟩;refine⟨rfl,ns,k,rfl,λn=>?_⟩;have key:∀c:Bool,∃u,atI [U.n 0,U.n n] (if c=true then 1 else 0)=some u/\∃a,u= .n a:=λc=>by
  cases c
  ·exact⟨_,rfl,_,rfl⟩
  ·exact⟨_,rfl,_,rfl⟩
 obtain⟨u,e,a,rfl⟩:=key (decide ((10:Int) ^ (18:Int).toNat<=n));exact⟨⟨by decide,by decide,by decide⟩,_,e,q a 0 _⟩
def aIi:Fv:=λus R=>us=[.wl]/\∀(ns:List Int) (rs:List Rim),oJ ns->rs.length=ns.length->(∀r∈rs,r.ok)->R (.sh (.tp [.ls (ns.map U.n),.ls (rs.map Rim.u)]))
theorem aIx:∀(ns:List Int) (a m:Int),(∀n∈ns,1<=n/\n<=m)->0<=a->1<=m->ns.foldl (λa n=>a*n) a<=a*m ^ ns.length
 | [],a,m,_,_,_=>by simp
 |n::ns,a,m,h,ha,hm=>by
  have h1:=h n Af;have h2:=aIx ns (a*n) m (λk hk=>h k (Ae _ hk)) (Jn ha (by omega)) hm;rw [Fe,Ag,Int.pow_succ];refine Gu h2 ?_;have hp:0<=m ^ ns.length:=Int.pow_nonneg (by omega)
  calc a*n*m ^ ns.length<=a*m*m ^ ns.length:=Ks (Ky h1.2 ha) hp
   _=a*(m ^ ns.length*m):=by rw [Int.mul_assoc,Int.mul_comm m]
theorem aOi {ns:List Int} {k:Nat} {m:Int} (l:ns.length=k) (h:∀n∈ns,1<=n/\n<=m) (hk:(k=1/\m<=9)∨(k=2/\m<=4)∨(k=3/\m<=3)):oJ ns:=by
 have hm:∀M:Int,m<=M->∀n∈ns,1<=n/\n<=M:=λM hM n hn=>⟨(h n hn).1,Gu (h n hn).2 hM⟩;have hp:∀M:Int,m<=M->1<=M->rD ns<=1*M ^ ns.length:=λM hM h1=>aIx ns 1 M (hm M hM) (by decide) h1;rcases hk with ⟨rfl,e⟩|⟨rfl,e⟩|⟨rfl,e⟩
 ·have:=hp 9 e (by decide);rw [l]at this;exact⟨hm 9 e,by omega,by omega,Gu this (by decide)⟩
 ·have:=hp 4 e (by decide);rw [l]at this;exact⟨hm 9 (by omega),by omega,by omega,Gu this (by decide)⟩
 ·have:=hp 3 e (by decide);rw [l]at this;exact⟨hm 9 (by omega),by omega,by omega,Gu this (by decide)⟩
theorem eX (lo:Int) (n:Nat):(pR lo n).length=n:=by simp [pR]
abbrev uJ:List Str:=["_law_well_here","_law_many","_law_most","_law_sizes","_law_rims"]
theorem gK:aL ["_law_well_here","_law_many","_law_most","_law_sizes","_law_rims"] ["_law_well_here"] (aC iK):=⟨rfl,rfl,rfl,by decide+kernel,rfl,by decide+kernel,by decide+kernel⟩
theorem aI6 (F:Fun K "_law_lines" "_law_lines" iK f fd) (c__law_draw:Cal P w K mg base CX0 3 "_law_draw" ["_law_well_here","_law_most"] (spV aBr)) (T:Txt mg):bB P w K mg base CX0 4 f fd ["_law_well_here"] (spV aIi):=by
 refine vfn F gK (λcdv A outer s H E hr=>(aD (bF (i:=1) gK.nd (bT bC bR (cB (aB aF (aB aF (aB aF (aB aF (aB aF aH)))))) (aO c__law_draw (hr.mono (by decide)) rfl (aB (aA 0) (aB aF aH))))) (aD (bF (i:=2) gK.nd (bT bC bR (cB (aB (bT bC bR (cB (aB aF (aB aF (aB aF aH)))) (aU iD cC (aA 1) aF)) (aB aF aH))) (aU uH jK (aO c__law_draw (hr.mono (by decide)) rfl (aB (aA 0) (aB aF aH))) aF))) (aD (aH1 (i:=3) (own:=["_law_k"]) (cap:=[("_law_well_here",0),("_law_most",2)]) gK.nd (aC iK) uJ rfl rfl (λx h=>bQ h) (by decide+kernel) rfl (vic (iU T.range (aN (aA 1) aX))) (λcl C s2 H2 fp=>(bO (i:=0) (show(["_law_k","_law_well_here","_law_most"]:List Str).Nodup by decide+kernel) rfl (Bw rfl) (Cb rfl))) (dB (by decide)) (λcl C s2 H2 fp=>(aU bA bM aF (aO c__law_draw (hr.mono (by decide)) rfl (aB (aA 1) (aB (aA 2) aH)))))) (aD (aH1 (i:=4) (own:=["_law_k"]) (cap:=[("_law_well_here",0)]) gK.nd (aC iK) uJ rfl rfl (λx h=>bQ h) (by decide+kernel) rfl (vic (iU T.range (aN (aA 1) aX))) (λcl C s2 H2 fp=>(bO (i:=0) (show(["_law_k","_law_well_here"]:List Str).Nodup by decide+kernel) rfl (Bw rfl) (Cb rfl))) (dB (by decide)) (λcl C s2 H2 fp=>(bT bC bR (cB (aB (cW (aB bN (aB (aO c__law_draw (hr.mono (by decide)) rfl (aB (aA 1) (aB aF aH))) aH))) (aB (cW (aB bN aH)) (aB (cW (aB bN aH)) aH)))) (aO c__law_draw (hr.mono (by decide)) rfl (aB (aA 1) (aB aF aH)))))) (pF 4 (pF 3 (aG (aY (cW (aB (aA 3) (aB (aA 4) aH)))))))))))) ?_;rintro _ R ⟨rfl,q⟩;refine⟨rfl,5,rfl,by decide,by decide,λr h0 h5=>?_⟩;have key:∃k:Nat,(k=1∨k=2∨k=3)/\atI [U.n 1,U.n 1,U.n 2,U.n 2,U.n 3] r=some (.n (k:Int)):=by
  have:r=0∨r=1∨r=2∨r=3∨r=4:=by omega
  rcases this with rfl|rfl|rfl|rfl|rfl
  ·exact⟨1,by decide,rfl⟩
  ·exact⟨1,by decide,rfl⟩
  ·exact⟨2,by decide,rfl⟩
  ·exact⟨2,by decide,rfl⟩
  ·exact⟨3,by decide,rfl⟩
 obtain⟨k,hk,e⟩:=key;refine⟨_,e,?_⟩;have key2:∃M:Int,atI [U.n 9,U.n 4,U.n 3] ((k:Int)-1)=some (.n M)/\((k=1/\M=9)∨(k=2/\M=4)∨(k=3/\M=3)):=by
  rcases hk with rfl|rfl|rfl
  ·exact⟨9,rfl,by decide⟩
  ·exact⟨4,rfl,by decide⟩
  ·exact⟨3,rfl,by decide⟩
 obtain⟨M,eM,hM⟩:=key2;refine⟨_,eM,4,rfl,by decide,by decide,λr2 h0 h4=>?_⟩;have key3:∃m:Int,atI [U.n M,U.n 2] (r2 / 3)=some (.n m)/\1<=m/\((k=1/\m<=9)∨(k=2/\m<=4)∨(k=3/\m<=3))/\m<=9:=by
  have:r2 / 3=0∨r2 / 3=1:=by omega
  rcases this with h|h
  ·rw [h];exact⟨M,rfl,by omega,by omega,by omega⟩
  ·rw [h];exact⟨2,rfl,by omega,by omega,by omega⟩
 obtain⟨m,em,m1,mk,m9⟩:=key3;refine⟨⟨by decide,by decide⟩,_,em,?_⟩;refine⟨by omega,by omega,by rw [eX];omega,nO (λx=>∃n:Int,x= .n n/\(1<=n/\n<=m)) (λu hu c hc=>⟨m,rfl,by omega,by omega,λr3 a b=>hc _ ⟨1+r3,rfl,by omega,by omega⟩⟩) λxs xl xp=>?_⟩;obtain⟨ns,rfl,hn⟩:=pull xp;rw [Ab,eX]at xl;refine⟨by omega,by omega,by rw [eX];omega,nO (λx=>∃n:Rim,x=n.u/\n.ok) (λu hu c hc=>?_) λys yl yp=>?_⟩
 ·refine⟨50,rfl,by decide,by decide,λr4 a b=>⟨3,rfl,by decide,by decide,λr5 a5 b5=>?_⟩⟩;have:r5=0∨r5=1∨r5=2:=by omega
  rcases this with rfl|rfl|rfl
  ·exact⟨_,rfl,hc _ ⟨.fixed r4,rfl,by constructor<;>omega⟩⟩
  ·exact⟨_,rfl,hc _ ⟨.mirror,rfl,trivial⟩⟩
  ·exact⟨_,rfl,hc _ ⟨.round,rfl,trivial⟩⟩
 ·obtain⟨rs,rfl,hr⟩:=pull yp;rw [Ab,eX]at yl;exact q ns rs (aOi (k:=k) (by omega) hn mk) (by omega) hr
def aLu:Fv:=λus R=>∃k:Nat,us=[.wl,.n (k:Int)]/\k<=3/\∀y:Tk,wR y->y.2.length=k->R (.sh (tkU y))
abbrev aEg:List Str:=["_law_well_here","_law_many","_law_far","_law_steps"]
theorem oW:aL ["_law_well_here","_law_many","_law_far","_law_steps"] ["_law_well_here","_law_many"] (aC mF):=⟨rfl,rfl,rfl,by decide+kernel,rfl,by decide+kernel,by decide+kernel⟩
theorem aNs (F:Fun K "_law_take" "_law_take" mF f fd) (c__law_draw:Cal P w K mg base CX0 3 "_law_draw" ["_law_well_here","_law_most"] (spV aBr)) (T:Txt mg):bB P w K mg base CX0 4 f fd ["_law_well_here","_law_many"] (spV aLu):=by
 refine vfn F oW (λcdv A outer s H E hr=>(aD (bF (i:=2) oW.nd (bT bC bR (cB (aB aF (aB aF (aB aF (aB aF aH))))) (aO c__law_draw (hr.mono (by decide)) rfl (aB (aA 0) (aB aF aH))))) (aD (bF (i:=3) oW.nd (dU (wN rfl) aD3 T.tuple Lm (aN (lK (own:=["_law_k"]) (cap:=[("_law_well_here",0),("_law_far",2)]) (aC mF) aEg rfl rfl (λx h=>bQ h) (by decide+kernel) rfl (vic (iU T.range (aN (aA 1) aX))) (λcl C s2 H2 fp=>(bO (i:=0) (show(["_law_k","_law_well_here","_law_far"]:List Str).Nodup by decide+kernel) rfl (Bw rfl) (Cb rfl))) (dB (by decide)) (λcl C s2 H2 fp=>(aU iD cC (aO c__law_draw (hr.mono (by decide)) rfl (aB (aA 1) (aB (aU bA bM (aU kJ jK aF (aA 2)) aF) aH))) (aA 2)))) aX))) (aG (aY (cW (aB (aU bA bM aF (aU mW jK (aU uH jK (aO c__law_draw (hr.mono (by decide)) rfl (aB (aA 0) (aB aF aH))) aF) aF)) (aB (aA 3) aH)))))))) ?_;rintro _ R ⟨k,rfl,hk,q⟩;refine⟨rfl,4,rfl,by decide,by decide,λr h0 h4=>?_⟩;have key:∃m:Int,atI [U.n 1,U.n 2,U.n 2,U.n 9] r=some (.n m)/\1<=m/\m<=9:=by
  have:r=0∨r=1∨r=2∨r=3:=by omega
  rcases this with rfl|rfl|rfl|rfl
  ·exact⟨1,rfl,by decide,by decide⟩
  ·exact⟨2,rfl,by decide,by decide⟩
  ·exact⟨2,rfl,by decide,by decide⟩
  ·exact⟨9,rfl,by decide,by decide⟩
 obtain⟨m,em,m1,m9⟩:=key;refine⟨_,em,by omega,by omega,by rw [eX];omega,nO (λx=>∃n:Int,x= .n n/\(-9<=n/\n<=9)) (λu hu c hc=>⟨.inl ⟨by decide,by decide⟩,2*m+1,rfl,by omega,by omega,λr3 a b=>hc _ ⟨r3-m,rfl,by omega,by omega⟩⟩) λxs xl xp=>?_⟩;obtain⟨ss,rfl,hs⟩:=pull xp;rw [Ab,eX]at xl;refine⟨6,rfl,by decide,by decide,λr4 a b=>⟨⟨by decide,by decide⟩,by show(0:Int)<3;decide,?_⟩⟩;exact q (1+r4 / 2 % 3,ss) ⟨by show 1<=1+r4 / 2 % 3;omega,by show 1+r4 / 2 % 3<=3;omega,hs⟩ (by show ss.length=k;omega)
end
end Q
namespace Q
open PySem PyProof.Rows L2 KR
theorem aWu {a b:Str} {l m:List Nat} {R:Sl->Prop} (h1:a=tx l) (h2:b=tx m) (hz:l.length+m.length<=10000) (q:R (.sh (.s (tx (l++m))))):aU9 (.s a) (.s b) R:=by
 subst h1 h2;exact⟨by rw [gC,gC];exact hz,by rw [gF];exact q⟩
theorem xK {a b:Str} {l m:List Nat} (h1:a=tx l) (h2:b=tx m) (hz:l.length+m.length<=10000):a.length+b.length<=10000:=by rw [h1,h2,gC,gC];exact hz
theorem rN (g:Tm->U):∀(ts:List Tm) (n:Nat),(ts.map g).eraseIdx n=(ts.eraseIdx n).map g
 | [],_=>rfl
 |_::_,0=>rfl
 |a::ts,n+1=>by rw [Aw,Ge,Ge,Aw,rN g ts n]
def tU (t:Tm):U:= .s (tx (txt t))
theorem aNg (k:Fin 5):opn k=tx (sgn (opn k)):=aFd _
structure Wd (ys:List Tk) (ts:List Tm):Prop where
 ok:∀t∈ts,lB t
 hs:(ts.map ht).sum<=7
 ps:(ts.map dD).sum+2*ts.length<=21
 ne:1<=ts.length
 rw_:∀x,x∈ys↔ ∃t∈ts,x∈raw t
theorem jG {g:Tm->Nat}:∀{ts:List Tm} {n:Nat} {t:Tm},ts[n]? =some t->(ts.map g).sum=g t+((ts.eraseIdx n).map g).sum
 | [],_,_,h=>by simp at h
 |a::ts,0,t,h=>by simp at h;subst h;simp
 |a::ts,n+1,t,h=>by
  have:=jG (g:=g) (ts:=ts) (n:=n) (t:=t) (by simpa using h);simp only [Aw,Fg,Ge,this];omega
theorem dR {ts:List Tm} {n:Nat} {t x:Tm} (h:ts[n]? =some t):x∈ts↔x=t∨x∈ts.eraseIdx n:=by
 induction ts generalizing n with
 |nil=>simp at h
 |cons a ts ih=>
  cases n with
  |zero=>simp at h;subst h;simp
  |succ n=>
   have:=ih (n:=n) (by simpa using h);simp only [Bi,Ge,this];constructor
   ·rintro(h|h|h)<;>simp [h]
   ·rintro(h|h|h)<;>simp [h]
theorem iH {ts:List Tm} {n:Nat} {t:Tm} (h:ts[n]? =some t):ts.length=(ts.eraseIdx n).length+1:=by
 have:=(List.getElem?_eq_some_iff.mp h).1;rw [List.length_eraseIdx];split<;>omega
theorem Wd.join {ys:List Tk} {ts:List Tm} {i j:Nat} {a b c:Tm} (w:Wd ys ts) (h1:ts[i]? =some a) (h2:(ts.eraseIdx i)[j]? =some b) (hc:lB c) (hh:ht c<=ht a+ht b) (hp:dD c<=dD a+dD b+2) (hr:∀x,x∈raw c↔x∈raw a∨x∈raw b):Wd ys ((ts.eraseIdx i).eraseIdx j++[c]):=by
 have l1:=iH h1;have l2:=iH h2;refine⟨λt ht=>?_,?_,?_,?_,λx=>?_⟩
 ·rcases List.mem_append.mp ht with h|h
  ·exact w.ok t ((dR h1).mpr (.inr ((dR h2).mpr (.inr h))))
  ·rw [List.mem_singleton.mp h];exact hc
 ·have s1:=jG (g:=ht) h1;have s2:=jG (g:=ht) h2;have:=w.hs;simp only [Bc,He,Aw,Du,Fg,Ss];omega
 ·have s1:=jG (g:=dD) h1;have s2:=jG (g:=dD) h2;have:=w.ps;simp only [Bc,He,Aw,Du,Fg,Ss,Ah,Ag,Bd];omega
 ·rw [Ah];show 1<=_+1;omega
 ·rw [w.rw_ x];constructor
  ·rintro⟨t,h,hx⟩;rcases (dR h1).mp h with rfl|h
   ·exact⟨c,by simp,(hr x).mpr (.inl hx)⟩
   ·rcases (dR h2).mp h with rfl|h
    ·exact⟨c,by simp,(hr x).mpr (.inr hx)⟩
    ·exact⟨t,Fl _ h,hx⟩
  ·rintro⟨t,h,hx⟩;rcases List.mem_append.mp h with h|h
   ·exact⟨t,(dR h1).mpr (.inr ((dR h2).mpr (.inr h))),hx⟩
   ·rw [List.mem_singleton.mp h]at hx;rcases (hr x).mp hx with hx|hx
    ·exact⟨a,(dR h1).mpr (.inl rfl),hx⟩
    ·exact⟨b,(dR h1).mpr (.inr ((dR h2).mpr (.inl rfl))),hx⟩
theorem Wd.len {ys:List Tk} {ts:List Tm} (w:Wd ys ts) {t:Tm} (h:t∈ts):(txt t).length<=1400/\ht t<=7/\dD t<=19:=by
 have h1:=mG (w.ok t h);obtain⟨n,hn,e⟩:=Fs h;have hg:ts[n]? =some t:=by rw [Al hn,e]
 have s1:=jG (g:=ht) hg;have s2:=jG (g:=dD) hg;have:=w.hs;have:=w.ps;have:=w.ne;omega
def aGr:Fv:=λus R=>∃ys:List Tk,us=[.wl,.ls (ys.map tkU)]/\ys.length<=6/\(∀y∈ys,wR y/\1<=y.2.length/\y.2.length<=3)/\∀t,lB t->ht t<=7->dD t<=19->(∀x,x∈ys↔x∈raw t)->R (.sh (tU t))
section
variable {P:Program} {w:World} {K:Ac} {mg:Str->Option Value} {base:Heap} {f C:Addr} {fd:FuncData} {N:Cn} {d:Nat}
abbrev aEq:List Str:=["_law_well_here","_law_takes","_law_words","_law_way","_law_one","_law_two"]
theorem eE:aL ["_law_well_here","_law_takes","_law_words","_law_way","_law_one","_law_two"] ["_law_well_here","_law_takes"] (aC mK):=⟨rfl,rfl,rfl,by decide+kernel,rfl,by decide+kernel,by decide+kernel⟩
theorem aOu (F:Fun K "_law_term" "_law_term" mK f fd) (c__law_draw:Cal P w K mg base CX0 3 "_law_draw" ["_law_well_here","_law_most"] (spV aBr)) (T:Txt mg):bB P w K mg base CX0 4 f fd ["_law_well_here","_law_takes"] (spV aGr):=by
 refine vfn F eE (λcdv A outer s H E hr=>(aD (aH1 (i:=2) (own:=["_law_back","_law_steps"]) (cap:=[]) eE.nd (aC mK) aEq rfl rfl (λx h=>bQ h) (by decide+kernel) rfl (vic (cH (aA 1))) (λcl C s2 H2 fp=>(aCp rfl (lN (bO (i:=0) (show(["_law_back","_law_steps"]:List Str).Nodup by decide+kernel) rfl (Bw rfl) (Cb rfl)) (lN (bO (i:=1) (show(["_law_back","_law_steps"]:List Str).Nodup by decide+kernel) rfl (Bw rfl) (Cb rfl)) yE)))) (aF9 (is:=[0,1]) rfl (by decide)) (λcl C s2 H2 fp=>(aU bA bM (aU bA bM bN (aQ9 bN (aN (aU bA bM (cB (aB (dU rJ aCj T.str Mu (aN (aA 0) aX)) aH)) (aTa (own:=["_law_step"]) (by decide+kernel) rfl (vic (aKq (aA 1))) (λcl C s2 H2 fp=>(bO (i:=0) (show(["_law_step"]:List Str).Nodup by decide+kernel) rfl (Bw rfl) (Cb rfl))) (dB (by decide)) (λcl C s2 H2 fp=>(dU rJ aCj T.str Mu (aN (aA 0) aX))))) aX))) bN))) (aD (bF (i:=2) eE.nd (aU bA bM (aA 2) (cB (aB (dU rJ aCj T.str Mu (aN (aU iD cC (aO c__law_draw (hr.mono (by decide)) rfl (aB (aA 0) (aB aF aH))) aF) aX)) aH)))) (aD (aD0 Bf (cI sJ cC (bI aV dM T.len Ee (aN (aA 2) aX)) aF) (aD (bF (i:=3) eE.nd (aO c__law_draw (hr.mono (by decide)) rfl (aB (aA 0) (aB aF aH)))) (aD (aHf (i:=4) 2 eE.nd (aO c__law_draw (hr.mono (by decide)) rfl (aB (aA 0) (aB (bI aV dM T.len Ee (aN (aA 2) aX)) aH)))) (aG (cU (cI uK cC (aA 3) aF) (aD (aHf (i:=5) 2 eE.nd (aO c__law_draw (hr.mono (by decide)) rfl (aB (aA 0) (aB (bI aV dM T.len Ee (aN (aA 2) aX)) aH)))) (aG (zJ 2 (aU bA bM (aU bA bM (aU bA bM (aU bA bM (aU bA bM (aU bA bM bN (aA 4)) bN) (bT bC bR (cB (aB bN (aB bN (aB bN (aB bN (aB bN aH)))))) (aA 3))) bN) (aA 5)) bN)))) (aD (aHf (i:=5) 2 eE.nd (aO c__law_draw (hr.mono (by decide)) rfl (aB (aA 0) (aB (bI aV dM T.len Ee (aN (aA 2) aX)) aH)))) (aG (zJ 2 (aU bA bM (aU bA bM (aU bA bM (aU bA bM (aU bA bM (aU bA bM bN (aA 4)) bN) (aA 5)) bN) (dU rJ aCj T.str Mu (aN (aO c__law_draw (hr.mono (by decide)) rfl (aB (aA 0) (aB aF aH))) aX))) bN))))))))) (aG (aY (bT bC bR (aA 2) aF))))))) ?_;rintro _ R ⟨ys,rfl,yl,yg,q⟩;have b14:∀s:Int,(-9<=s/\s<=9)->(itx s).length<=14/\s.natAbs.log2<1920:=λs h=>⟨rO (by omega),wK (by omega)⟩;refine⟨rfl,by rw [Ab];omega,?_⟩;have words:∀{f:U->(Option U->Prop)->Prop} {Q:List U->Prop},(∀y∈ys,∀k:Option U->Prop,k (some (tU (.take y.1 y.2)))->f (tkU y) k)->Q (ys.map λy=>tU (.take y.1 y.2))->iI f (ys.map tkU) [] Q:=by
  intro f Q hf hq;have key:∀(zs:List Tk) (acc:List U),(∀y∈zs,∀k:Option U->Prop,k (some (tU (.take y.1 y.2)))->f (tkU y) k)->Q (acc++zs.map λy=>tU (.take y.1 y.2))->iI f (zs.map tkU) acc Q:=by
   intro zs;induction zs with
   |nil=>exactλacc _ q=>by rw [Du,Bo]at q;exact q
   |cons z zs ih=>exactλacc hf q=>hf z Af _ (ih _ (λy hy=>hf y (Ae _ hy)) (by rw [Bj];exact q))
  exact key ys [] hf hq
 refine words (λy hy k hk=>?_) ?_
 ·obtain⟨⟨g1,g2,g3⟩,g4,g5⟩:=yg y hy;refine⟨rfl,[32],congrArg U.s (bL [32] rfl),(b14 y.1 (by omega)).2,by rw [Ab];omega,fH (h:=λu=>match u with| .v (.int i)=> .s (tx (itx i))|u=>u) (λu hu c hc=>?_) ?_⟩
  ·obtain⟨s,hs,rfl⟩:=List.mem_map.mp hu;exact⟨(b14 s (g3 s hs)).2,hc⟩
  ·have es:(y.2.map U.n).map (λu=>match u with| .v (.int i)=>U.s (tx (itx i))|u=>u)=aA7 (y.2.map itx):=by unfold aA7;rw [Bl,Bl];rfl
   rw [Ec,es];have gl:(glu [32] (itx y.1::y.2.map itx)).length<=(itx y.1::y.2.map itx).length*(14+1):=aCr [32] _ 14 λl hl=>by
    rcases List.mem_cons.mp hl with rfl|hl
    ·exact(b14 y.1 (by omega)).1
    ·obtain⟨s,hs,rfl⟩:=List.mem_map.mp hl;exact(b14 s (g3 s hs)).1
   have sl:((itx y.1::y.2.map itx).map Cd).sum<=(itx y.1::y.2.map itx).length*14:=by
    have key:∀ls:List (List Nat),(∀l∈ls,l.length<=14)->(ls.map Cd).sum<=ls.length*14:=by
     intro ls;induction ls with
     |nil=>exactλ_=>Am _
     |cons a ls ih=>
      intro h;have:=ih λl hl=>h l (Ae _ hl);have:=h a Af;rw [Aw,Fg,Ag];omega
    refine key _ λl hl=>?_;rcases List.mem_cons.mp hl with rfl|hl
    ·exact(b14 y.1 (by omega)).1
    ·obtain⟨s,hs,rfl⟩:=List.mem_map.mp hl;exact(b14 s (g3 s hs)).1
   have ln:(itx y.1::y.2.map itx).length<=4:=by rw [Ag,Ab];omega
   refine⟨by show 1+(aA7 (y.2.map itx)).length<=10000;unfold aA7;rw [Ab,Ab];omega,itx y.1::y.2.map itx,rfl,by show _+_*1<=_;omega,?_⟩;refine aWu (l:=[91]) (bL [91] rfl) rfl (by show 1+_<=_;omega) ?_;refine aWu (R:=λs=>s.es λx=>k (some x)) (m:=[93]) rfl (bL [93] rfl) (by simp only [Ah,Ag,Bd];simp only [Ag,Ab]at gl;omega) ?_;exact hk
 ·refine⟨30,rfl,by decide,by decide,λr h0 h1=>⟨wK (by omega),?_⟩⟩;refine⟨by show _+1<=10000;rw [Ab];omega,?_⟩;have w0:Wd ys (ys.map (λy=>Tm.take y.1 y.2)++[.num (r-9)]):=by
   refine⟨λt ht=>?_,?_,?_,by simp,λx=>?_⟩
   ·rcases List.mem_append.mp ht with h|h
    ·obtain⟨y,hy,rfl⟩:=List.mem_map.mp h;exact⟨trivial,λx hx=>by rw [List.mem_singleton.mp hx];exact yg y hy⟩
    ·rw [List.mem_singleton.mp h];exact⟨by simp only [Wf];omega,λx hx=>nomatch hx⟩
   ·have:∀zs:List Tk,((zs.map λy=>Tm.take y.1 y.2).map ht).sum=zs.length:=λzs=>by induction zs with|nil=>rfl|cons a l ih=>rw [Aw,Aw,Fg,ih,Ag];simp [ht];omega
    rw [Bc,He,this];simp [ht];omega
   ·have:∀zs:List Tk,((zs.map λy=>Tm.take y.1 y.2).map dD).sum=zs.length:=λzs=>by induction zs with|nil=>rfl|cons a l ih=>rw [Aw,Aw,Fg,ih,Ag];simp [dD];omega
    rw [Bc,He,this,Ah,Ab];simp [dD];omega
   ·constructor
    ·intro hx;exact⟨.take x.1 x.2,Fl _ (List.mem_map.mpr ⟨x,hx,rfl⟩),Af⟩
    ·rintro⟨t,ht,hx⟩;rcases List.mem_append.mp ht with h|h
     ·obtain⟨y,hy,rfl⟩:=List.mem_map.mp h;rw [List.mem_singleton.mp hx];exact hy
     ·rw [List.mem_singleton.mp h]at hx;exact nomatch hx
  refine⟨λm ρ=>∃(ts:List Tm) (x y z:Sl),m=ts.length/\Wd ys ts/\ρ=[.sh .wl,.sh (.ls (ys.map tkU)),.ow (ts.map tU),x,y,z],⟨_,_,.no,.no,.no,rfl,w0,?_⟩,?_⟩
  ·rw [Bc,Bl];rfl
  ·rintro m ρ ⟨ts,x,y,z,rfl,wd,rfl⟩;have tl:(ts.map tU).length=ts.length:=Ab ..;have t7:ts.length<=10:=by have:=wd.ps;omega
   have tg:∀{n:Nat} {u:Tm},ts[n]? =some u->(ts.map tU)[n]? =some (tU u):=λh=>by rw [Ay,h];rfl
   refine⟨λhc=>?_,λhc=>?_⟩
   ·have hc:=of_decide_eq_true hc;rw [tl]at hc;refine⟨7,rfl,by decide,by decide,λway a0 a7=>?_⟩;refine⟨_,rfl,by rw [tl];omega,by rw [tl];omega,λi i0 i1=>?_⟩;rw [tl]at i1;obtain⟨n,rfl⟩:=Ij i0;obtain⟨a,ha⟩:∃a,ts[n]? =some a:=⟨_,Al (by omega)⟩;have ham:=Bt ha;refine⟨n,tU a,rfl,tg ha,by omega,?_⟩;have l1:=iH ha;have te:(ts.map tU).eraseIdx n=(ts.eraseIdx n).map tU:=rN ..;have bl:=wd.len ham;refine⟨λhw=>?_,λhw=>?_⟩
    ·refine⟨_,rfl,by rw [te,Ab];omega,by rw [te,Ab];omega,λi2 j0 j1=>?_⟩;rw [te,Ab]at j1;obtain⟨n2,rfl⟩:=Ij j0;obtain⟨b,hb⟩:∃b,(ts.eraseIdx n)[n2]? =some b:=⟨_,Al (by omega)⟩;have hbm:b∈ts:=(dR ha).mpr (.inr (Bt hb));have bl2:=wd.len hbm;have l2:=iH hb;refine⟨n2,tU b,rfl,by rw [te,Ay,hb];rfl,by rw [te,Ab];omega,?_⟩;have te2:((ts.map tU).eraseIdx n).eraseIdx n2=((ts.eraseIdx n).eraseIdx n2).map tU:=by rw [te];exact rN ..
     refine⟨by rw [te2,Ab];omega,?_⟩;have hway:=of_decide_eq_true hw;obtain⟨k,hk⟩:∃k:Fin 5,atI [U.s "+",U.s "-",U.s "*",U.s "min",U.s "max"] way=some (.s (opn k)):=by
      have:way=0∨way=1∨way=2∨way=3∨way=4:=by omega
      rcases this with rfl|rfl|rfl|rfl|rfl
      ·exact⟨0,rfl⟩
      ·exact⟨1,rfl⟩
      ·exact⟨2,rfl⟩
      ·exact⟨3,rfl⟩
      ·exact⟨4,rfl⟩
     have ol:=aHo k;have e1:As "("++tx (txt a)=tx ([40]++txt a):=by rw [bL (x:="(") [40] rfl,gF]
     have e2:As "("++tx (txt a)++As " "=tx ([40]++txt a++[32]):=by rw [e1,bL (x:=" ") [32] rfl,gF]
     have e3:As "("++tx (txt a)++As " "++opn k=tx ([40]++txt a++[32]++sgn (opn k)):=by
      rw [e2];exact(congrArg (λz=>tx ([40]++txt a++[32])++z) (aNg k)).trans (gF ..)
     have e4:As "("++tx (txt a)++As " "++opn k++As " "=tx ([40]++txt a++[32]++sgn (opn k)++[32]):=by rw [e3,bL (x:=" ") [32] rfl,gF]
     have e5:As "("++tx (txt a)++As " "++opn k++As " "++tx (txt b)=tx ([40]++txt a++[32]++sgn (opn k)++[32]++txt b):=by rw [e4,gF]
     have e6:As "("++tx (txt a)++As " "++opn k++As " "++tx (txt b)++As ")"=tx (txt (.bin k a b)):=by
      rw [e5,bL (x:=")") [41] rfl,gF];simp [txt]
     refine⟨xK (bL [40] rfl) rfl (by simp only [Ah,Ag,Bd];omega),xK e1 (bL [32] rfl) (by simp only [Ah,Ag,Bd];omega),_,hk,xK e2 (aNg k) (by simp only [Ah,Ag,Bd];omega),xK e3 (bL [32] rfl) (by simp only [Ah,Ag,Bd];omega),xK e4 rfl (by simp only [Ah,Ag,Bd];omega),xK e5 (bL [41] rfl) (by simp only [Ah,Ag,Bd];omega),?_⟩;have okc:lB (.bin k a b):=⟨⟨(wd.ok a ham).1,(wd.ok b hbm).1⟩,λx hx=>(List.mem_append.mp hx).elim ((wd.ok a ham).2 x) ((wd.ok b hbm).2 x)⟩;have pa:=pC a;have pb:=pC b;refine⟨_,?_,_,.sh (.n way),.sh (tU a),.sh (tU b),rfl,wd.join ha hb okc (by simp only [ht];omega) (by simp only [dD];omega) (λx=>Gd),?_⟩
     ·rw [Ah];show _+1<_;omega
     ·rw [te2,Bc,e6];rfl
    ·refine⟨_,rfl,by rw [te,Ab];omega,by rw [te,Ab];omega,λi2 j0 j1=>?_⟩;rw [te,Ab]at j1;obtain⟨n2,rfl⟩:=Ij j0;obtain⟨b,hb⟩:∃b,(ts.eraseIdx n)[n2]? =some b:=⟨_,Al (by omega)⟩;have hbm:b∈ts:=(dR ha).mpr (.inr (Bt hb));have bl2:=wd.len hbm;have l2:=iH hb;refine⟨n2,tU b,rfl,by rw [te,Ay,hb];rfl,by rw [te,Ab];omega,?_⟩;have te2:((ts.map tU).eraseIdx n).eraseIdx n2=((ts.eraseIdx n).eraseIdx n2).map tU:=by rw [te];exact rN ..
     refine⟨by rw [te2,Ab];omega,?_⟩;have e1:As "("++tx (txt a)=tx ([40]++txt a):=by rw [bL (x:="(") [40] rfl,gF]
     have e2:As "("++tx (txt a)++As " ? "=tx ([40]++txt a++[32,63,32]):=by rw [e1,bL (x:=" ? ") [32,63,32] rfl,gF]
     have e3:As "("++tx (txt a)++As " ? "++tx (txt b)=tx ([40]++txt a++[32,63,32]++txt b):=by rw [e2,gF]
     have e4:As "("++tx (txt a)++As " ? "++tx (txt b)++As " : "=tx ([40]++txt a++[32,63,32]++txt b++[32,58,32]):=by rw [e3,bL (x:=" : ") [32,58,32] rfl,gF]
     refine⟨xK (bL [40] rfl) rfl (by simp only [Ah,Ag,Bd];omega),xK e1 (bL [32,63,32] rfl) (by simp only [Ah,Ag,Bd];omega),xK e2 rfl (by simp only [Ah,Ag,Bd];omega),xK e3 (bL [32,58,32] rfl) (by simp only [Ah,Ag,Bd];omega),9,rfl,by decide,by decide,λc c0 c9=>⟨wK (by omega),?_⟩⟩;have cl:=rO (n:=c) (by omega);have e5:As "("++tx (txt a)++As " ? "++tx (txt b)++As " : "++tx (itx c)=tx ([40]++txt a++[32,63,32]++txt b++[32,58,32]++itx c):=by rw [e4,gF]
     have e6:As "("++tx (txt a)++As " ? "++tx (txt b)++As " : "++tx (itx c)++As ")"=tx (txt (.cho a b (.num c))):=by
      rw [e5,bL (x:=")") [41] rfl,gF];simp [txt]
     refine⟨xK e4 rfl (by simp only [Ah,Ag,Bd];omega),xK e5 (bL [41] rfl) (by simp only [Ah,Ag,Bd];omega),?_⟩;have okc:lB (.cho a b (.num c)):=⟨⟨(wd.ok a ham).1,(wd.ok b hbm).1,by simp only [Wf];omega⟩,λx hx=>(List.mem_append.mp hx).elim ((wd.ok a ham).2 x) λh=>(List.mem_append.mp h).elim ((wd.ok b hbm).2 x) nofun⟩;have pa:=pC a;have pb:=pC b;refine⟨_,?_,_,.sh (.n way),.sh (tU a),.sh (tU b),rfl,wd.join ha hb okc (by simp only [ht];omega) (by simp only [dD];omega) (λx=>by simp [raw]),?_⟩
     ·rw [Ah];show _+1<_;omega
     ·rw [te2,Bc,e6];rfl
   ·have hc:=of_decide_eq_false hc;rw [tl]at hc;match ts,wd,hc with
    | [t],wd,_=>
     have:=wd.len (t:=t) (by simp);exact⟨_,rfl,q t (wd.ok t (by simp)) this.2.1 this.2.2 λx=>by rw [wd.rw_ x];simp⟩
    | [],wd,_=>exact absurd wd.ne (by decide)
    |_::_::_,_,hc=>rw [Ag,Ag]at hc;omega
end
end Q
namespace Q
open PySem PyProof.Rows L2 KR
structure aXi (ys:List Tk) (n:Nat):Prop where
 gt:∀y∈ys,wR y/\y.2.length=n
 yl:ys.length<=17
 n3:n<=3
theorem aEr {α:Type} {g:Tk->U} {f:U->(Option U->Prop)->Prop} {Q:List U->Prop} {ys:List Tk} (hf:∀y∈ys,∀k:Option U->Prop,k (some (g y))->f (tkU y) k) (hq:Q (ys.map g)):iI f (ys.map tkU) [] Q:=by
 have key:∀(zs:List Tk) (acc:List U),(∀y∈zs,∀k:Option U->Prop,k (some (g y))->f (tkU y) k)->Q (acc++zs.map g)->iI f (zs.map tkU) acc Q:=by
  intro zs;induction zs with
  |nil=>exactλacc _ q=>by rw [Du,Bo]at q;exact q
  |cons z zs ih=>exactλacc hf q=>hf z Af _ (ih _ (λy hy=>hf y (Ae _ hy)) (by rw [Bj];exact q))
 exact key ys [] hf hq
section
variable {P:Program} {w:World} {K:Ac} {mg:Str->Option Value} {base:Heap} {f C:Addr} {fd:FuncData} {N:Cn} {d:Nat}
theorem aSb {t:Tm} {n:Nat} {zs:List Tk} (ok:lB t) (ln:Ln t n) (h:rE t zs):aXi zs n:=⟨λy hy=>⟨(ok.2 y ((h.2 y).mp hy)).1,ln.2.1 y ((h.2 y).mp hy)⟩,yO ln.few h,by have:=ln.1;omega⟩
theorem aE1 (n:Nat) (ns:List Int):U.dts n (ns.map U.n):=by
 induction ns with
 |nil=>cases n<;>trivial
 |cons r rs ih=>cases n<;>exact⟨trivial,ih⟩
theorem yK (n:Nat) (ys:List Tk):U.dts (n+2) (ys.map tkU):=by
 induction ys with
 |nil=>trivial
 |cons y ys ih=>exact⟨⟨trivial,aE1 n y.2,trivial⟩,ih⟩
end
end Q
namespace Q
open PySem PyProof.Rows L2 KR
abbrev wNm:List Str:=["sizes","rims","places","rounds","takes","deep","modulus","term","first","spots"]
def wU (ns:List Int) (rs:List Rim) (pl:List U) (r:Int) (ys:List Tk) (dp m:Int) (t:Tm) (ls:List (List Int)) (sp:List U):U:=
 .dk wNm [.ls (ns.map U.n),.ls (rs.map Rim.u),.ls pl,.n r,.ls (ys.map tkU),.n dp,.n m,tU t,.ls (jC ls),.ls sp]
def pU (p:List Int):U:= .tp (p.map U.n)
def ext (n:Int) (p:List Int):List (List Int):=(Bp n.toNat).map λ(i:Nat)=>p++[0+(i:Int)]
def zB (ns:List Int):List (List Int):=ns.foldl (λps n=>ps.flatMap (ext n)) [[]]
abbrev plU (ns:List Int):List U:=(zB ns).map pU
def spU (pl:List U) (n:Nat):List U:=(Bp n).flatMap λ(j:Nat)=>pl.map λu=> .tp [.n (1+(j:Int)),u]
structure GoodW (ns:List Int) (rs:List Rim) (r:Int) (ys:List Tk) (m:Int) (t:Tm) (ls:List (List Int)):Prop where
 gj:aSh ns rs t m r ls
 pr:dD t<=40
 tk:rE t ys
def aOy (K:Ac):Fv:=λus R=>∃(sc:List Int) (k:Nat) (mo:Int),us=[.op (aA4 K sc),.n (k:Int),.n mo]/\1<=mo/\mo<=120/\∀ns rs r ys dp m t ls,GoodW ns rs r ys m t ls->R (.sh (wU ns rs (plU ns) r ys dp m t ls (spU (plU ns) r.toNat)))
def aRl (N:Cn) (CG CJ:Addr):Fv:=λus R=>∃ns rs pl r ys dp m t ls sp,us=[wU ns rs pl r ys dp m t ls sp]/\GoodW ns rs r ys m t ls/\∀zs,rE t zs->R (.sh (aDh N CG CJ ns rs t zs m r ls))
section
variable {P:Program} {w:World} {K:Ac} {mg:Str->Option Value} {base:Heap} {f C:Addr} {fd:FuncData} {N:Cn} {d:Nat}
theorem aB9 {x:Str} {u:U} {R:Sl->Prop} (q:R (.sh u)):∀{xs:List Str} {us:List U} {k:Nat},xs.Nodup->xs[k]? =some x->us[k]? =some u->wI x xs us R
 | [],_,_,_,h,_=>by simp at h
 |_::_,[],_,_,_,h=>by simp at h
 |a::xs,v::us,0,_,h1,h2=>by
  simp at h1 h2;subst h1 h2;exact .inl ⟨rfl,q⟩
 |a::xs,v::us,k+1,nd,h1,h2=>by
  have h1:xs[k]? =some x:=by simpa using h1
  refine .inr ⟨λe=>?_,aB9 q (List.nodup_cons.mp nd).2 h1 (by simpa using h2)⟩;subst e;exact(List.nodup_cons.mp nd).1 (Bt h1)
theorem wF {x:Str} {us:List U} {R:Sl->Prop} {u:U} (k:Nat) (hx:wNm[k]? =some x) (hu:us[k]? =some u) (q:R (.sh u)):wI x wNm us R:=aB9 q (by decide+kernel) hx hu
theorem wO:aL ["_law_world_here","_law_grid"] ["_law_world_here"] (aC tX):=⟨rfl,rfl,rfl,by decide+kernel,rfl,by decide+kernel,by decide+kernel⟩
theorem aQ6 {CG CJ:Addr} (F:Fun K "_law_job" "_law_job" tX f fd) (M_Grid:MkU P w K mg base 5 CG "Grid" ["self","sizes","rims"] aHc) (M_Job:MkU P w K mg base 14 CJ "Job" ["self","grid","term","modulus","rounds","first"] (aHg N CG)) (c_read_term:Cal P w K mg base CX0 29 "read_term" ["text"] (spV (aMq N))) (T:Txt mg):bB P w K mg base CX0 30 f fd ["_law_world_here"] (spV (aRl N CG CJ)):=by
 refine vfn F wO (λcdv A outer s H E hr=>(aD (bF (i:=1) wO.nd (aI2 M_Grid (hr.mono (by decide)) (aB (dU (lY rfl) uM T.list Iq (aN (lV (qP hr) (aA 0)) aX)) (aB (dU (lY rfl) uM T.list Iq (aN (lV (qP hr) (aA 0)) aX)) aH)))) (aG (aY (aI2 M_Job (hr.mono (by decide)) (aB (aA 1) (aB (aO c_read_term (hr.mono (by decide)) rfl (aB (lV (qP hr) (aA 0)) aH)) (aB (lV (qP hr) (aA 0)) (aB (lV (qP hr) (aA 0)) (aB (lV (qP hr) (aA 0)) aH)))))))))) ?_;rintro _ R ⟨ns,rs,pl,r,ys,dp,m,t,ls,sp,rfl,g,q⟩;refine⟨rfl,wF 0 rfl rfl (wF 1 rfl rfl ⟨ns,rs,rfl,g.gj.gs,g.gj.el,g.gj.rk,?_⟩)⟩;refine wF 7 rfl rfl ⟨t,_,rfl,g.gj.hd,g.gj.ok,g.pr,g.gj.ln,wF 6 rfl rfl (wF 3 rfl rfl (wF 8 rfl rfl ?_))⟩;exact⟨ns,rs,t,m,r,ls,rfl,g.gj,λzs hz=>q zs hz⟩
end
end Q
namespace Q
open PySem PyProof.Rows L2 KR
section
variable {P:Program} {w:World} {K:Ac} {mg:Str->Option Value} {base:Heap} {f C:Addr} {fd:FuncData} {N:Cn} {d:Nat}
structure Drawn (ys zs:List Tk) (dp m:Int) (t:Tm) (ls:List (List Int)) (n:Nat):Prop where
 so:zs.Pairwise λx y=>lQ x y=true
 mem:∀y,y∈zs↔y∈ys
 d1:dp∈(1:Int)::ys.map (·.1)
 dm:∀a∈(1:Int)::ys.map (·.1),a<=dp
 m2:2<=m/\m<=1000000000
 ok:lB t
 hd:ht t<=7
 pr:dD t<=19
 rw_:∀x,x∈ys↔x∈raw t
 ll:(ls.length:Int)=dp
 lo:∀l∈ls,l.length=n/\∀x∈l,0<=x/\x<m
mutual
theorem aRu:∀{n m:Nat},n<=m->∀u:U,U.dt n u->U.dt m u
 |_,_,_,.v _,_=>by unfold U.dt;trivial
 |n+1,m+1,h,.tp l,t=>aF6 (Nr h) l t
 |n+1,m+1,h,.ls l,t=>aF6 (Nr h) l t
theorem aF6:∀{n m:Nat},n<=m->∀l:List U,U.dts n l->U.dts m l
 |_,_,_,[],_=>by unfold U.dts;trivial
 |_,_,h,u::l,⟨a,b⟩=>⟨aRu h u a,aF6 h l b⟩
end
theorem aEz (i:Int):∀{l:List U},U.dts 5 l->U.dts 30 (l.map λu=>U.tp [.n i,u])
 | [],_=>trivial
 |u::_,⟨a,b⟩=>⟨⟨trivial,aRu (by decide) u a,trivial⟩,aEz i b⟩
theorem rF (pl:List U) (n:Nat):spU pl n++(pl.map λu=> .tp [.n (1+(n:Int)),u])=spU pl (n+1):=by
 unfold spU;rw [List.range_succ,List.flatMap_append];simp
def aYz:TVS:=λE ρ=>∃(a0 a1 a2 a7 a8 a9 a12 a13:Sl) (ns:List Int) (rs:List Rim) (pl:List U) (ys:List Tk) (r:Int),ρ=[a0,a1,a2,.sh .wl,.sh (.ls (ns.map U.n)),.sh (.ls (rs.map Rim.u)),.sh (.ls pl),a7,a8,a9,.sh (.ls (ys.map tkU)),.sh (.n r),a12,a13]/\
 pl.length<=40/\U.dts 5 pl/\ys.length<=6/\(∀y∈ys,wR y/\1<=y.2.length/\y.2.length<=3)/\0<=r/\r<=12/\∀zs dp m t ls,U.dts 30 (spU pl r.toNat)->Drawn ys zs dp m t ls pl.length->E.rt (.sh (wU ns rs pl r zs dp m t ls (spU pl r.toNat)))
abbrev fQ:List Str:=["_law_script","_law_k","_law_most","_law_well_here","_law_sizes","_law_rims","_law_places","_law_size","_law_longer","_law_place","_law_takes","_law_rounds","_law_world_here","_law_turn"]
theorem bD:aL ["_law_script","_law_k","_law_most","_law_well_here","_law_sizes","_law_rims","_law_places","_law_size","_law_longer","_law_place","_law_takes","_law_rounds","_law_world_here","_law_turn"] ["_law_script","_law_k","_law_most"] (aC bW):=⟨rfl,rfl,rfl,by decide+kernel,rfl,by decide+kernel,by decide+kernel⟩
set_option maxHeartbeats 4000000 in
theorem suf (T:Txt mg) (c__law_draw:Cal P w K mg base CX0 3 "_law_draw" ["_law_well_here","_law_most"] (spV aBr)) (c__law_term:Cal P w K mg base CX0 4 "_law_term" ["_law_well_here","_law_takes"] (spV aGr)) (F:Fun K "_law_world" "_law_world" bW f fd) (cdv:Value) (A:Around) (outer:List Env) (s:Shared) (H:Hp) (E:XK) (hr:dN 29 (A.deeper (envOfC "_law_world" (aC bW) s.heap.objs.size f cdv))):
  VSs (aEp CX0 P w K mg base fQ "_law_world" (aC bW) f cdv A outer s H E).nox ((fV bW).drop 6) aYz:=by
 refine aOt ((aD (bF (i:=12) bD.nd (aQw (uD (aA 4) (uD (aA 5) (uD (aA 6) (uD (aA 11) (uD (aCw hr rfl T.sorted T.set (aN (aA 10) aX)) aT6))))) (by decide+kernel) (by decide))) (aD (uL 12 hr (bI (aJ5 rfl) aPk T.max boot_max (aN (aU bA bM (cB (aB aF aH)) (lK (own:=["_law_back","_law_steps"]) (cap:=[]) (aC bW) fQ rfl rfl (λx h=>bQ h) (by decide+kernel) rfl (vic (cH (aA 10))) (λcl C s2 H2 fp=>(aCp rfl (lN (bO (i:=0) (show(["_law_back","_law_steps"]:List Str).Nodup by decide+kernel) rfl (Bw rfl) (Cb rfl)) (lN (bO (i:=1) (show(["_law_back","_law_steps"]:List Str).Nodup by decide+kernel) rfl (Bw rfl) (Cb rfl)) yE)))) (aF9 (is:=[0,1]) rfl (by decide)) (λcl C s2 H2 fp=>(aA 0)))) aX))) (aD (uL 12 hr (aU bA bM aF (aO c__law_draw (hr.mono (by decide)) rfl (aB (aA 3) (aB (bT bC bR (cB (aB aF (aB (aU iD cC (aU aNq jK aF aF) aF) aH))) (aO c__law_draw (hr.mono (by decide)) rfl (aB (aA 3) (aB aF aH)))) aH))))) (aD (uL 12 hr (aO c__law_term (hr.mono (by decide)) rfl (aB (aA 3) (aB (aA 10) aH)))) (aD (aO1 12 hr (cB aH)) (aD (eY Bf rfl (iU T.range (aN (aCl hr (aA 12)) aX)) (dX (i:=13) bD.nd) (aG (aPt 12 hr (lK (own:=["_law_place"]) (cap:=[("_law_well_here",3),("_law_world_here",12)]) (aC bW) fQ rfl rfl (λx h=>bQ h) (by decide+kernel) rfl (vic (cH (aA 6))) (λcl C s2 H2 fp=>(bO (i:=0) (show(["_law_place","_law_well_here","_law_world_here"]:List Str).Nodup by decide+kernel) rfl (Bw rfl) (Cb rfl))) (dB (by decide)) (λcl C s2 H2 fp=>(aO c__law_draw (hr.mono (by decide)) rfl (aB (aA 1) (aB (aCl hr (aA 2)) aH)))))))) (aTf 12 (aD (uL 12 hr (cB aH)) (aD (eY Bf rfl (wJ T.range (aN aF (aN (aU bA bM (aA 11) aF) aX))) (dX (i:=13) bD.nd) (aG (uL 12 hr (aU bA bM (aCl hr (aA 12)) (lK (own:=["_law_place"]) (cap:=[("_law_turn",13)]) (aC bW) fQ rfl rfl (λx h=>bQ h) (by decide+kernel) rfl (vic (cH (aA 6))) (λcl C s2 H2 fp=>(bO (i:=0) (show(["_law_place","_law_turn"]:List Str).Nodup by decide+kernel) rfl (Bw rfl) (Cb rfl))) (dB (by decide)) (λcl C s2 H2 fp=>(cW (aB (aA 1) (aB (aA 0) aH))))))))) (aPb 12 (aG (iV 12))))))))))))) λE ρ h=>?_;obtain⟨a0,a1,a2,a7,a8,a9,a12,a13,ns,rs,pl,ys,r,rfl,pl40,pdt,yl,yg,r0,r12,q⟩:=h;refine⟨ys,ys,rfl,by omega,by omega,λx h=>h,λzs z1 z2=>?_⟩;refine⟨by rw [Ab];omega,aEr (g:=λy=>U.n y.1) (α:=Unit) (λy hy k hk=>⟨rfl,hk⟩) ⟨?_,(1:Int)::ys.map (·.1),?_,nofun,λdp dp1 dpm=>⟨_,_,rfl,by decide,.inl ⟨by decide+kernel,?_⟩⟩⟩⟩
 ·show 1+_<=10000;rw [Ab];omega
 ·show [U.ls ([U.n 1]++_)]=_;rw [Aw,Bl];rfl
 have key:∀r:Int,0<=r->r<2->∃M:Int,atI [U.n 9,U.n (10 ^ (9:Int).toNat-1)] r=some (.n M)/\0<M/\M<=999999999:=λr h0 h2=>by
  have:r=0∨r=1:=by omega
  rcases this with rfl|rfl
  ·exact⟨9,rfl,by decide,by decide⟩
  ·exact⟨_,rfl,by decide,by decide⟩
 refine⟨⟨by decide,by decide,by decide⟩,2,rfl,by decide,by decide,λr1 a b=>?_⟩;obtain⟨M,eM,M0,M9⟩:=key r1 a b;refine⟨_,eM,M,rfl,M0,by omega,λr2 c2 d2=>⟨_,_,rfl,by decide,.inl ⟨by decide+kernel,?_⟩⟩⟩;refine⟨ys,rfl,yl,yg,λt t1 t2 t3 t4=>⟨_,_,rfl,by decide,.inl ⟨by decide+kernel,?_⟩⟩⟩;refine⟨[],_,_,rfl,rfl,by decide,by decide+kernel,?_⟩;have dp0:1<=dp:=dpm 1 Af;have dp3:dp<=3:=by
  rcases List.mem_cons.mp dp1 with rfl|h
  ·decide
  ·obtain⟨y,hy,rfl⟩:=List.mem_map.mp h;exact(yg y hy).1.2.1
 refine .inr ⟨_,_,_,_,rfl,show wI "deep" (wNm.take 8) _ _ from aB9 (xs:=wNm.take 8) (u:= .n dp) (k:=5) ⟨by omega,by omega,?_⟩ (by decide+kernel) rfl rfl⟩;refine cD (λl ρ=>∃(k:Nat) (rows:List (List Int)) (x:Sl),l=(Lc k (dp.toNat-k)).map (λi:Nat=>U.n (0+(i:Int)))/\k<=dp.toNat/\rows.length=k/\(∀l∈rows,l.length=pl.length/\∀x∈l,0<=x/\x<2+r2)/\ρ=[a0,a1,a2,.sh .wl,.sh (.ls (ns.map U.n)),.sh (.ls (rs.map Rim.u)),.sh (.ls pl),a7,a8,a9,.sh (.ls (ys.map tkU)),.sh (.n r),.oo (dlO (wNm.take 8) [.ls (ns.map U.n),.ls (rs.map Rim.u),.ls pl,.n r,.ls (zs.map tkU),.n dp,.n (2+r2),tU t] "first" (jC rows)),x]) ?_ ?_ ⟨0,[],_,by rw [Kn, <-Gx];rfl,Bb _,rfl,nofun,rfl⟩
 ·rintro ρ ⟨k,rows,x,e,hk,rk,hrow,rfl⟩;have ek:k=dp.toNat:=by
   have:=congrArg Cd e;simp at this;omega
  refine⟨_,_,_,_,rfl,rfl,_,_,rfl,by decide,.inl ⟨by decide+kernel,⟨by omega,by omega,by omega,by omega⟩,?_⟩⟩;refine cD (λl ρ=>∃(k:Nat) (x:Sl),l=(Lc k (r.toNat-k)).map (λi:Nat=>U.n (1+(i:Int)))/\k<=r.toNat/\(spU pl k).length<=40*k/\U.dts 30 (spU pl k)/\ρ=[a0,a1,a2,.sh .wl,.sh (.ls (ns.map U.n)),.sh (.ls (rs.map Rim.u)),.sh (.ls pl),a7,a8,a9,.sh (.ls (ys.map tkU)),.sh (.n r),.oo (dkO (wNm.take 9++[("spots":Str)]) ([.ls (ns.map U.n),.ls (rs.map Rim.u),.ls pl,.n r,.ls (zs.map tkU),.n dp,.n (2+r2),tU t,.ls (jC rows)]++[.ls (spU pl k)])),x]) ?_ ?_ ⟨0,_,by rw [Kn, <-Gx,show(r+1-1)=r by omega];rfl,Bb _,Am _,trivial,rfl⟩
  ·rintro ρ ⟨k',x,e,hk',_,hd,rfl⟩;have:k'=r.toNat:=by
    have:=congrArg Cd e;simp at this;omega
   subst this;exact⟨_,_,rfl,q zs dp _ t rows hd ⟨z1,z2,dp1,dpm,⟨by omega,by omega⟩,t1,t2,t3,t4,by omega,hrow⟩⟩
  ·rintro u l ρ ⟨k',x,e,hk',hl,hd,rfl⟩ ih;have hlt:k'<r.toNat:=by
    have:=congrArg Cd e;simp at this;omega
   rw [show r.toNat-k'=(r.toNat-(k'+1))+1 by omega,Ih,Aw]at e;obtain⟨rfl,rfl⟩:=Bs e;refine .inl ⟨_,_,rfl,show wI "spots" (wNm.take 10) _ _ from aB9 (xs:=wNm.take 10) (u:= .ls (spU pl k')) (k:=9) ?_ (by decide+kernel) rfl rfl⟩;refine⟨by omega,fH (h:=λu=> .tp [.n (1+(k':Int)),u]) (λu hu c hc=>hc) ⟨?_,_,_,rfl,by decide,.inr ⟨_,_,_,rfl,rfl,rfl,by decide+kernel,ih _ ⟨k'+1,_,rfl,hlt,?_,?_,by rw [<-rF];rfl⟩⟩⟩⟩
   ·rw [Ec,Ab];omega
   ·rw [<-rF,Ah,Ab];omega
   ·rw [<-rF];exact aIg hd (aEz _ pdt)
 ·rintro u l ρ ⟨k,rows,x,e,hk,rk,hrow,rfl⟩ ih;have hlt:k<dp.toNat:=by
   have:=congrArg Cd e;simp at this;omega
  rw [show dp.toNat-k=(dp.toNat-(k+1))+1 by omega,Ih,Aw]at e;obtain⟨rfl,rfl⟩:=Bs e;refine⟨_,_,_,rfl,by decide+kernel,by rw [show(jC rows).length=rows.length from Ab ..];omega,by omega,nO (λx=>∃n:Int,x= .n n/\(0<=n/\n<2+r2)) (λu hu c hc=> .inr ⟨_,_,_,_,rfl,show wI "modulus" (wNm.take 8) _ _ from aB9 (xs:=wNm.take 8) (u:= .n (2+r2)) (k:=6) ⟨2+r2,rfl,by omega,by omega,λr a b=>hc _ ⟨r,rfl,a,b⟩⟩ (by decide+kernel) rfl rfl⟩) λxs xl xp=>?_⟩;obtain⟨l,rfl,hl⟩:=pull xp;refine ih _ ⟨k+1,rows++[l],.sh (.n (0+(k:Int))),rfl,hlt,by rw [Ah,rk];rfl,λx hx=>(List.mem_append.mp hx).elim (hrow x) λz=>by rw [List.mem_singleton.mp z];exact⟨by rw [Ab]at xl;exact xl,hl⟩,?_⟩;rw [show jC (rows++[l])=jC rows++[.ls (l.map U.n)]from Bc ..];rfl
end
end Q
namespace Q
open PySem PyProof.Rows L2 KR
section
variable {P:Program} {w:World} {K:Ac} {mg:Str->Option Value} {base:Heap} {f C:Addr} {fd:FuncData} {N:Cn} {d:Nat}
theorem aIh:∀(ns:List Int) (a:Int),(∀n∈ns,1<=n)->0<=a->a<=ns.foldl (λa n=>a*n) a
 | [],a,_,_=>Lu a
 |n::ns,a,h,h0=>by
  have h1:=h n Af;have h2:a<=a*n:=by
   have:=Ky h1 h0
   rwa [Vc]at this
  exact Gu h2 (aIh ns (a*n) (λm hm=>h m (Ae _ hm)) (Gu h0 h2))
def PlU (k:Nat) (u:U):Prop:=∃is:List Int,u= .tp (is.map U.n)/\is.length<=k
mutual
theorem aVi:∀(n:Nat) (u:U),U.dt n u->Nw u
 |_,.v _,_=>by unfold Nw;trivial
 |n+1,.tp l,h=>pK n l h
 |n+1,.ls l,h=>pK n l h
theorem pK:∀(n:Nat) (l:List U),U.dts n l->Nws l
 |_,[],_=>by unfold Nws;trivial
 |n,u::l,⟨a,b⟩=>⟨aVi n u a,pK n l b⟩
end
theorem aF2:∀(l:List U) {k:Nat},(∀u∈l,PlU k u)->U.dts 5 l
 | [],_,_=>trivial
 |u::l,_,h=>by
  obtain⟨is,rfl,_⟩:=h u Af;exact⟨aE1 4 is,aF2 l λu hu=>h u (Ae _ hu)⟩
theorem aOs (F:Fun K "_law_world" "_law_world" bW f fd) (c__law_well:Cal P w K mg base CX0 2 "_law_well" ["_law_script","_law_k"] (spV (aRi K))) (c__law_lines:Cal P w K mg base CX0 4 "_law_lines" ["_law_well_here"] (spV aIi)) (c__law_take:Cal P w K mg base CX0 4 "_law_take" ["_law_well_here","_law_many"] (spV aLu)) (c__law_draw:Cal P w K mg base CX0 3 "_law_draw" ["_law_well_here","_law_most"] (spV aBr)) (c__law_term:Cal P w K mg base CX0 4 "_law_term" ["_law_well_here","_law_takes"] (spV aGr)) (T:Txt mg):bB P w K mg base CX0 30 f fd ["_law_script","_law_k","_law_most"] (spV (aOy K)):=by
 refine vfn F bD (λcdv A outer s H E hr=>(aD (bF (i:=3) bD.nd (aO c__law_well (hr.mono (by decide)) rfl (aB (aA 0) (aB (aA 1) aH)))) (aLy 3 (aD (aSy (aO c__law_lines (hr.mono (by decide)) rfl (aB (aA 3) aH)) (aC1 rfl (jV (i:=4) bD.nd (jV (i:=5) bD.nd yF)))) (aD (bF (i:=6) bD.nd (cB (aB (cW aH) aH))) (pF 6 (aD (eY Bf rfl (cH (aA 4)) (dX (i:=7) bD.nd) (aD (bF (i:=8) bD.nd (cB aH)) (aD (eY Bf rfl (cH (aA 6)) (dX (i:=9) bD.nd) (aG (bF (i:=8) bD.nd (aU bA bM (aA 8) (lK (own:=["_law_x"]) (cap:=[("_law_place",9)]) (aC bW) fQ rfl rfl (λx h=>bQ h) (by decide+kernel) rfl (vic (iU T.range (aN (aA 7) aX))) (λcl C s2 H2 fp=>(bO (i:=0) (show(["_law_x","_law_place"]:List Str).Nodup by decide+kernel) rfl (Bw rfl) (Cb rfl))) (dB (by decide)) (λcl C s2 H2 fp=>(aU bA bM (aA 1) (cW (aB (aA 0) aH))))))))) (pF 8 (aG (bF (i:=6) bD.nd (aA 8))))))) (aD (aH1 (i:=10) (own:=["_law_j"]) (cap:=[("_law_well_here",3),("_law_sizes",4)]) bD.nd (aC bW) fQ rfl rfl (λx h=>bQ h) (by decide+kernel) rfl (vic (iU T.range (aN (bT bC bR (cB (aB aF (aB aF (aB aF (aB aF (aB aF (aB aF aH))))))) (aO c__law_draw (hr.mono (by decide)) rfl (aB (aA 3) (aB aF aH)))) aX))) (λcl C s2 H2 fp=>(bO (i:=0) (show(["_law_j","_law_well_here","_law_sizes"]:List Str).Nodup by decide+kernel) rfl (Bw rfl) (Cb rfl))) (dB (by decide)) (λcl C s2 H2 fp=>(aO c__law_take (hr.mono (by decide)) rfl (aB (aA 1) (aB (bI aV dM T.len Ee (aN (aA 2) aX)) aH))))) (pF 10 (aD (bF (i:=11) bD.nd (bI (aJd rfl) aV0 T.min boot_min (aN (bT bC bR (cB (aB (aO c__law_draw (hr.mono (by decide)) rfl (aB (aA 3) (aB aF aH))) (aB (aU iD cC aF (aO c__law_draw (hr.mono (by decide)) rfl (aB (aA 3) (aB aF aH)))) aH))) (aO c__law_draw (hr.mono (by decide)) rfl (aB (aA 3) (aB aF aH)))) (aN (aU uH jK (aA 2) (bI aV dM T.len Ee (aN (aA 6) aX))) aX)))) (suf T c__law_draw c__law_term F cdv A outer s H E hr))))))))))) ?_;rintro _ R ⟨sc,k,mo,rfl,mo1,mo2,q⟩;refine⟨rfl,sc,k,rfl,λa b c=>⟨rfl,λns rs gs el rk=>⟨rfl,?_⟩⟩⟩;have l3:=gs.l3;have l1:=gs.l1;have mn:=gs.mn;refine cD (λl ρ=>∃(ms:List Int) (pl:List U) (x7 x8 x9:Sl),l=ms.map U.n/\(∀n∈ms,1<=n/\n<=9)/\ms.foldl (λa n=>a*n) (pl.length:Int)=rD ns/\1<=pl.length/\(∀u∈pl,PlU (3-ms.length) u)/\(∃ps,pl=ps.map pU/\ms.foldl (λps n=>ps.flatMap (ext n)) ps=zB ns)/\ms.length<=3/\ρ=[.sh (.op (aA4 K sc)),.sh (.n k),.sh (.n mo),.sh .wl,.sh (.ls (ns.map U.n)),.sh (.ls (rs.map Rim.u)),.sh (.ls pl),x7,x8,x9,.no,.no,.no,.no]) ?_ ?_ ⟨ns,[.tp []],_,_,_,rfl,gs.ok,rfl,Am _,λu hu=>⟨[],by rw [List.mem_singleton.mp hu];rfl,Bb _⟩,⟨[[]],rfl,rfl⟩,l3,rfl⟩
 ·rintro ρ ⟨ms,pl,x7,x8,x9,em,_,hp,p1,hpl,⟨ps,epl,eps⟩,_,rfl⟩;obtain rfl:ms=[]:=List.map_eq_nil_iff.mp em.symm;have eps:ps=zB ns:=eps;rw [eps]at epl;have hp:(pl.length:Int)=rD ns:=hp;have key:∀r:Int,0<=r->r<6->∃n:Nat,atI [U.n 0,U.n 1,U.n 2,U.n 3,U.n 4,U.n 6] r=some (.n (n:Int))/\n<=6:=λr h0 h6=>by
   have:r=0∨r=1∨r=2∨r=3∨r=4∨r=5:=by omega
   rcases this with rfl|rfl|rfl|rfl|rfl|rfl
   ·exact⟨0,rfl,by decide⟩
   ·exact⟨1,rfl,by decide⟩
   ·exact⟨2,rfl,by decide⟩
   ·exact⟨3,rfl,by decide⟩
   ·exact⟨4,rfl,by decide⟩
   ·exact⟨6,rfl,by decide⟩
  refine⟨6,rfl,by decide,by decide,λr0 a0 b0=>?_⟩;obtain⟨n,en,n6⟩:=key r0 a0 b0;refine⟨_,en,by omega,by omega,by rw [eX];omega,nO (λx=>∃y:Tk,x=tkU y/\(wR y/\y.2.length=ns.length)) (λu hu c hc=>⟨ns.length,by rw [Ab],l3,λy h1 h2=>hc _ ⟨y,rfl,h1,h2⟩⟩) λxs xl xp=>?_⟩;obtain⟨ys,rfl,hy⟩:=pull xp;rw [Ab,eX]at xl;have yl:ys.length<=6:=by omega
  refine⟨13,rfl,by decide,by decide,λr1 a1 b1=>⟨3,rfl,by decide,by decide,λr2 a2 b2=>⟨2,rfl,by decide,by decide,λr3 a3 b3=>?_⟩⟩⟩;have key2:∃z:Int,atI [U.n r1,U.n (12-r2)] r3=some (.n z)/\0<=z/\z<=12:=by
   have:r3=0∨r3=1:=by omega
   rcases this with rfl|rfl
   ·exact⟨r1,rfl,by omega,by omega⟩
   ·exact⟨12-r2,rfl,by omega,by omega⟩
  obtain⟨z,ez,z0,z12⟩:=key2;refine⟨_,ez,?_⟩;refine⟨⟨by omega,by omega⟩,?_⟩;have hL:(1:Int)<=pl.length:=by omega
  have hd:mo / pl.length*pl.length<=mo:=Int.ediv_mul_le mo (by omega);have hd0:0<=mo / pl.length:=Int.ediv_nonneg (by omega) (by omega);have rr:∃r:Int,(if mo / pl.length<z then mo / pl.length else z)=r/\0<=r/\r<=12/\r*rD ns<=120:=by
   refine⟨_,rfl,?_,?_,?_⟩
   ·split<;>omega
   ·split<;>omega
   ·rw [<-hp];split
    ·omega
    ·rename_i h;have:z*pl.length<=mo / pl.length*pl.length:=Ks (by omega) (by omega);omega
  obtain⟨r,er,r0',r12,rp⟩:=rr;have yg:∀y∈ys,wR y/\1<=y.2.length/\y.2.length<=3:=λy h=>by have:=hy y h;exact⟨this.1,by omega,by omega⟩
  refine⟨_,_,_,_,_,_,_,_,ns,rs,pl,ys,r,by rw [<-er];rfl,by omega,aF2 pl hpl,yl,yg,r0',r12,λzs dp m t ls sd dr=>⟨⟨pK 5 _ (vN ns),pK 5 _ (aIl rs),pK 5 _ (aF2 pl hpl),trivial,pK 7 _ (aGv zs),trivial,trivial,trivial,pK 6 _ (aH7 ls),pK 30 _ sd,trivial⟩,?_⟩⟩;show R (.sh (wU ns rs pl r zs dp m t ls (spU pl r.toNat)));rw [epl];refine q ns rs r zs dp m t ls ⟨⟨gs,el,rk,by have:=dr.hd;omega,dr.ok,by have:=dr.pr;omega,⟨by omega,λx hx=>(hy x ((dr.rw_ x).mpr hx)).2,ys,yl,λx hx=>(dr.rw_ x).mpr hx⟩,dr.m2,⟨r0',r12⟩,rp,λys' hy'=>?_,?_,λl hl=>?_⟩,by have:=dr.pr;omega,dr.so,λx=>(dr.mem x).trans (dr.rw_ x)⟩
  ·rw [dr.ll];have mem:∀y,y∈ys'↔y∈ys:=λy=>(hy'.2 y).trans (dr.rw_ y).symm;have d1:=dr.d1;have dm:=dr.dm;by_cases e:ys'=[]
   ·have:ys=[]:=List.eq_nil_iff_forall_not_mem.mpr λy h=>by
     have:=(mem y).mpr h;rw [e]at this;cases this
    subst this;have:dp=1:=List.mem_singleton.mp d1;rw [e,this];rfl
   ·refine(aMb (λy h=>?_) ?_ λa ha=>?_).symm
    ·have:=(yg y ((mem y).mp h)).1.1;omega
    ·rcases List.mem_cons.mp d1 with e1|h
     ·obtain⟨y,l,rfl⟩:=List.exists_cons_of_ne_nil e;have h1:=(mem y).mp Af;have h2:=(yg y h1).1.1;have h3:=dm y.1 (Ae _ (List.mem_map.mpr ⟨y,h1,rfl⟩));exact List.mem_map.mpr ⟨y,Af,by show y.1=dp;omega⟩
     ·obtain⟨y,h1,rfl⟩:=List.mem_map.mp h;exact List.mem_map.mpr ⟨y,(mem y).mpr h1,rfl⟩
    ·obtain⟨y,h1,rfl⟩:=List.mem_map.mp ha;exact dm y.1 (Ae _ (List.mem_map.mpr ⟨y,(mem y).mp h1,rfl⟩))
  ·have h:=dr.ll;have d1:=dr.d1;rcases List.mem_cons.mp d1 with e1|h
   ·omega
   ·obtain⟨y,h1,rfl⟩:=List.mem_map.mp h;have:=(yg y h1).1.2.1;omega
  ·obtain⟨h1,h2⟩:=dr.lo l hl;exact⟨by rw [h1];exact hp,by omega,h2⟩
 ·rintro u l ρ ⟨ms0,pl,x7,x8,x9,em,hm,hp,p1,hpl,⟨ps,epl,eps⟩,ml,rfl⟩ ih;cases ms0 with
  |nil=>cases em
  |cons n ms=>
   obtain⟨rfl,rfl⟩:=Bs em;obtain⟨n1,n9⟩:=hm n Af;have hm':∀x∈ms,1<=x/\x<=9:=λx hx=>hm x (Ae _ hx);have hp':ms.foldl (λa n=>a*n) ((pl.length:Int)*n)=rD ns:=hp;have ge:=aIh ms ((pl.length:Int)*n) (λx hx=>(hm' x hx).1) (Jn (by omega) (by omega));have ml':ms.length+1<=3:=ml;show nM (sY 9) _ _ pl _;refine cD (λl2 ρ=>∃(lg:List U) (x9:Sl),ρ=[.sh (.op (aA4 K sc)),.sh (.n k),.sh (.n mo),.sh .wl,.sh (.ls (ns.map U.n)),.sh (.ls (rs.map Rim.u)),.sh (.ls pl),.sh (.n n),.ow lg,x9,.no,.no,.no,.no]/\(∀u∈l2,PlU (3-(ms.length+1)) u)/\(lg.length:Int)+l2.length*n=pl.length*n/\(∀u∈lg,PlU (3-ms.length) u)/\∃qs rest:List (List Int),lg=qs.map pU/\l2=rest.map pU/\qs++rest.flatMap (ext n)=ps.flatMap (ext n)) ?_ ?_ ⟨[],_,rfl,hpl,by simp,nofun,[],ps,rfl,epl,rfl⟩
   ·rintro ρ ⟨lg,x9,rfl,_,hl,hg,qs,rest,eq,er,ee⟩;obtain rfl:rest=[]:=List.map_eq_nil_iff.mp er.symm;rw [Qg,Bo]at ee;have hl:(lg.length:Int)=pl.length*n:=by simpa using hl
    refine ih _ ⟨ms,lg,_,_,_,rfl,hm',by rw [hl];exact hp',?_,hg,⟨qs,eq,by rw [ee];exact eps⟩,by omega,rfl⟩;have:(1:Int)*1<=pl.length*n:=Int.mul_le_mul (by omega) n1 (by decide) (by omega);omega
   ·rintro u2 l2 ρ ⟨lg,x9,rfl,h2,hl,hg,qs,rest0,eq,er,ee⟩ ih2;obtain⟨is,rest,rfl⟩:∃is rest,rest0=is::rest:=by
     cases rest0 with
     |nil=>cases er
     |cons a b=>exact⟨a,b,rfl⟩
    obtain⟨e2,er2⟩:=Bs er;subst e2;obtain⟨is',ei,il⟩:=h2 _ Af;have il:is.length<=3-(ms.length+1):=by
     have:=congrArg (λu=>match u with|U.tp l=>l.length|_=>0) ei;simp [pU]at this;omega
    rw [Ag]at hl;have hl':(lg.length:Int)+n+l2.length*n=pl.length*n:=by
     rw [<-hl];have:((l2.length+1:Nat):Int)*n=l2.length*n+n:=by rw [Je,Ph];simp
     omega
    have h20:0<=(l2.length:Int)*n:=Jn (by omega) (by omega);have ex:(pR 0 n.toNat).map (λu=>U.tp (is.map U.n++[u]))=(ext n is).map pU:=by
     unfold pR ext;rw [Bl,Bl];refine Jl λi _=>?_;show U.tp _=U.tp _;rw [Bc];rfl
    have exl:((ext n is).map pU).length=n.toNat:=by rw [<-ex,Ab,eX]
    refine⟨by omega,by omega,by rw [eX];omega,fH (h:=λu=>U.tp (is.map U.n++[u])) (λu hu c hc=>⟨by rw [Ab];show _+1<=10000;omega,hc⟩) ⟨?_,?_⟩⟩
    ·show lg.length+([]++_).length<=10000;rw [Ec,ex,exl];omega
    ·rw [Ec,ex];refine ih2 _ ⟨lg++(ext n is).map pU,_,rfl,λu hu=>h2 u (Ae _ hu),?_,λu hu=>(List.mem_append.mp hu).elim (hg u) λhu=>?_,qs++ext n is,rest,by rw [Bc,eq],er2,by rw [Bj];exact ee⟩
     ·rw [Ah,exl];omega
     ·obtain⟨p,hp,rfl⟩:=List.mem_map.mp hu;refine⟨p,rfl,?_⟩;obtain⟨i,_,rfl⟩:=List.mem_map.mp hp;rw [Ah];show _+1<=_;omega
end
end Q
namespace Q
open PySem PyProof.Rows L2 KR
section
variable {P:Program} {w:World} {K:Ac} {mg:Str->Option Value} {base:Heap} {f C:Addr} {fd:FuncData} {N:Cn} {d:Nat}
def byR:Rim->Int->Int->Option Int
 | .fixed _,s,x=>if 0<=x/\x<s then some x else none
 | .mirror,s,x=>if 0<=x/\x<s then some x else some (mir s x)
 | .round,s,x=>if 0<=x/\x<s then some x else some (x % s)
def oU:Option Int->U
 |none=> .no
 |some i=> .n i
def aW2:Fv:=λus R=>∃(r:Rim) (s x:Int),us=[r.u,.n s,.n x]/\0<s/\s<=9/\R (.sh (oU (byR r s x)))
theorem wG:aL ["rim","size","number"] ["rim","size","number"] (aC kE):=⟨rfl,rfl,rfl,by decide+kernel,rfl,by decide+kernel,by decide+kernel⟩
theorem aTc (F:Fun K "number_by_rim" "number_by_rim" kE f fd) (c_mirrored:Cal P w K mg base CX0 1 "mirrored" ["size","number"] (spV aXf)):bB P w K mg base CX0 2 f fd ["rim","size","number"] (spV aW2):=by
 refine vfn F wG (λcdv A outer s H E hr=>(aD (cU (uO uV uK cC cC aF (aA 2) (aA 1)) (aG (iV 2)) bK) (aD (cU (cI (lJ (huD hr)) kO (bT bC bR (aA 0) aF) bN) (aG (aY (aU mW jK (aA 2) (aA 1)))) bK) (aD (cU (cI (lJ (huD hr)) kO (bT bC bR (aA 0) aF) bN) (aG (aY (aO c_mirrored (hr.mono (by decide)) rfl (aB (aA 1) (aB (aA 2) aH))))) bK) (aG (aY pB)))))) ?_;rintro _ R ⟨r,s,x,rfl,h1,h2,q⟩;refine⟨rfl,?_⟩;have fin:(0<=x/\x<s)->R (.sh (.n x)):=λh=>by
  have:byR r s x=some x:=by cases r<;>exact if_pos h
  rw [this]at q;exact q
 have no:∀{k:Bool},k=false->¬k=true:=λh z=>by rw [h]at z;cases z
 refine⟨λh=>⟨λh'=>fin ⟨of_decide_eq_true h,of_decide_eq_true h'⟩,λh'=>?_⟩,λh=>⟨nofun,λ_=>?_⟩⟩
 all_goals
  have nn:¬(0<=x/\x<s):=λz=>by first|exact absurd z.2 (of_decide_eq_false h')|exact absurd z.1 (of_decide_eq_false h)
  clear fin;cases r with
  |fixed c=>
   rw [show byR (.fixed c) s x=none from if_neg nn]at q;exact⟨_,rfl,trivial,trivial,λz=>absurd z (no (by decide+kernel)),λ_=>⟨_,rfl,trivial,trivial,λz=>absurd z (no (by decide+kernel)),λ_=>q⟩⟩
  |mirror=>
   rw [show byR .mirror s x=some (mir s x)from if_neg nn]at q;exact⟨_,rfl,trivial,trivial,λz=>absurd z (no (by decide+kernel)),λ_=>⟨_,rfl,trivial,trivial,λ_=>⟨s,x,rfl,h1,by omega,q⟩,λz=>absurd (show _=true by decide+kernel) (no z)⟩⟩
  |round=>
   rw [show byR .round s x=some (x % s)from if_neg nn]at q;exact⟨_,rfl,trivial,trivial,λ_=>⟨h1,q⟩,λz=>absurd (show _=true by decide+kernel) (no z)⟩
def Rim.c:Rim->Int
 | .fixed c=>c
 |_=>0
def bes:List Int->List Rim->List Int->List Int->Except Int (List Int)
 |n::ns,r::rs,i::is,s::ss=>match byR r n (i+s)with
  |none=> .error r.c
  |some x=>match bes ns rs is ss with
   | .error c=> .error c
   | .ok l=> .ok (x::l)
 |_,_,_,_=> .ok []
def aYu:Except Int (List Int)->U
 | .error c=> .tp [.s "rim",.n c]
 | .ok l=> .tp [.s "place",.tp (l.map U.n)]
def pre (xs:List Int):Except Int (List Int)->Except Int (List Int)
 | .error c=> .error c
 | .ok l=> .ok (xs++l)
def aW8 (C:Addr):Fv:=λus R=>∃(ns:List Int) (rs:List Rim) (is ss:List Int),us=[grU C ns rs,.tp (is.map U.n),.tp (ss.map U.n)]/\oJ ns/\rs.length=ns.length/\is.length=ns.length/\ss.length=ns.length/\R (.sh (aYu (bes ns rs is ss)))
theorem fK:aL ["self","place","steps","numbers","line","rim","number"] ["self","place","steps"] (aC mQ):=⟨rfl,rfl,rfl,by decide+kernel,rfl,by decide+kernel,by decide+kernel⟩
theorem aU0 (F:Fun K "beside" "Grid.beside" mQ f fd) (cG:Cfl K C ["sizes","rims"]) (c_number_by_rim:Cal P w K mg base CX0 2 "number_by_rim" ["rim","size","number"] (spV aW2)) (T:Txt mg):bB P w K mg base CX0 3 f fd ["self","place","steps"] (spV (aW8 C)):=by
 refine vfn F fK (λcdv A outer s H E hr=>(aD (bF (i:=3) fK.nd (cB aH)) (aD (eY Bf rfl (aIm T.enumerate (aB (dC cG (aA 0)) aH)) (aC1 rfl (jV (i:=4) fK.nd (jV (i:=5) fK.nd yF))) (aD (bF (i:=6) fK.nd (aO c_number_by_rim (hr.mono (by decide)) rfl (aB (aA 5) (aB (bT bC bR (dC cG (aA 0)) (aA 4)) (aB (aU bA bM (bT bC bR (aA 1) (aA 4)) (bT bC bR (aA 2) (aA 4))) aH))))) (aD (cU (aTx (aA 6)) (aG (aY (cW (aB bN (aB (bT bC bR (aA 5) aF) aH))))) bK) (aG (zJ 3 (aA 6)))))) (aG (aY (cW (aB bN (aB (dU (wN rfl) aD3 T.tuple Lm (aN (aA 3) aX)) aH)))))))) ?_;rintro _ R ⟨ns,rs,is,ss,rfl,gs,el,il,sl,q⟩;refine⟨rfl,rfl,.inr ⟨by decide+kernel,.inl ⟨rfl,?_⟩⟩⟩;refine cD (λl ρ=>∃(k:Nat) (qs:List Rim) (xs:List Int) (x y z:Sl),l=(qs.map Rim.u |>.zipIdx k).map (λx=> .tp [.n (x.2:Nat),x.1])/\ρ=[.sh (grU C ns rs),.sh (.tp (is.map U.n)),.sh (.tp (ss.map U.n)),.ow (xs.map U.n),x,y,z]/\k+qs.length=ns.length/\xs.length=k/\bes ns rs is ss=pre xs (bes (ns.drop k) qs (is.drop k) (ss.drop k))) ?_ ?_ ⟨0,rs,[],_,_,_,rfl,rfl,by omega,rfl,by rw [Gn,Gn,Gn];cases bes ns rs is ss<;>rfl⟩
 ·rintro ρ ⟨k,qs,xs,x,y,z,e,rfl,hk,_,hb⟩;have:qs=[]:=by
   cases qs with
   |nil=>rfl
   |cons _ _=>cases e
  subst this;have h0:ns.drop k=[]:=List.drop_eq_nil_iff.mpr (by rw [Bd]at hk;omega);rw [hb,h0]at q;have:bes [] [] (is.drop k) (ss.drop k)= .ok []:=rfl;rw [this]at q;have q:R (.sh (.tp [.s "place",.tp ((xs++[]).map U.n)])):=q;rw [Bo]at q;exact q
 ·rintro u l ρ ⟨k,qs,xs,x,y,z,e,rfl,hk,xk,hb⟩ ih;match qs,e,hk,hb with
  |r::qs,e,hk,hb=>
   cases e;rw [Ag]at hk;have hn:k<ns.length:=by omega
   have hi:k<is.length:=by omega
   have hs:k<ss.length:=by omega
   have ok:=gs.ok _ (Cp hn);have at_:∀{l:List Int} (h:k<l.length),atI (l.map U.n) (k:Int)=some (U.n l[k]):=λ{l} h=>uZ (by rw [Ay,Al h];rfl);rw [Bh hn,Bh hi,Bh hs]at hb;have hb':bes ns rs is ss=pre xs (match byR r ns[k] (is[k]+ss[k])with
    |none=> .error r.c
    |some x=>match bes (ns.drop (k+1)) qs (is.drop (k+1)) (ss.drop (k+1))with
     | .error c=> .error c
     | .ok l=> .ok (x::l)):=hb
   refine⟨rfl,rfl,.inl ⟨rfl,_,at_ hn,_,at_ hi,_,at_ hs,r,ns[k],is[k]+ss[k],rfl,by omega,by omega,?_⟩⟩;cases hy:byR r ns[k] (is[k]+ss[k])with
   |none=>
    rw [hy]at hb';have hb':bes ns rs is ss= .error r.c:=hb';rw [hb']at q;refine⟨λ_=>?_,nofun⟩;cases r with
    |fixed c=>exact⟨_,rfl,q⟩
    |mirror=>exact absurd hy (by simp only [byR];split<;>nofun)
    |round=>exact absurd hy (by simp only [byR];split<;>nofun)
   |some v=>
    rw [hy]at hb';refine⟨nofun,λ_=>?_⟩;refine⟨?_,ih _ ⟨k+1,qs,xs++[v],_,_,_,rfl,by rw [Bc];rfl,by omega,by rw [Ah,xk];rfl,?_⟩⟩
    ·rw [Ab,xk];have:=gs.l3;omega
    ·rw [hb'];cases bes (ns.drop (k+1)) qs (is.drop (k+1)) (ss.drop (k+1))with
     |error c=>rfl
     |ok l=>show Pu _=Pu _;rw [Bj];rfl
end
end Q
namespace Q
open PySem PyProof.Rows L2 KR
section
variable {P:Program} {w:World} {K:Ac} {mg:Str->Option Value} {base:Heap} {f C:Addr} {fd:FuncData} {N:Cn} {d:Nat} {CG CJ:Addr}
def whr (ns:List Int) (rs:List Rim) (q y:Tk):U:=match bes ns rs q.2 y.2 with
 | .error c=> .tp [.s "rim",.n c]
 | .ok l=>if 0<q.1-y.1 then .tp [.s "spot",tkU (q.1-y.1,l)]else .tp [.s "first",tkU (q.1-y.1,l)]
def aNw (N:Cn) (CG CJ:Addr):Fv:=λus R=>∃ns rs t ys m r ls,∃q y:Tk,us=[aDh N CG CJ ns rs t ys m r ls,tkU q,tkU y]/\oJ ns/\rs.length=ns.length/\q.2.length=ns.length/\y.2.length=ns.length/\R (.sh (whr ns rs q y))
theorem oV:aL ["self","spot","take","beside","round_at"] ["self","spot","take"] (aC qT):=⟨rfl,rfl,rfl,by decide+kernel,rfl,by decide+kernel,by decide+kernel⟩
theorem aKt (F:Fun K "where" "Job.where" qT f fd) (cJ:Cfl K CJ ["taken","grid","term","modulus","rounds","first"]) (D_beside:Dis P w K mg base CX0 3 (·=CG) "beside" ["self","place","steps"] λ_=>spV (aW8 CG)) (T:Txt mg):bB P w K mg base CX0 4 f fd ["self","spot","take"] (spV (aNw N CG CJ)):=by
 refine vfn F oV (λcdv A outer s H E hr=>(aD (bF (i:=3) oV.nd (aDi (dC cJ (aA 0)) D_beside (hr.mono (by decide)) (aB (bT bC bR (aA 1) aF) (aB (bT bC bR (aA 2) aF) aH)))) (aD (cU (cI (lJ (huD hr)) kO (bT bC bR (aA 3) aF) bN) (aG (iV 3)) bK) (aD (bF (i:=4) oV.nd (aU iD cC (bT bC bR (aA 1) aF) (bT bC bR (aA 2) aF))) (aD (cU (cI sJ cC (aA 4) aF) (aG (aY (cW (aB bN (aB (cW (aB (aA 4) (aB (bT bC bR (aA 3) aF) aH))) aH))))) bK) (aG (aY (cW (aB bN (aB (cW (aB (aA 4) (aB (bT bC bR (aA 3) aF) aH))) aH)))))))))) ?_;rintro _ R ⟨ns,rs,t,ys,m,r,ls,q0,y,rfl,gs,el,ql,yl,q⟩;have no:∀{k:Bool},k=false->¬k=true:=λh z=>by rw [h]at z;cases z
 refine⟨rfl,rfl,.inr ⟨by decide+kernel,.inl ⟨rfl,rfl,rfl,_,rfl,_,rfl,ns,rs,q0.2,y.2,rfl,gs,el,ql,yl,?_⟩⟩⟩;unfold whr at q;cases hb:bes ns rs q0.2 y.2 with
 |error c=>
  rw [hb]at q;exact⟨_,rfl,trivial,trivial,λ_=>q,λz=>absurd (show _=true by decide+kernel) (no z)⟩
 |ok l=>
  rw [hb]at q;refine⟨_,rfl,trivial,trivial,λz=>absurd z (no (by decide+kernel)),λ_=>⟨_,rfl,_,rfl,λz=>?_,λz=>?_⟩⟩
  ·have q:R (.sh (if 0<q0.1-y.1 then .tp [.s "spot",tkU (q0.1-y.1,l)]else .tp [.s "first",tkU (q0.1-y.1,l)])):=q;rw [if_pos (of_decide_eq_true z)]at q;exact⟨_,rfl,q⟩
  ·have q:R (.sh (if 0<q0.1-y.1 then .tp [.s "spot",tkU (q0.1-y.1,l)]else .tp [.s "first",tkU (q0.1-y.1,l)])):=q;rw [if_neg (of_decide_eq_false z)]at q;exact⟨_,rfl,q⟩
def rdU (ns:List Int) (rs:List Rim) (q y:Tk):U:= .tp [tkU y,whr ns rs q y]
def aL3 (N:Cn) (CG CJ:Addr):Fv:=λus R=>∃ns rs t ys m r ls,∃q:Tk,us=[aDh N CG CJ ns rs t ys m r ls,tkU q]/\oJ ns/\rs.length=ns.length/\q.2.length=ns.length/\(∀y∈ys,y.2.length=ns.length)/\ys.length<=17/\R (.ow (ys.map (rdU ns rs q)))
abbrev zY:List Str:=["self","spot"]
theorem xP:aL ["self","spot"] ["self","spot"] (aC iT):=⟨rfl,rfl,rfl,by decide+kernel,rfl,by decide+kernel,by decide+kernel⟩
theorem aMm (F:Fun K "reads_of" "Job.reads_of" iT f fd) (cJ:Cfl K CJ ["taken","grid","term","modulus","rounds","first"]) (D_where:Dis P w K mg base CX0 4 (·=CJ) "where" ["self","spot","take"] λ_=>spV (aNw N CG CJ)) (T:Txt mg):bB P w K mg base CX0 5 f fd ["self","spot"] (spV (aL3 N CG CJ)):=by
 refine vfn F xP (λcdv A outer s H E hr=>(aG (aY (lK (own:=["take"]) (cap:=[("self",0),("spot",1)]) (aC iT) zY rfl rfl (λx h=>bQ h) (by decide+kernel) rfl (vic (cH (dC cJ (aA 0)))) (λcl C s2 H2 fp=>(bO (i:=0) (show(["take","self","spot"]:List Str).Nodup by decide+kernel) rfl (Bw rfl) (Cb rfl))) (dB (by decide)) (λcl C s2 H2 fp=>(cW (aB (aA 0) (aB (aDi (aA 1) D_where (hr.mono (by decide)) (aB (aA 2) (aB (aA 0) aH))) aH)))))))) ?_;rintro _ R ⟨ns,rs,t,ys,m,r,ls,q0,rfl,gs,el,ql,yl,yn,q⟩;exact⟨rfl,rfl,.inl ⟨rfl,by rw [Ab];omega,aEr (α:=Unit) (g:=rdU ns rs q0) (λy hy k hk=>⟨rfl,rfl,ns,rs,t,ys,m,r,ls,q0,y,rfl,gs,el,ql,yl y hy,hk⟩) q⟩⟩
def jW (ns:List Int) (rs:List Rim) (q y:Tk):Option Tk:=match bes ns rs q.2 y.2 with
 | .error _=>none
 | .ok l=>if 0<q.1-y.1 then some (q.1-y.1,l)else none
def aWs (ns:List Int) (rs:List Rim) (ys:List Tk) (q:Tk) (zs:List Tk):Prop:=zs.Pairwise (λx y=>lQ x y=true)/\∀z,z∈zs↔z∈ys.filterMap (jW ns rs q)
def aKs (N:Cn) (CG CJ:Addr):Fv:=λus R=>∃ns rs t ys m r ls,∃q:Tk,us=[aDh N CG CJ ns rs t ys m r ls,tkU q]/\oJ ns/\rs.length=ns.length/\q.2.length=ns.length/\(∀y∈ys,y.2.length=ns.length)/\ys.length<=17/\∀zs,aWs ns rs ys q zs->R (.ow (zs.map tkU))
theorem aQe {g:Tk->U} {h:Tk->Option Tk} {f:U->(Option U->Prop)->Prop} {Q:List U->Prop} {ys:List Tk} (hf:∀y∈ys,∀k:Option U->Prop,k ((h y).map tkU)->f (g y) k) (hq:Q ((ys.filterMap h).map tkU)):iI f (ys.map g) [] Q:=by
 have key:∀(zs:List Tk) (acc:List U),(∀y∈zs,∀k:Option U->Prop,k ((h y).map tkU)->f (g y) k)->Q (acc++(zs.filterMap h).map tkU)->iI f (zs.map g) acc Q:=by
  intro zs;induction zs with
  |nil=>exactλacc _ q=>by rw [List.filterMap_nil,Du,Bo]at q;exact q
  |cons z zs ih=>
   intro acc hf q;refine hf z Af _ ?_;cases hz:h z with
   |none=>
    rw [List.filterMap_cons_none hz]at q;exact ih _ (λy hy=>hf y (Ae _ hy)) q
   |some x=>
    rw [Ms hz]at q;exact ih _ (λy hy=>hf y (Ae _ hy)) (by rw [Bj];exact q)
 exact key ys [] hf hq
abbrev aGx:List Str:=["job","spot"]
theorem aFe:aL ["job","spot"] ["job","spot"] (aC oR):=⟨rfl,rfl,rfl,by decide+kernel,rfl,by decide+kernel,by decide+kernel⟩
theorem aKu (F:Fun K "leans_of" "leans_of" oR f fd) (D_reads_of:Dis P w K mg base CX0 5 (·=CJ) "reads_of" ["self","spot"] λ_=>spV (aL3 N CG CJ)) (T:Txt mg):bB P w K mg base CX0 6 f fd ["job","spot"] (spV (aKs N CG CJ)):=by
 refine vfn F aFe (λcdv A outer s H E hr=>(aG (aY (aCw hr rfl T.sorted T.set (aN (aT0 (own:=["take","where"]) (cap:=[]) (aC oR) aGx rfl rfl (λx h=>bQ h) (by decide+kernel) rfl (vic (cH (aDi (aA 0) D_reads_of (hr.mono (by decide)) (aB (aA 1) aH)))) (λcl C s2 H2 fp=>(aCp rfl (lN (bO (i:=0) (show(["take","where"]:List Str).Nodup by decide+kernel) rfl (Bw rfl) (Cb rfl)) (lN (bO (i:=1) (show(["take","where"]:List Str).Nodup by decide+kernel) rfl (Bw rfl) (Cb rfl)) yE)))) (aF9 (is:=[0,1]) rfl (by decide)) (λcl C s2 H2 fp=>(cI (lJ (huD hr)) kO (bT bC bR (aA 1) aF) bN)) (λcl C s2 H2 fp=>(bT bC bR (aA 1) aF))) aX))))) ?_;rintro _ R ⟨ns,rs,t,ys,m,r,ls,q0,rfl,gs,el,ql,yl,yn,q⟩;have no:∀{k:Bool},k=false->¬k=true:=λh z=>by rw [h]at z;cases z
 have yes:∀{k:Bool} {p:Prop},k=true->k=false->p:=λh z=>by rw [h]at z;cases z
 refine⟨rfl,rfl,rfl,ns,rs,t,ys,m,r,ls,q0,rfl,gs,el,ql,yl,yn,by rw [Ab];omega,?_⟩;refine aQe (g:=rdU ns rs q0) (h:=jW ns rs q0) (λy hy k hk=>?_) ?_
 ·refine⟨rfl,?_⟩;unfold jW at hk;show gIx (whr ns rs q0 y) (.n 0) _;unfold whr;cases hb:bes ns rs q0.2 y.2 with
  |error c=>
   rw [hb]at hk;exact⟨_,rfl,trivial,trivial,λz=>absurd z (no (by decide+kernel)),λ_=>hk⟩
  |ok l=>
   rw [hb]at hk;by_cases hp:0<q0.1-y.1
   ·have hk:k ((if 0<q0.1-y.1 then some (q0.1-y.1,l)else none:Option Tk).map tkU):=hk;rw [if_pos hp]at hk;simp only [if_pos hp];exact⟨_,rfl,trivial,trivial,λ_=>⟨_,rfl,hk⟩,λz=>yes (by decide+kernel) z⟩
   ·have hk:k ((if 0<q0.1-y.1 then some (q0.1-y.1,l)else none:Option Tk).map tkU):=hk;rw [if_neg hp]at hk;simp only [if_neg hp];exact⟨_,rfl,trivial,trivial,λz=>absurd z (no (by decide+kernel)),λ_=>hk⟩
 ·have hl:(ys.filterMap (jW ns rs q0)).length<=17:=Co (Mq _ _) yn;exact⟨_,_,rfl,by omega,by omega,λx h=>h,λzs h1 h2=>q zs ⟨h1,h2⟩⟩
end
end Q
namespace Q
open PySem PyProof.Rows L2 KR
section
variable {P:Program} {w:World} {K:Ac} {mg:Str->Option Value} {base:Heap} {f C:Addr} {fd:FuncData} {N:Cn} {d:Nat} {CG CJ:Addr}
def aSn:Fv:=λus R=>∃(ps:List (List Int)) (n:Int),us=[.ls (ps.map pU),.n n]/\0<=n/\n<=9/\(ps.flatMap (ext n)).length<=1000/\(∀p∈ps,p.length<=3)/\R (.ow ((ps.flatMap (ext n)).map pU))
theorem lC:aL ["places","size","longer","place","number"] ["places","size"] (aC qL):=⟨rfl,rfl,rfl,by decide+kernel,rfl,by decide+kernel,by decide+kernel⟩
theorem aQp (F:Fun K "with_line" "with_line" qL f fd) (T:Txt mg):bB P w K mg base CX0 1 f fd ["places","size"] (spV aSn):=by
 refine vfn F lC (λcdv A outer s H E hr=>(aD (bF (i:=2) lC.nd (cB aH)) (aD (eY Bf rfl (cH (aA 0)) (dX (i:=3) lC.nd) (aG (eY Bf rfl (iU T.range (aN (aA 1) aX)) (dX (i:=4) lC.nd) (aG (zJ 2 (aU bA bM (aA 3) (cW (aB (aA 4) aH)))))))) (aG (iV 2))))) ?_;rintro _ R ⟨ps,n,rfl,n0,n9,hl,hp,q⟩;refine⟨rfl,?_⟩;show nM (sY 3) _ _ (ps.map pU) _;refine cD (λl ρ=>∃(qs rest:List (List Int)) (x y:Sl),l=rest.map pU/\ρ=[.sh (.ls (ps.map pU)),.sh (.n n),.ow (qs.map pU),x,y]/\(∀p∈rest,p.length<=3)/\qs++rest.flatMap (ext n)=ps.flatMap (ext n)) ?_ ?_ ⟨[],ps,_,_,rfl,rfl,hp,rfl⟩
 ·rintro ρ ⟨qs,rest,x,y,e,rfl,_,ee⟩;obtain rfl:rest=[]:=List.map_eq_nil_iff.mp e.symm;rw [Qg,Bo]at ee;rw [<-ee]at q;exact q
 ·rintro u l ρ ⟨qs,rest0,x,y,e,rfl,h3,ee⟩ ih;cases rest0 with
  |nil=>cases e
  |cons p rest=>
   obtain⟨rfl,rfl⟩:=Bs e;have p3:=h3 p Af;refine⟨by omega,by omega,?_⟩;refine cD (λl ρ=>∃(js:List Nat) (qs':List (List Int)) (y:Sl),l=js.map (λi:Nat=>U.n (0+(i:Int)))/\ρ=[.sh (.ls (ps.map pU)),.sh (.n n),.ow (qs'.map pU),.sh (pU p),y]/\qs'++js.map (λi:Nat=>p++[0+(i:Int)])=qs++ext n p) ?_ ?_ ⟨Bp n.toNat,qs,_,rfl,rfl,rfl⟩
   ·rintro ρ ⟨js,qs',y,e,rfl,e2⟩;obtain rfl:js=[]:=List.map_eq_nil_iff.mp e.symm;rw [Du,Bo]at e2;exact ih _ ⟨qs',rest,_,_,rfl,rfl,λp hp=>h3 p (Ae _ hp),by rw [e2,Bj];exact ee⟩
   ·rintro u l ρ ⟨js0,qs',y,e,rfl,e2⟩ ih2;cases js0 with
    |nil=>cases e
    |cons j js=>
     obtain⟨rfl,rfl⟩:=Bs e;have l2:=congrArg Cd e2;have l3:=congrArg Cd ee;simp only [Ah,Ka,Ab,Ag]at l2 l3;refine⟨by rw [Ab];omega,by rw [Ab];show _+1<=10000;omega,?_⟩;have e3:(qs'.map pU++[U.tp (p.map U.n++[U.n (0+(j:Int))])])=(qs'++[p++[0+(j:Int)]]).map pU:=by
      rw [Bc];show _=_++[U.tp ((p++[0+(j:Int)]).map U.n)];rw [Bc];rfl
     exact ih2 _ ⟨js,qs'++[p++[0+(j:Int)]],.sh (.n (0+(j:Int))),rfl,by rw [<-e3];rfl,by rw [Bj];exact e2⟩
theorem aBt:∀(ms:List Int) (ps:List (List Int)),(∀n∈ms,1<=n)->ps.length<=(ms.foldl (λps n=>ps.flatMap (ext n)) ps).length
 | [],_,_=>Am _
 |n::ms,ps,h=>by
  refine Co ?_ (aBt ms (ps.flatMap (ext n)) λm hm=>h m (Ae _ hm));have h1:=h n Af;have el:∀p,(ext n p).length=n.toNat:=λp=>by unfold ext;rw [Ab,Dd]
  clear h;induction ps with
  |nil=>exact Bb _
  |cons p ps ih=>
   rw [Ka,Ah,el,Ag];omega
def aRs (C:Addr):Fv:=λus R=>∃ns rs,us=[grU C ns rs]/\oJ ns/\(zB ns).length<=40/\∀s,s= .ow (plU ns)∨s= .sh (.ls (plU ns))->R s
theorem dY:aL ["self","places","size"] ["self"] (aC iJ):=⟨rfl,rfl,rfl,by decide+kernel,rfl,by decide+kernel,by decide+kernel⟩
theorem aPz (F:Fun K "all_places" "Grid.all_places" iJ f fd) (cG:Cfl K C ["sizes","rims"]) (c_with_line:Cal P w K mg base CX0 1 "with_line" ["places","size"] (spV aSn)) (T:Txt mg):bB P w K mg base CX0 2 f fd ["self"] (spV (aRs C)):=by
 refine vfn F dY (λcdv A outer s H E hr=>(aD (bF (i:=1) dY.nd (cB (aB (cW aH) aH))) (aD (eY Bf rfl (cH (dC cG (aA 0))) (dX (i:=2) dY.nd) (pF 1 (aG (bF (i:=1) dY.nd (aO c_with_line (hr.mono (by decide)) rfl (aB (aA 1) (aB (aA 2) aH))))))) (aG (iV 1))))) ?_;rintro _ R ⟨ns,rs,rfl,gs,hl,q⟩;refine⟨rfl,rfl,.inl ⟨rfl,?_⟩⟩;show nM (sY 2) _ _ (ns.map U.n) _;have l3:=gs.l3;refine cD (λl ρ=>∃(ms:List Int) (ps:List (List Int)) (s x:Sl),l=ms.map U.n/\(s= .ow (ps.map pU)∨s= .sh (.ls (ps.map pU)))/\ρ=[.sh (grU C ns rs),s,x]/\(∀n∈ms,1<=n/\n<=9)/\(∀p∈ps,p.length+ms.length<=3)/\ms.foldl (λps n=>ps.flatMap (ext n)) ps=zB ns) ?_ ?_ ⟨ns,[[]],_,_,rfl,.inl rfl,rfl,gs.ok,λp hp=>by rw [List.mem_singleton.mp hp];show 0+_<=3;omega,rfl⟩
 ·rintro ρ ⟨ms,ps,s,x,e,hs,rfl,_,_,ee⟩;obtain rfl:ms=[]:=List.map_eq_nil_iff.mp e.symm;have ee:ps=zB ns:=ee;subst ee;rcases hs with rfl|rfl
  ·exact q _ (.inl rfl)
  ·exact q _ (.inr rfl)
 ·rintro u l ρ ⟨ms0,ps,s,x,e,hs,rfl,hm,h3,ee⟩ ih;cases ms0 with
  |nil=>cases e
  |cons n ms=>
   obtain⟨rfl,rfl⟩:=Bs e;have hn:=hm n Af;have hm':∀x∈ms,1<=x/\x<=9:=λx hx=>hm x (Ae _ hx);have ee:ms.foldl (λps n=>ps.flatMap (ext n)) (ps.flatMap (ext n))=zB ns:=ee;have le:=aBt ms (ps.flatMap (ext n)) λx hx=>(hm' x hx).1;rw [ee]at le;have nx:=ih [.sh (grU C ns rs),.ow ((ps.flatMap (ext n)).map pU),.sh (.n n)] ⟨ms,ps.flatMap (ext n),_,_,rfl,.inl rfl,rfl,hm',λp hp=>by
    obtain⟨p0,h0,h1⟩:=List.mem_flatMap.mp hp;obtain⟨i,_,rfl⟩:=List.mem_map.mp h1;have:=h3 p0 h0;rw [Ag]at this;rw [Ah];show _+1+_<=3;omega,ee⟩
   rcases hs with rfl|rfl
   ·exact⟨ps,n,rfl,by omega,by omega,by omega,λp hp=>by have:=h3 p hp;omega,nx⟩
   ·exact⟨ps,n,rfl,by omega,by omega,by omega,λp hp=>by have:=h3 p hp;omega,nx⟩
theorem aP7 (pl:List U) (n:Nat) (h:pl.length<=40):(spU pl n).length<=40*n:=by
 induction n with
 |zero=>exact Am _
 |succ n ih=>
  rw [<-rF,Ah,Ab];omega
def aR7 (N:Cn) (CG CJ:Addr):Fv:=λus R=>∃ns rs t ys m r ls,us=[aDh N CG CJ ns rs t ys m r ls]/\oJ ns/\(zB ns).length<=40/\0<=r/\r<=12/\R (.ow (spU (plU ns) r.toNat))
abbrev xH:List Str:=["self","places","spots","round_at"]
theorem fY:aL ["self","places","spots","round_at"] ["self"] (aC gR):=⟨rfl,rfl,rfl,by decide+kernel,rfl,by decide+kernel,by decide+kernel⟩
theorem aQd (F:Fun K "all_spots" "Job.all_spots" gR f fd) (cJ:Cfl K CJ ["taken","grid","term","modulus","rounds","first"]) (D_all_places:Dis P w K mg base CX0 2 (·=CG) "all_places" ["self"] λ_=>spV (aRs CG)) (T:Txt mg):bB P w K mg base CX0 3 f fd ["self"] (spV (aR7 N CG CJ)):=by
 refine vfn F fY (λcdv A outer s H E hr=>(aD (bF (i:=1) fY.nd (cA (dC cJ (aA 0)) D_all_places (hr.mono (by decide)))) (pF 1 (aD (bF (i:=2) fY.nd (cB aH)) (aD (eY Bf rfl (wJ T.range (aN aF (aN (aU bA bM (dC cJ (aA 0)) aF) aX))) (dX (i:=3) fY.nd) (aG (aLo 2 (lK (own:=["place"]) (cap:=[("round_at",3)]) (aC gR) xH rfl rfl (λx h=>bQ h) (by decide+kernel) rfl (vic (cH (aA 1))) (λcl C s2 H2 fp=>(bO (i:=0) (show(["place","round_at"]:List Str).Nodup by decide+kernel) rfl (Bw rfl) (Cb rfl))) (dB (by decide)) (λcl C s2 H2 fp=>(cW (aB (aA 1) (aB (aA 0) aH)))))))) (aG (iV 2))))))) ?_;rintro _ R ⟨ns,rs,t,ys,m,r,ls,rfl,gs,hl,r0,r12,q⟩;have pl40:(plU ns).length<=40:=by rw [Ab];exact hl
 have main:nM (sY 3) (aUe 2 (aE0 1 [("round_at",3)] (vLs (aN1 1)) (sY 0) (aXw (aHn (aN1 1) (aHn (aN1 0) aLr))))) {nx:=aLc 2 {nx:=λ_=>R (.sh .no),rt:=R},rt:=R} (pR 1 (r+1-1).toNat) [.sh (aDh N CG CJ ns rs t ys m r ls),.sh (.ls (plU ns)),.ow [],.no]:=by
  refine cD (λl ρ=>∃(k:Nat) (x:Sl),l=(Lc k (r.toNat-k)).map (λi:Nat=>U.n (1+(i:Int)))/\k<=r.toNat/\ρ=[.sh (aDh N CG CJ ns rs t ys m r ls),.sh (.ls (plU ns)),.ow (spU (plU ns) k),x]) ?_ ?_ ⟨0,_,by rw [Kn, <-Gx,show(r+1-1)=r by omega];rfl,Bb _,rfl⟩
  ·rintro ρ ⟨k,x,e,hk,rfl⟩;have:k=r.toNat:=by
    have:=congrArg Cd e;simp at this;omega
   subst this;exact q
  ·rintro u l ρ ⟨k,x,e,hk,rfl⟩ ih;have hlt:k<r.toNat:=by
    have:=congrArg Cd e;simp at this;omega
   rw [show r.toNat-k=(r.toNat-(k+1))+1 by omega,Ih,Aw]at e;obtain⟨rfl,rfl⟩:=Bs e;have sl:=aP7 (plU ns) k pl40;refine⟨by omega,fH (h:=λu=> .tp [.n (1+(k:Int)),u]) (λu hu c hc=>hc) ⟨?_,?_⟩⟩
   ·rw [Ec,Ab];omega
   ·rw [Ec];exact ih _ ⟨k+1,_,rfl,hlt,by rw [<-rF];rfl⟩
 refine⟨rfl,rfl,.inr ⟨by decide+kernel,.inl ⟨rfl,rfl,rfl,ns,rs,rfl,gs,hl,λs hs=>?_⟩⟩⟩;rcases hs with rfl|rfl
 all_goals
  refine⟨rfl,show wI "rounds" ["taken","grid","term","modulus","rounds","first"] _ _ from aB9 (xs:=["taken","grid","term","modulus","rounds","first"]) (k:=4) (u:= .n r) ?_ (by decide+kernel) rfl rfl⟩;exact⟨⟨by omega,by omega,by omega,by omega⟩,main⟩
end
end Q
namespace Q
open PySem PyProof.Rows L2 KR
section
variable {P:Program} {w:World} {K:Ac} {mg:Str->Option Value} {base:Heap} {f C:Addr} {fd:FuncData} {N:Cn} {d:Nat} {CG CJ:Addr}
theorem aJk {m x:Int} (h:0<m):(-1-x) % m=m-1-x % m:=by
 have h1:=Int.emod_add_mul_ediv x m;have e: -1-x=(m-1-x % m)+m*(-(x / m)-1):=by rw [Int.mul_sub,Int.mul_neg];omega
 rw [e,Mh];exact Ki (by have:=Hq x h;omega) (by have:=Jf x (by omega:m≠0);omega)
theorem aHw {s x:Int} (h:0<s):mir s (-1-x)=mir s x:=by
 unfold mir;rw [aJk (by omega)];generalize x % (2*s)=a;split<;>split<;>omega
theorem aUt {s x:Int} (h:0<s):mir s (2*s-1-x)=mir s x:=by
 have e:(2*s-1-x) % (2*s)=(-1-x) % (2*s):=by rw [show 2*s-1-x=(-1-x)+(2*s)*1 by omega,Mh]
 rw [<-aHw (x:=x) h];unfold mir;rw [e]
theorem aLe {s x:Int} (h0:0<=x) (h:x<s):mir s x=x:=by
 unfold mir;rw [Ki h0 (by omega),if_pos h]
def aV5:Fv:=λus R=>∃(r:Rim) (s x:Int),us=[.n x,.n s,r.u]/\0<s/\s<=9/\ -(100:Int)<=x/\x<=100/\R (.sh (oU (byR r s x)))
theorem mV:aL ["_law_x","_law_size","_law_rim"] ["_law_x","_law_size","_law_rim"] (aC pD):=⟨rfl,rfl,rfl,by decide+kernel,rfl,by decide+kernel,by decide+kernel⟩
theorem aNm (F:Fun K "_law_along" "_law_along" pD f fd) (T:Txt mg):bB P w K mg base CX0 1 f fd ["_law_x","_law_size","_law_rim"] (spV aV5):=by
 refine vfn F mV (λcdv A outer s H E hr=>(aD (cU (cI (lJ (huD hr)) kO (bT bC bR (aA 2) aF) bN) (aG (aY (aU mW jK (aA 0) (aA 1)))) bK) (aD (cU (cI (lJ (huD hr)) kO (bT bC bR (aA 2) aF) bN) (aG (aY (bT bC bR (cB (aB pB (aB (aA 0) aH))) (dU aBs aNk T.int Rk (aN (aD9 uV uK cC cC aF (aA 0) (aA 1)) aX))))) bK) (aD (aD0 Bf (gJ (uO uV uK cC cC aF (aA 0) (aA 1))) (aG (cU (cI uK cC (aA 0) aF) (aG (bF (i:=0) mV.nd (aU iD cC (aU iD cC aF aF) (aA 0)))) (aG (bF (i:=0) mV.nd (aU iD cC (aU iD cC (aU kJ jK aF (aA 1)) aF) (aA 0))))))) (aG (iV 0)))))) ?_;rintro _ R ⟨r,s,x,rfl,h1,h2,x1,x2,q⟩;have no:∀{k:Bool},k=false->¬k=true:=λh z=>by rw [h]at z;cases z
 have yes:∀{k:Bool} {p:Prop},k=true->k=false->p:=λh z=>by rw [h]at z;cases z
 refine⟨rfl,?_⟩;cases r with
 |round=>
  have e:byR .round s x=some (x % s):=by
   simp only [byR];split
   ·rename_i h;rw [Ki h.1 h.2]
   ·rfl
  rw [e]at q;exact⟨_,rfl,trivial,trivial,λ_=>⟨h1,q⟩,λz=>yes (by decide+kernel) z⟩
 |fixed c=>
  refine⟨_,rfl,trivial,trivial,λz=>absurd z (no (by decide+kernel)),λ_=>⟨_,rfl,trivial,trivial,λ_=>?_,λz=>yes (by decide+kernel) z⟩⟩;have a:0<=x/\x<s->R (.sh (.n x)):=λh=>by
   rw [show byR (.fixed c) s x=some x from if_pos h]at q;exact q
  have b:¬(0<=x/\x<s)->R (.sh .no):=λh=>by
   rw [show byR (.fixed c) s x=none from if_neg h]at q;exact q
  refine⟨λz=>?_,λz=>?_⟩
  ·show∃u,atI [U.no,U.n x] (if decide (x<s)then(1:Int)else 0)=some u/\R (.sh u);by_cases h:x<s
   ·rw [decide_eq_true h];exact⟨_,rfl,a ⟨of_decide_eq_true z,h⟩⟩
   ·rw [decide_eq_false h];exact⟨_,rfl,b λz=>h z.2⟩
  ·exact⟨_,rfl,b λz'=>absurd z'.1 (of_decide_eq_false z)⟩
 |mirror=>
  refine⟨_,rfl,trivial,trivial,λz=>absurd z (no (by decide+kernel)),λ_=>⟨_,rfl,trivial,trivial,λz=>absurd z (no (by decide+kernel)),λ_=>?_⟩⟩;have e:byR .mirror s x=some (mir s x):=by
   simp only [byR];split
   ·rename_i h;rw [aLe h.1 h.2]
   ·rfl
  rw [e]at q;refine⟨λm ρ=>∃y,ρ=[.sh (.n y),.sh (.n s),.sh (Rim.u .mirror)]/\mir s y=mir s x/\m=(2*y-s+1).natAbs,⟨_,x,rfl,rfl,rfl⟩,?_⟩;rintro m ρ ⟨y,rfl,ey,rfl⟩;refine⟨λz=>⟨λz2=>?_,λz2=>?_⟩,λz=>⟨λ_=>?_,nofun⟩⟩
  ·have z:=of_decide_eq_true z;have z2:¬y<s:=λh=>by rw [decide_eq_true h]at z2;cases z2
   refine⟨λh=>absurd (of_decide_eq_true h) (by omega),λ_=>⟨.inl (by constructor<;>decide),?_⟩⟩;exact⟨_,by omega,2*s-1-y,rfl,(aUt h1).trans ey,rfl⟩
  ·have z:=of_decide_eq_true z;have z2:y<s:=Hd λh=>by rw [decide_eq_false h]at z2;cases z2
   rw [<-ey,aLe z z2]at q;exact q
  ·have z:=of_decide_eq_false z;refine⟨λ_=>?_,λh=>absurd (of_decide_eq_false h) (by omega)⟩;exact⟨_,by omega,0-1-y,rfl,(aHw h1).trans ey,rfl⟩
end
end Q
namespace Q
open PySem PyProof.Rows L2 KR
section
variable {P:Program} {w:World} {K:Ac} {mg:Str->Option Value} {base:Heap} {f C:Addr} {fd:FuncData} {N:Cn} {d:Nat} {CG CJ:Addr}
def alo:List Int->List Rim->List Int->List Int->List (Option Int)
 |n::ns,r::rs,i::is,s::ss=>byR r n (i+s)::alo ns rs is ss
 |_,_,_,_=>[]
theorem aIr:∀(ns:List Int) (rs:List Rim) (is ss:List Int),(∀l,bes ns rs is ss= .ok l->alo ns rs is ss=l.map some)/\(∀c,bes ns rs is ss= .error c->none∈alo ns rs is ss)
 |n::ns,r::rs,i::is,s::ss=>by
  obtain⟨h1,h2⟩:=aIr ns rs is ss;show(∀l,(match byR r n (i+s)with|none=> .error r.c|some x=>match bes ns rs is ss with| .error c=> .error c| .ok l=> .ok (x::l))=Pu l->byR r n (i+s)::alo ns rs is ss=l.map some)/\∀c,(match byR r n (i+s)with|none=> .error r.c|some x=>match bes ns rs is ss with| .error c=> .error c| .ok l=> .ok (x::l))=Except.error c->none∈byR r n (i+s)::alo ns rs is ss;cases byR r n (i+s)with
  |none=>exact⟨nofun,λ_ _=>Af⟩
  |some x=>
   cases hb:bes ns rs is ss with
   |error c=>exact⟨nofun,λ_ _=>Ae _ (h2 c hb)⟩
   |ok l=>exact⟨λm e=>by cases e;rw [h1 l hb];rfl,nofun⟩
 | [],_,_,_=>⟨λl e=>by cases e;rfl,nofun⟩
 |_::_,[],_,_=>⟨λl e=>by cases e;rfl,nofun⟩
 |_::_,_::_,[],_=>⟨λl e=>by cases e;rfl,nofun⟩
 |_::_,_::_,_::_,[]=>⟨λl e=>by cases e;rfl,nofun⟩
theorem aWj (l:List (Option Int)):U.dts 40 (l.map oU):=by
 induction l with
 |nil=>trivial
 |cons x l ih=>exact⟨by cases x<;>trivial,ih⟩
theorem aOg (l:List (Option Int)):((l.map oU).any λe=>e.eq .no)=l.elem none:=by
 induction l with
 |nil=>rfl
 |cons x l ih=>
  rw [Aw,Ds,ih,Rc];cases x with
  |none=>rfl
  |some i=>rfl
structure aRv (ns:List Int) (q:Tk):Prop where
 l:q.2.length=ns.length
 x:∀x∈q.2,0<=x/\x<=9
def aH0:Fv:=λus R=>∃ns rs pl r ys dp m t ls sp,∃q:Tk,us=[wU ns rs pl r ys dp m t ls sp,tkU q]/\GoodW ns rs r ys m t ls/\aRv ns q/\∀zs,aWs ns rs ys q zs->R (.ow (zs.map tkU))
theorem cY:aL ["_law_world_here","_law_spot","_law_found","_law_back","_law_steps","_law_place","_law_k","_law_there"] ["_law_world_here","_law_spot"] (aC oO):=⟨rfl,rfl,rfl,by decide+kernel,rfl,by decide+kernel,by decide+kernel⟩
set_option maxHeartbeats 1000000 in
theorem aJa (F:Fun K "_law_leans" "_law_leans" oO f fd) (c__law_along:Cal P w K mg base CX0 1 "_law_along" ["_law_x","_law_size","_law_rim"] (spV aV5)) (T:Txt mg):bB P w K mg base CX0 2 f fd ["_law_world_here","_law_spot"] (spV aH0):=by
 refine vfn F cY (λcdv A outer s H E hr=>(aD (bF (i:=2) cY.nd (aPd (P:=P) (w:=w) rfl rfl)) (aD (eY Bf rfl (cH (lV (qP hr) (aA 0))) (aC1 rfl (jV (i:=3) cY.nd (jV (i:=4) cY.nd yF))) (aD (bF (i:=5) cY.nd (cW aH)) (aD (eY Bf rfl (iU T.range (aN (bI aV dM T.len Ee (aN (aA 4) aX)) aX)) (dX (i:=6) cY.nd) (aD (bF (i:=7) cY.nd (aO c__law_along (hr.mono (by decide)) rfl (aB (aU bA bM (bT bC bR (bT bC bR (aA 1) aF) (aA 6)) (bT bC bR (aA 4) (aA 6))) (aB (bT bC bR (lV (qP hr) (aA 0)) (aA 6)) (aB (bT bC bR (lV (qP hr) (aA 0)) (aA 6)) aH))))) (aG (bF (i:=5) cY.nd (aU bA bM (aA 5) (cW (aB (aA 7) aH))))))) (aG (cU (uF (aS9 (cI (aCc (huD hr)) aOn pB (aA 5)) (aP8 (cI sJ cC (bT bC bR (aA 1) aF) (aA 3))))) (aG (aP4 (P:=P) (w:=w) 2 rfl rfl hr (cW (aB (aU iD cC (bT bC bR (aA 1) aF) (aA 3)) (aB (aA 5) aH))) vI)) bK))))) (aG (aY (aOw (P:=P) (w:=w) rfl rfl hr rfl T.sorted (aA 2))))))) ?_;rintro _ R ⟨ns,rs,pl,r,ys,dp,m,t,ls,sp,q0,rfl,g,gq,q⟩;have gy:=aSb g.gj.ok g.gj.ln g.tk;have l3:=g.gj.gs.l3;have el:=g.gj.el;refine⟨rfl,wF 4 rfl rfl ?_⟩;refine cD (λl ρ=>∃(rest:List Tk) (kvs:List (Tke×U)) (a b c d e:Sl),l=rest.map tkU/\ρ=[.sh (wU ns rs pl r ys dp m t ls sp),.sh (tkU q0),.oo (pdO P w kvs),a,b,c,d,e]/\(∀y∈rest,y∈ys)/\kvs.length+rest.length<=17/\(kvs.map (·.1)).Nodup/\∀z,(z∈kvs.map (·.1)∨z∈rest.filterMap (jW ns rs q0))↔z∈ys.filterMap (jW ns rs q0)) ?_ ?_ ⟨ys,[],_,_,_,_,_,rfl,rfl,λ_ h=>h,by have:=gy.yl;simpa using this,Mf,λz=>⟨λh=>h.elim nofun id,.inr⟩⟩
 ·rintro ρ ⟨rest,kvs,a,b,c,d,e,er,rfl,_,hl,nd,hz⟩;obtain rfl:rest=[]:=List.map_eq_nil_iff.mp er.symm;refine⟨kvs,.inl rfl,by omega,λzs pm pw=>q zs ⟨pw,λz=>?_⟩⟩;rw [pm.mem_iff, <-hz z];exact⟨.inl,λh=>h.elim id nofun⟩
 ·rintro u l ρ ⟨rest0,kvs,a,b,c,d,e,er,rfl,hs,hl,nd,hz⟩ ih;cases rest0 with
  |nil=>cases er
  |cons y rest=>
   obtain⟨rfl,rfl⟩:=Bs er;have hy:=hs y Af;obtain⟨⟨y1,y2,y9⟩,yn⟩:=gy.gt y hy;rw [Ag]at hl;refine⟨rfl,by omega,by rw [Ab];omega,?_⟩;rw [Ab,yn,Ib];refine cD (λl ρ=>∃(k:Nat) (xs:List (Option Int)) (x z:Sl),l=(Lc k (ns.length-k)).map (λi:Nat=>U.n (0+(i:Int)))/\k<=ns.length/\xs.length=k/\ρ=[.sh (wU ns rs pl r ys dp m t ls sp),.sh (tkU q0),.oo (pdO P w kvs),.sh (.n y.1),.sh (.tp (y.2.map U.n)),.sh (.tp (xs.map oU)),x,z]/\xs++alo (ns.drop k) (rs.drop k) (q0.2.drop k) (y.2.drop k)=alo ns rs q0.2 y.2) ?_ ?_ ⟨0,[],_,_,by rw [Kn, <-Gx];rfl,Bb _,rfl,rfl,rfl⟩
   ·rintro ρ ⟨k,xs,x,z,e,hk,xk,rfl,ea⟩;have:k=ns.length:=by
     have:=congrArg Cd e;simp at this;omega
    subst this;rw [Kr]at ea;have ea:xs++[]=alo ns rs q0.2 y.2:=ea;rw [Bo]at ea;subst ea;obtain⟨b1,b2⟩:=aIr ns rs q0.2 y.2;have fin:∀o:Option Tk,jW ns rs q0 y=o->∀z,(z∈kvs.map (·.1)∨some z=o∨z∈rest.filterMap (jW ns rs q0))↔z∈ys.filterMap (jW ns rs q0):=λo ho z=>by
     rw [<-hz z,Ft,ho];cases o with
     |none=>exact⟨λh=>h.elim .inl λh=>h.elim nofun .inr,λh=>h.elim .inl λh=> .inr (.inr h)⟩
     |some v=>exact⟨λh=>h.elim .inl λh=> .inr (h.elim (λh=>by cases h;exact Af) (Ae _)),λh=>h.elim .inl λh=> .inr ((List.mem_cons.mp h).elim (λh=> .inl (by rw [h])) .inr)⟩
    have ne:∀kvs':List (Tke×U),kvs'.length+rest.length<=17->(kvs'.map (·.1)).Nodup->(∀z,(z∈kvs'.map (·.1)∨z∈rest.filterMap (jW ns rs q0))↔z∈ys.filterMap (jW ns rs q0))->nM _ _ _ (rest.map tkU) [.sh (wU ns rs pl r ys dp m t ls sp),.sh (tkU q0),.oo (pdO P w kvs'),.sh (.n y.1),.sh (.tp (y.2.map U.n)),.sh (.tp ((alo ns rs q0.2 y.2).map oU)),x,z]:=λkvs' a1 a2 a3=>ih _ ⟨rest,kvs',_,_,_,_,_,rfl,rfl,λy hy=>hs y (Ae _ hy),a1,a2,a3⟩;have skip:=λh0:jW ns rs q0 y=none=>ne kvs (by omega) nd λz=>⟨λh=>(fin none h0 z).mp (h.elim .inl λh=> .inr (.inr h)),λh=>((fin none h0 z).mpr h).elim .inl λh=>h.elim nofun .inr⟩;refine⟨trivial,aWj _,λh=>?_,λh=>⟨nofun,λ_=>skip ?_⟩⟩
    ·have h:(!(((alo ns rs q0.2 y.2).map oU).any λe=>e.eq .no))=true:=h;rw [aOg,Bool.not_eq_true']at h;have h:none∉alo ns rs q0.2 y.2:=λz=>by rw [List.elem_iff.mpr z]at h;cases h
     cases hb:bes ns rs q0.2 y.2 with
     |error c=>exact absurd (b2 c hb) h
     |ok l=>
      have hl1:jW ns rs q0 y=if 0<q0.1-y.1 then some (q0.1-y.1,l)else none:=by unfold jW;rw [hb]
      refine⟨_,rfl,λh'=>?_,λh'=>skip ?_⟩
      ·have h':y.1<q0.1:=of_decide_eq_true h';rw [if_pos (by omega)]at hl1;refine⟨kvs,rfl,by omega,_,rfl,(q0.1-y.1,l),?_,ne _ (by have:=aN5 (l:=kvs) (k:=(q0.1-y.1,l)) (u:=U.b true);omega) ?_ λz=>?_⟩
       ·show U.tp [.n (q0.1-y.1),.tp ((alo ns rs q0.2 y.2).map oU)]=U.tp [.n (q0.1-y.1),.tp (l.map U.n)];rw [b1 l hb,Bl];rfl
       ·exact aQx nd
       ·rw [aK6, <-fin _ hl1 z];exact⟨λh=>h.elim (λh=>h.elim .inl λh=> .inr (.inl (by rw [h]))) λh=> .inr (.inr h),λh=>h.elim (λh=> .inl (.inl h)) λh=>h.elim (λh=> .inl (.inr (Bm h))) .inr⟩
      ·rw [hl1,if_neg (by have:=of_decide_eq_false h';omega)]
    ·have h:(!(((alo ns rs q0.2 y.2).map oU).any λe=>e.eq .no))=false:=h;rw [aOg,Bool.not_eq_false']at h;have h:none∈alo ns rs q0.2 y.2:=List.elem_iff.mp h;unfold jW;cases hb:bes ns rs q0.2 y.2 with
     |error c=>rfl
     |ok l=>
      rw [b1 l hb]at h;obtain⟨_,_,e⟩:=List.mem_map.mp h;cases e
   ·rintro u l ρ ⟨k,xs,x,z,e,hk,xk,rfl,ea⟩ ih2;have hlt:k<ns.length:=by
     have:=congrArg Cd e;simp at this;omega
    rw [show ns.length-k=(ns.length-(k+1))+1 by omega,Ih,Aw]at e;obtain⟨rfl,rfl⟩:=Bs e;have kr:k<rs.length:=by omega
    have kq:k<q0.2.length:=by rw [gq.l];exact hlt
    have ky:k<y.2.length:=by omega
    have at_:∀{l:List Int} (h:k<l.length),atI (l.map U.n) (0+(k:Int))=some (U.n l[k]):=λ{l} h=>by rw [Ul];exact uZ (by rw [Ay,Al h];rfl)
    have atr:atI (rs.map Rim.u) (0+(k:Int))=some rs[k].u:=by rw [Ul];exact uZ (by rw [Ay,Al kr];rfl)
    have ok:=g.gj.gs.ok _ (Cp hlt);have xq:=gq.x _ (Cp kq);have x9:=y9 _ (Cp ky);refine⟨_,rfl,_,at_ kq,_,at_ ky,wF 0 rfl rfl ⟨_,at_ hlt,wF 1 rfl rfl ⟨_,atr,rs[k],ns[k],q0.2[k]+y.2[k],rfl,by omega,by omega,by omega,by omega,?_,?_⟩⟩⟩
    ·show(xs.map oU).length+1<=10000;rw [Ab];omega
    ·refine ih2 _ ⟨k+1,xs++[byR rs[k] ns[k] (q0.2[k]+y.2[k])],_,_,rfl,hlt,by rw [Ah,xk];rfl,by rw [Bc];rfl,?_⟩;rw [<-ea,Bh hlt,Bh kr,Bh kq,Bh ky,Bj];rfl
end
end Q
namespace Q
open PySem PyProof.Rows L2 KR
def spS (ns:List Int) (n:Nat):List Tk:=(Bp n).flatMap λ(j:Nat)=>(zB ns).map λp=>(1+(j:Int),p)
theorem aLa (ns:List Int) (n:Nat):spU (plU ns) n=(spS ns n).map tkU:=by
 unfold spU spS;rw [List.map_flatMap];congr 1;funext j;rw [Bl,Bl];rfl
theorem aMh {n:Int} (h:0<=n) (ps:List (List Int)):((ps.flatMap (ext n)).length:Int)=ps.length*n:=by
 induction ps with
 |nil=>simp
 |cons p ps ih=>
  rw [Ka,Ah,Ag];have:(ext n p).length=n.toNat:=by unfold ext;rw [Ab,Dd]
  rw [this,Je,ih,Je,Ph];omega
theorem aDz:∀(ns:List Int) (ps:List (List Int)),(∀n∈ns,1<=n)->((ns.foldl (λps n=>ps.flatMap (ext n)) ps).length:Int)=ns.foldl (λa n=>a*n) (ps.length:Int)
 | [],_,_=>rfl
 |n::ns,ps,h=>by
  rw [Fe,Fe,aDz ns _ λx hx=>h x (Ae _ hx),aMh (by have:=h n Af;omega)]
theorem aN3 {ns:List Int} (h:∀n∈ns,1<=n):((zB ns).length:Int)=rD ns:=aDz ns [[]] h
theorem aB0:∀(ns:List Int) (ps:List (List Int)) (a:Nat),(∀n∈ns,n<=9)->(∀p∈ps,p.length=a/\∀x∈p,0<=x/\x<=9)->∀p∈ns.foldl (λps n=>ps.flatMap (ext n)) ps,p.length=a+ns.length/\∀x∈p,0<=x/\x<=9
 | [],_,_,_,hp=>hp
 |n::ns,ps,a,h,hp=>by
  have:=aB0 ns (ps.flatMap (ext n)) (a+1) (λx hx=>h x (Ae _ hx)) λp hq=>by
   obtain⟨p0,h0,h1⟩:=List.mem_flatMap.mp hq;obtain⟨i,hi,rfl⟩:=List.mem_map.mp h1;have hn:=h n Af;have hi:=List.mem_range.mp hi;obtain⟨l0,x0⟩:=hp p0 h0;refine⟨by rw [Ah,l0];rfl,λx hx=>(List.mem_append.mp hx).elim (x0 x) λhx=>?_⟩;rw [List.mem_singleton.mp hx];omega
  intro p hq;obtain⟨a1,a2⟩:=this p hq;exact⟨by rw [a1,Ag];omega,a2⟩
theorem aPj {ns:List Int} {n:Nat} {q:Tk} (gs:oJ ns) (h:q∈spS ns n):aRv ns q/\1<=q.1:=by
 obtain⟨j,_,h⟩:=List.mem_flatMap.mp h;obtain⟨p,hp,rfl⟩:=List.mem_map.mp h;obtain⟨a1,a2⟩:=aB0 ns [[]] 0 (λn hn=>(gs.ok n hn).2) (λp hp=>by rw [List.mem_singleton.mp hp];exact⟨rfl,nofun⟩) p hp;exact⟨⟨by rw [a1];omega,a2⟩,by show 1<=1+(j:Int);omega⟩
theorem aM6 (ms:List Int):D.eqs (U.ds (ms.map U.n)) (U.ds (ms.map U.n))=true:=by
 induction ms with
 |nil=>rfl
 |cons a l ih=>
  show(eqV (.int a) (.int a) && D.eqs (U.ds (l.map U.n)) (U.ds (l.map U.n)))=true;rw [ih];simp [eqV]
theorem aM4 (ys:List Tk):U.eq (.ls (ys.map tkU)) (.ls (ys.map tkU))=true:=by
 show D.eqs (U.ds _) (U.ds _)=true;induction ys with
 |nil=>rfl
 |cons y l ih=>
  show((eqV (.int y.1) (.int y.1) && (D.eqs (U.ds (y.2.map U.n)) (U.ds (y.2.map U.n)) && true)) && D.eqs (U.ds (l.map tkU)) (U.ds (l.map tkU)))=true;rw [ih,aM6];simp [eqV]
theorem aTh {ns:List Int} (gs:oJ ns):(zB ns).length<=40:=by
 have:=aN3 λn hn=>(gs.ok n hn).1;have:=gs.mn;omega
theorem aUr {l:List Tk} (h:l.Pairwise λx y=>lQ x y=true):l.Nodup:=h.imp λ{a b} h e=>by
 subst e;unfold lQ at h;rw [if_pos rfl,uC]at h;cases h
end Q
namespace Q
open PySem PyProof.Rows L2 KR
def aK5 (K:Ac):Fv:=λus R=>∃sc:List Int,us=[.op (aA4 K sc)]/\R (.sh (.b true))
section
variable {P:Program} {w:World} {K:Ac} {mg:Str->Option Value} {base:Heap} {f C:Addr} {fd:FuncData} {N:Cn} {d:Nat}
theorem tW:aL ["_law_script","_law_k","_law_world_here","_law_job_here","_law_spot","_law_turn","_law_found"] ["_law_script"] (aC aCb):=⟨rfl,rfl,rfl,by decide+kernel,rfl,by decide+kernel,by decide+kernel⟩
theorem aS8 {CG CJ:Addr} (F:Fun K "law" "law" aCb f fd) (c__law_world:Cal P w K mg base CX0 30 "_law_world" ["_law_script","_law_k","_law_most"] (spV (aOy K))) (c__law_job:Cal P w K mg base CX0 30 "_law_job" ["_law_world_here"] (spV (aRl N CG CJ))) (c__law_leans:Cal P w K mg base CX0 2 "_law_leans" ["_law_world_here","_law_spot"] (spV aH0)) (c_leans_of:Cal P w K mg base CX0 6 "leans_of" ["job","spot"] (spV (aKs N CG CJ))) (D_all_spots:Dis P w K mg base CX0 3 (·=CJ) "all_spots" ["self"] λ_=>spV (aR7 N CG CJ)) (T:Txt mg):bB P w K mg base CX0 31 f fd ["_law_script"] (spV (aK5 K)):=by
 refine vfn F tW (λcdv A outer s H E hr=>(aD (eY Bf rfl (wJ T.range (aN aF (aN aF aX))) (dX (i:=1) tW.nd) (aD (bF (i:=2) tW.nd (aO c__law_world (hr.mono (by decide)) rfl (aB (aA 0) (aB (aA 1) (aB aF aH))))) (aD (bF (i:=3) tW.nd (aO c__law_job (hr.mono (by decide)) rfl (aB (aA 2) aH))) (aD (eY Bf rfl (cH (aUk (lV (qP hr) (aA 2)))) (dX (i:=4) tW.nd) (aG (eY Bf rfl (iU T.range (aN aF aX)) (dX (i:=5) tW.nd) (aD (bF (i:=6) tW.nd (aO c_leans_of (hr.mono (by decide)) rfl (aB (aA 3) (aB (aA 4) aH)))) (aD (cU (uF (wQ (gJ (gW (qI .ls nofun T.isinstance T.list Iq (aA 6)))) (qY (cI (aAb (huD hr)) kO (aA 6) (aO c__law_leans (hr.mono (by decide)) rfl (aB (aA 2) (aB (aA 4) aH))))))) (aG (aY vI)) bK) (aG (zJ 6 (aA 4)))))))) (aG (cU (cI (aAb (huD hr)) kO (cA (aA 3) D_all_spots (hr.mono (by decide))) (lV (qP hr) (aA 2))) (aG (aY vI)) bK)))))) (aG (aY vI)))) ?_;rintro _ R ⟨sc,rfl,q⟩;refine⟨rfl,⟨by decide,by decide,by decide,by decide⟩,?_⟩;refine cD (λl ρ=>(∀u∈l,∃k:Nat,u= .n (k:Int))/\∃a b c d e x:Sl,ρ=[.sh (.op (aA4 K sc)),a,b,c,d,e,x]) ?_ ?_ ⟨λu hu=>?_,_,_,_,_,_,_,rfl⟩
 ·rintro ρ ⟨_,a,b,c,d,e,x,rfl⟩;exact q
 ·rintro u l ρ ⟨hl,a,b,c,d,e,x,rfl⟩ ih;obtain⟨k,rfl⟩:=hl u Af;refine⟨sc,k,60,rfl,by decide,by decide,λns rs r ys dp m t ls g=>?_⟩;rw [aLa];refine⟨ns,rs,_,r,ys,dp,m,t,ls,_,rfl,g,λzs hz=>?_⟩;obtain rfl:zs=ys:=hz.uniq g.tk;have gy:=aSb g.gj.ok g.gj.ln g.tk;have yn:∀y∈zs,y.2.length=ns.length:=λy hy=>(gy.gt y hy).2;refine wF 9 rfl rfl ?_;refine cD (λl ρ=>(∀u∈l,∃q∈spS ns r.toNat,u=tkU q)/\∃x y z:Sl,ρ=[.sh (.op (aA4 K sc)),.sh (.n (k:Int)),.sh (wU ns rs (plU ns) r zs dp m t ls ((spS ns r.toNat).map tkU)),.sh (aDh N CG CJ ns rs t zs m r ls),x,y,z]) ?_ ?_ ⟨λu hu=>?_,_,_,_,rfl⟩
  ·rintro ρ ⟨_,x,y,z,rfl⟩;refine⟨rfl,rfl,ns,rs,t,zs,m,r,ls,rfl,g.gj.gs,aTh g.gj.gs,g.gj.r0.1,g.gj.r0.2,wF 9 rfl rfl ?_⟩;rw [aLa];refine⟨yK 37 _,yK 37 _,λh=>?_,λ_=>ih _ ⟨λu hu=>hl u (Ae _ hu),_,_,_,_,_,_,rfl⟩⟩;have h:(!U.eq (.ls ((spS ns r.toNat).map tkU)) (.ls ((spS ns r.toNat).map tkU)))=true:=h;rw [aM4]at h;cases h
  ·rintro u2 l2 ρ ⟨hl2,x,y,z,rfl⟩ ih2;obtain⟨q0,hq,rfl⟩:=hl2 u2 Af;obtain⟨gq,_⟩:=aPj g.gj.gs hq;refine⟨by decide,by decide,?_⟩;refine cD (λ_ ρ=>∃x y:Sl,ρ=[.sh (.op (aA4 K sc)),.sh (.n (k:Int)),.sh (wU ns rs (plU ns) r zs dp m t ls ((spS ns r.toNat).map tkU)),.sh (aDh N CG CJ ns rs t zs m r ls),.sh (tkU q0),x,y]) ?_ ?_ ⟨_,_,rfl⟩
   ·rintro ρ ⟨x,y,rfl⟩;exact ih2 _ ⟨λu hu=>hl2 u (Ae _ hu),_,_,_,rfl⟩
   ·rintro u3 l3 ρ ⟨x,y,rfl⟩ ih3;refine⟨ns,rs,t,zs,m,r,ls,q0,rfl,g.gj.gs,g.gj.el,gq.l,yn,gy.yl,λws hw=>?_⟩;refine⟨_,rfl,nofun,λ_=>⟨ns,rs,_,r,zs,dp,m,t,ls,_,q0,rfl,g,gq,λvs hv=>?_⟩⟩;obtain rfl:vs=ws:=yZ hv.1 hw.1 λz=>(hv.2 z).trans (hw.2 z).symm;refine⟨yK 37 _,yK 37 _,λh=>?_,λ_=>⟨?_,ih3 _ ⟨_,_,rfl⟩⟩⟩
    ·have h:(!U.eq (.ls (vs.map tkU)) (.ls (vs.map tkU)))=true:=h;rw [aM4]at h;cases h
    ·rw [Ab];have:=aUr hv.1;have:=this.length_le_of_subset (l₂:=zs.filterMap (jW ns rs q0)) λz hz=>(hv.2 z).mp hz;have:=Mq (jW ns rs q0) zs;have:=gy.yl;omega
  ·obtain⟨q0,hq,rfl⟩:=List.mem_map.mp (List.mem_reverse.mp hu);exact⟨q0,hq,rfl⟩
 ·unfold pR at hu;obtain⟨i,_,rfl⟩:=List.mem_map.mp hu;exact⟨1+i,by simp⟩
end
end Q
namespace Q
open PySem PyProof.Rows L2 KR
def tag:Tm->Nat
 | .num _=>0
 | .take _ _=>1
 | .rest _ _=>2
 | .cho _ _ _=>3
 | .bin k _ _=>4+k.val
def zR (N:Cn):List Addr:=[N.num,N.take,N.rest,N.cho,N.bin 0,N.bin 1,N.bin 2,N.bin 3,N.bin 4]
theorem aGm (N:Cn):∀t:Tm,(zR N)[tag t]? =some (cls N t)
 | .num _=>rfl
 | .take _ _=>rfl
 | .rest _ _=>rfl
 | .cho _ _ _=>rfl
 | .bin k _ _=>by
  match k with
  |0=>rfl
  |1=>rfl
  |2=>rfl
  |3=>rfl
  |4=>rfl
theorem zT {N:Cn} (nd:(zR N).Nodup) {t u:Tm} (h:cls N t=cls N u):tag t=tag u:=by
 have h1:=aGm N t;have h2:=aGm N u;rw [h]at h1;exact(List.getElem?_inj (List.getElem?_eq_some_iff.mp h1).1 nd).mp (h1.trans h2.symm)
theorem aLj {N:Cn} (nd:(zR N).Nodup) {t:Tm} (h:cls N t=N.num):∃n,t= .num n:=by
 have:=zT nd (u:= .num 0) h;cases t<;>simp [tag]at this<;>first|exact⟨_,rfl⟩|omega
theorem aCx {N:Cn} (nd:(zR N).Nodup) {t:Tm} (h:cls N t=N.take):∃b ss,t= .take b ss:=by
 have:=zT nd (u:= .take 0 []) h;cases t<;>simp [tag]at this<;>first|exact⟨_,_,rfl⟩|omega
theorem aI0 {N:Cn} (nd:(zR N).Nodup) {t:Tm} (h:cls N t=N.rest):∃a y,t= .rest a y:=by
 have:=zT nd (u:= .rest (.num 0) 0) h;cases t<;>simp [tag]at this<;>first|exact⟨_,_,rfl⟩|omega
theorem aUp {N:Cn} (nd:(zR N).Nodup) {t:Tm} (h:cls N t=N.cho):∃a b c,t= .cho a b c:=by
 have:=zT nd (u:= .cho (.num 0) (.num 0) (.num 0)) h;cases t<;>simp [tag]at this<;>first|exact⟨_,_,_,rfl⟩|omega
theorem aSv {N:Cn} (nd:(zR N).Nodup) {t:Tm} {k:Fin 5} (h:cls N t=N.bin k):∃a b,t= .bin k a b:=by
 have:=zT nd (u:= .bin k (.num 0) (.num 0)) h;cases t with
 |bin j a b=>
  have e:j=k:=Fin.ext (by simp only [tag]at this;omega);exact⟨a,b,by rw [e]⟩
 |_=>simp [tag]at this<;>omega
theorem knS {us:List Value} {n:Nat} {P:List Value->Prop} (h:us.length=n+1) (k:∀a t,t.length=n->P (a::t)):P us:=by
 cases us with
 |nil=>cases h
 |cons a t=>exact k a t (Hc h)
theorem kn1 {us:List Value} {P:List Value->Prop} (h:us.length=1) (k:∀a,P [a]):P us:=knS h λa t ht=>by cases t with|nil=>exact k a|cons=>cases ht
theorem kn2 {us:List Value} {P:List Value->Prop} (h:us.length=2) (k:∀a b,P [a,b]):P us:=knS h λa t ht=>kn1 (P:=λt=>P (a::t)) ht λb=>k a b
theorem kn3 {us:List Value} {P:List Value->Prop} (h:us.length=3) (k:∀a b c,P [a,b,c]):P us:=knS h λa t ht=>kn2 (P:=λt=>P (a::t)) ht λb c=>k a b c
theorem kn4 {us:List Value} {P:List Value->Prop} (h:us.length=4) (k:∀a b c d,P [a,b,c,d]):P us:=knS h λa t ht=>kn3 (P:=λt=>P (a::t)) ht λb c d=>k a b c d
theorem kn5 {us:List Value} {P:List Value->Prop} (h:us.length=5) (k:∀a b c d e,P [a,b,c,d,e]):P us:=knS h λa t ht=>kn4 (P:=λt=>P (a::t)) ht λb c d e=>k a b c d e
theorem kn6 {us:List Value} {P:List Value->Prop} (h:us.length=6) (k:∀a b c d e f,P [a,b,c,d,e,f]):P us:=knS h λa t ht=>kn5 (P:=λt=>P (a::t)) ht λb c d e f=>k a b c d e f
theorem kb1 {fd:FuncData} {ps:List Str} {us:List Value} (h:us.length=1) (k:∀a,bindArgs fd ⟨[a],[]⟩=pure (ps.zip [a])):bindArgs fd ⟨us,[]⟩=pure (ps.zip us):=kn1 (P:=λus=>bindArgs fd ⟨us,[]⟩=pure (ps.zip us)) h k
theorem kb2 {fd:FuncData} {ps:List Str} {us:List Value} (h:us.length=2) (k:∀a b,bindArgs fd ⟨[a,b],[]⟩=pure (ps.zip [a,b])):bindArgs fd ⟨us,[]⟩=pure (ps.zip us):=kn2 (P:=λus=>bindArgs fd ⟨us,[]⟩=pure (ps.zip us)) h k
theorem kb3 {fd:FuncData} {ps:List Str} {us:List Value} (h:us.length=3) (k:∀a b c,bindArgs fd ⟨[a,b,c],[]⟩=pure (ps.zip [a,b,c])):bindArgs fd ⟨us,[]⟩=pure (ps.zip us):=kn3 (P:=λus=>bindArgs fd ⟨us,[]⟩=pure (ps.zip us)) h k
theorem kb4 {fd:FuncData} {ps:List Str} {us:List Value} (h:us.length=4) (k:∀a b c d,bindArgs fd ⟨[a,b,c,d],[]⟩=pure (ps.zip [a,b,c,d])):bindArgs fd ⟨us,[]⟩=pure (ps.zip us):=kn4 (P:=λus=>bindArgs fd ⟨us,[]⟩=pure (ps.zip us)) h k
theorem kb6 {fd:FuncData} {ps:List Str} {us:List Value} (h:us.length=6) (k:∀a b c d e f,bindArgs fd ⟨[a,b,c,d,e,f],[]⟩=pure (ps.zip [a,b,c,d,e,f])):bindArgs fd ⟨us,[]⟩=pure (ps.zip us):=kn6 (P:=λus=>bindArgs fd ⟨us,[]⟩=pure (ps.zip us)) h k
section
variable {P:Program} {w:World} {K:Ac} {mg:Str->Option Value} {base:Heap} {N:Cn}
abbrev GN (K:Ac) (n:Str) (f:Addr):Prop:=PySem.W.nsIn K mainGlobals n=some (some (.ref f))
abbrev FI (K:Ac) (C:Addr) (n:Str) (f:Addr):Prop:=Dg K (.ref C) n=some (some (.ref f))
structure CK (K:Ac) (C:Addr) (fs:List Str):Prop where
 c:Cls K C
 na:∀f∈fs,jY K C f
 ms:Kd K C=true
 kc:Fj K (.ref C)=true
theorem CK.cf {K:Ac} {C:Addr} {fs:List Str} (h:CK K C fs):Cf K C fs:=⟨h.c,h.na⟩
theorem CK.fl {K:Ac} {C:Addr} {fs:List Str} (h:CK K C fs):Cfl K C fs:=⟨h.c,h.na⟩
theorem na0 {K:Ac} {C:Addr}:∀f∈([]:List Str),jY K C f:=λ_ h=>nomatch h
theorem naS {K:Ac} {C:Addr} {x:Str} {l:List Str} (h:Dg K (.ref C) x=some none) (k:∀f∈l,jY K C f):∀f∈x::l,jY K C f:=λf hf=>(List.mem_cons.mp hf).elim (λe=>e▸h) (k f)
theorem mth {K:Ac} {C D f:Addr} {n:Str} (h:Meth K C n f) (g:FI K D n f):Meth K D n f:=⟨g,h.fn,h.kp⟩
theorem mkO {K:Ac} {C f:Addr} {fs:List Str} (h:CK K C fs) (g:Meth K C "__init__" f):Mk K C f:=⟨h.ms,g.at_,g.fn,h.kc⟩
theorem fb1 (a:Str) {x q:Str} {st:Stmt} {f:Addr} {fd:FuncData} (F:Fun K x q st f fd) (h:∀kV doc pm an cdv ct u,bindArgs (Eg x q (jN st) (fV st) (aC st) .none kV doc pm an cdv ct) ⟨[u],[]⟩=pure ([a].zip [u]):=by intros;rfl):Binds K fd [a] []:=F.binds λ_ _ _ _ _ _ us hl=>kb1 hl (h _ _ _ _ _ _)
theorem fb2 (a b:Str) {x q:Str} {st:Stmt} {f:Addr} {fd:FuncData} (F:Fun K x q st f fd) (h:∀kV doc pm an cdv ct u v,bindArgs (Eg x q (jN st) (fV st) (aC st) .none kV doc pm an cdv ct) ⟨[u,v],[]⟩=pure ([a,b].zip [u,v]):=by intros;rfl):Binds K fd [a,b] []:=F.binds λ_ _ _ _ _ _ us hl=>kb2 hl (h _ _ _ _ _ _)
theorem fb3 (a b c:Str) {x q:Str} {st:Stmt} {f:Addr} {fd:FuncData} (F:Fun K x q st f fd) (h:∀kV doc pm an cdv ct u v y,bindArgs (Eg x q (jN st) (fV st) (aC st) .none kV doc pm an cdv ct) ⟨[u,v,y],[]⟩=pure ([a,b,c].zip [u,v,y]):=by intros;rfl):Binds K fd [a,b,c] []:=F.binds λ_ _ _ _ _ _ us hl=>kb3 hl (h _ _ _ _ _ _)
theorem fb4 (a b c d:Str) {x q:Str} {st:Stmt} {f:Addr} {fd:FuncData} (F:Fun K x q st f fd) (h:∀kV doc pm an cdv ct u v y z,bindArgs (Eg x q (jN st) (fV st) (aC st) .none kV doc pm an cdv ct) ⟨[u,v,y,z],[]⟩=pure ([a,b,c,d].zip [u,v,y,z]):=by intros;rfl):Binds K fd [a,b,c,d] []:=F.binds λ_ _ _ _ _ _ us hl=>kb4 hl (h _ _ _ _ _ _)
theorem fb6 (a b c d e g:Str) {x q:Str} {st:Stmt} {f:Addr} {fd:FuncData} (F:Fun K x q st f fd) (h:∀kV doc pm an cdv ct u v y z o p,bindArgs (Eg x q (jN st) (fV st) (aC st) .none kV doc pm an cdv ct) ⟨[u,v,y,z,o,p],[]⟩=pure ([a,b,c,d,e,g].zip [u,v,y,z,o,p]):=by intros;rfl):Binds K fd [a,b,c,d,e,g] []:=F.binds λ_ _ _ _ _ _ us hl=>kb6 hl (h _ _ _ _ _ _)
theorem rK {CX:CXT} {k:Nat} {f:Addr} {fd:FuncData} {ps:List Str} {sp:Sp} (h:∀vs H Q E,¬sp vs H Q E):bB P w K mg base CX k f fd ps sp:=
 ⟨λvs H Q E z=>absurd z (h vs H Q E),λ_ _ _ H _ _ vs Q E _ _ _ _ z=>absurd z (h vs H Q E)⟩
theorem aJh {f1 f2 f3 f4:Addr} {g1 g2 g3 g4:FuncData} (nd:(zR N).Nodup) (F1:Fun K "inner" "Term.inner" lH f1 g1) (F2:Fun K "inner" "Paired.inner" iR f2 g2) (F3:Fun K "inner" "Rest.inner" lD f3 g3) (F4:Fun K "inner" "Chosen.inner" iY f4 g4)
  (cl:∀C,IsC N C->Cls K C) (c3:Cfl K N.rest ["one","by"]) (c4:Cfl K N.cho ["test","one","other"]) (c5:∀k,Cfl K (N.bin k) ["one","other"])
  (m1:Meth K N.num "inner" f1) (m2:Meth K N.take "inner" f1) (m3:Meth K N.rest "inner" f3) (m4:Meth K N.cho "inner" f4) (m5:∀k,Meth K (N.bin k) "inner" f2):jZ P w K mg base N 1 "inner" (jD N):=by
 refine⟨λC hC=>⟨cl C hC,?_⟩⟩;rcases hC with rfl|rfl|rfl|rfl|⟨k,rfl⟩
 ·exact⟨f1,g1,m1,aCd F1 (λt h=>by obtain⟨n,rfl⟩:=aLj nd h;rfl),fb1 "self" F1⟩
 ·exact⟨f1,g1,m2,aCd F1 (λt h=>by obtain⟨b,ss,rfl⟩:=aCx nd h;rfl),fb1 "self" F1⟩
 ·exact⟨f3,g3,m3,aJf F3 c3 λt h=>aI0 nd h,fb1 "self" F3⟩
 ·exact⟨f4,g4,m4,aJw F4 c4 λt h=>aUp nd h,fb1 "self" F4⟩
 ·exact⟨f2,g2,m5 k,aJq F2 (c5 k) λt h=>aSv nd h,fb1 "self" F2⟩
theorem aB2 {f1 f2:Addr} {g1 g2:FuncData} (nd:(zR N).Nodup) (F1:Fun K "takes" "Term.takes" lG f1 g1) (F2:Fun K "takes" "Take.takes" lE f2 g2) (cl:∀C,IsC N C->Cls K C) (c2:Cfl K N.take ["back","steps"])
  (m1:∀C,IsC N C->C≠N.take->Meth K C "takes" f1) (m2:Meth K N.take "takes" f2) (D_inner:jZ P w K mg base N 1 "inner" (jD N)) (T:Txt mg):∀d,jZ P w K mg base N (d+1) "takes" (rG N d)
 |0=>⟨λC hC=>⟨cl C hC,by
   have no:∀vs H Q E,¬spV (rG N 0 C) vs H Q E:=λvs H Q E ⟨_,_,_,_,_,_,⟨t,_,_,h,_⟩,_⟩=>absurd (pC t) (by omega);by_cases e:C=N.take
   ·subst e;exact⟨f2,g2,m2,rK no,fb1 "self" F2⟩
   ·exact⟨f1,g1,m1 C hC e,rK no,fb1 "self" F1⟩⟩⟩
 |d+1=>⟨λC hC=>⟨cl C hC,by
   by_cases e:C=N.take
   ·subst e;exact⟨f2,g2,m2,aJv F2 c2 λt h=>aCx nd h,fb1 "self" F2⟩
   ·exact⟨f1,g1,m1 C hC e,aJr F1 (λt h b ss z=>e (by rw [<-h,z];rfl)) D_inner (aB2 nd F1 F2 cl c2 m1 m2 D_inner T d) T,fb1 "self" F1⟩⟩⟩
theorem aBy {f1:Addr} {g1:FuncData} (F1:Fun K "depth" "Term.depth" iZ f1 g1) (cl:∀C,IsC N C->Cls K C) (m1:∀C,IsC N C->Meth K C "depth" f1) (D_inner:jZ P w K mg base N 1 "inner" (jD N)) (T:Txt mg):∀d,jZ P w K mg base N (d+1) "depth" (aD4 N ht d)
 |0=>⟨λC hC=>⟨cl C hC,f1,g1,m1 C hC,rK (λvs H Q E ⟨_,_,_,_,_,_,⟨t,_,_,h,_⟩,_⟩=>absurd (pC t) (by omega)),fb1 "self" F1⟩⟩
 |d+1=>⟨λC hC=>⟨cl C hC,f1,g1,m1 C hC,aKg F1 D_inner (aBy F1 cl m1 D_inner T d) T,fb1 "self" F1⟩⟩
theorem aB7 {f1:Addr} {g1:FuncData} (F1:Fun K "parts" "Term.parts" iM f1 g1) (cl:∀C,IsC N C->Cls K C) (m1:∀C,IsC N C->Meth K C "parts" f1) (D_inner:jZ P w K mg base N 1 "inner" (jD N)) (T:Txt mg):∀d,jZ P w K mg base N (d+1) "parts" (aD4 N dD d)
 |0=>⟨λC hC=>⟨cl C hC,f1,g1,m1 C hC,rK (λvs H Q E ⟨_,_,_,_,_,_,⟨t,_,_,h,_⟩,_⟩=>absurd (pC t) (by omega)),fb1 "self" F1⟩⟩
 |d+1=>⟨λC hC=>⟨cl C hC,f1,g1,m1 C hC,aJn F1 D_inner (aB7 F1 cl m1 D_inner T d) T,fb1 "self" F1⟩⟩
theorem aNt {f:Addr} {fd:FuncData} (F:Fun K "first_fault" "first_fault" jL f fd) (m:mg "first_fault"=some (.ref f)) (D_inner:jZ P w K mg base N 1 "inner" (jD N)) (D_fault:jZ P w K mg base N 4 "own_fault" (pY N)):∀d,Cal P w K mg base CX0 (d+4) "first_fault" ["term"] (spV (fFF N d))
 |0=>⟨_,_,rK (λvs H Q E ⟨_,_,_,_,_,_,⟨t,_,h,_⟩,_⟩=>absurd (pC t) (by omega)),m,F.kp,fb1 "term" F⟩
 |d+1=>⟨_,_,aWp F (aNt F m D_inner D_fault d) D_inner D_fault,m,F.kp,fb1 "term" F⟩
theorem aJs {f1 f2 f3 f4:Addr} {g1 g2 g3 g4:FuncData} (nd:(zR N).Nodup) (F1:Fun K "own_fault" "Term.own_fault" fU f1 g1) (F2:Fun K "own_fault" "Number.own_fault" dZ f2 g2) (F3:Fun K "own_fault" "Take.own_fault" fX f3 g3) (F4:Fun K "own_fault" "Rest.own_fault" fZ f4 g4)
  (cl:∀C,IsC N C->Cls K C) (c1:Cfl K N.num ["value"]) (c2:Cfl K N.take ["back","steps"]) (c3:Cfl K N.rest ["one","by"])
  (c_within:Cal P w K mg base CX0 2 "is_within" PW3 (spV jP)) (c_steps:Cal P w K mg base CX0 3 "are_steps" ["thing"] (spV aHh)) (T:Txt mg)
  (m1:Meth K N.num "own_fault" f2) (m2:Meth K N.take "own_fault" f3) (m3:Meth K N.rest "own_fault" f4) (m4:Meth K N.cho "own_fault" f1) (m5:∀k,Meth K (N.bin k) "own_fault" f1):jZ P w K mg base N 4 "own_fault" (pY N):=by
 refine⟨λC hC=>⟨cl C hC,?_⟩⟩;rcases hC with rfl|rfl|rfl|rfl|⟨k,rfl⟩
 ·exact⟨f2,g2,m1,aJ4 F2 c1 (λt h=>aLj nd h) c_within T,fb1 "self" F2⟩
 ·exact⟨f3,g3,m2,aJ8 F3 c2 (λt h=>aCx nd h) c_within c_steps T,fb1 "self" F3⟩
 ·exact⟨f4,g4,m3,aKa F4 c3 (λt h=>aI0 nd h) c_within T,fb1 "self" F4⟩
 ·exact⟨f1,g1,m4,aB6 F1,fb1 "self" F1⟩
 ·exact⟨f1,g1,m5 k,aB6 F1,fb1 "self" F1⟩
theorem jA {CR f:Addr} {fd:FuncData} {k:Nat} {m:Str} {ps:List Str} {sp:Sp} (cl:Cls K CR) (h:Meth K CR m f) (b:Binds K fd ps []) (F:bB P w K mg base CX0 k f fd ps sp):Dis P w K mg base CX0 k (·=CR) m ps λ_=>sp:=⟨λC hC=>by
 have hC:C=CR:=hC;subst hC;exact⟨cl,f,fd,h,F,b⟩⟩
theorem aEm {CR fB fE fP:Addr} {gB gE gP:FuncData} (cl:Cls K CR) (n:aEn N CR) (M:aFf P w K mg base N) (T:KR.Txt K mg) (F1:Fun K "read_bracket" "TermReader.read_bracket" uI fB gB) (F2:Fun K "read_behind" "TermReader.read_behind" rR fE gE) (F3:Fun K "read_part" "TermReader.read_part" yC fP gP)
  (m1:Meth K CR "read_bracket" fB) (m2:Meth K CR "read_behind" fE) (m3:Meth K CR "read_part" fP)
  (D_ahead:DR P w K mg base 1 CR "ahead" ["self"] (lF CR)) (D_pass_by:DR P w K mg base 2 CR "pass_by" ["self","signs"] (qN CR)) (D_read_figures:DR P w K mg base 3 CR "read_figures" ["self"] (aC2 CR)) (D_read_number:DR P w K mg base 4 CR "read_number" ["self"] (aCh CR)) (D_read_take:DR P w K mg base 5 CR "read_take" ["self"] (aC6 N CR)) (D_read_word:DR P w K mg base 3 CR "read_word" ["self"] (aGi CR)) (c_pairBy:Cal P w K mg base CX0 3 "pair_by" ["word","one","other"] (zM N)):∀d,DR P w K mg base (3*d+3) CR "read_part" ["self","within"] (zU N CR d)
 |0=>jA cl m3 (fb2 "self" "within" F3) (rK λvs H Q E ⟨_,_,_,t,_,_,_,_,_,_,_,h,_,_,_⟩=>absurd (pC t) (by omega))
 |d+1=>by
  have D:=aEm cl n M T F1 F2 F3 m1 m2 m3 D_ahead D_pass_by D_read_figures D_read_number D_read_take D_read_word c_pairBy d;have DE:=jA cl m2 (fb4 "self" "one" "word" "within" F2) (aJt F2 n M D_pass_by D_read_figures D c_pairBy);have DB:=jA cl m1 (fb2 "self" "within" F1) (aL4 F1 n D_pass_by D_read_word D DE T);exact jA cl m3 (fb2 "self" "within" F3) (aPs F3 M D_ahead D_read_number D_read_take DB)
theorem aVa {H:Hp} {a:Addr} {ns:List Int} {E:XK} (h:SqL K H a (ns.map V.int)):spV (aK5 K) [.ref a] H (λv _=>v= .bl true) E:=
 ⟨λ_=>False,λ_=>False,[.op (aA4 K ns)],λs=>s= .sh (.b true),⟨nofun,nofun,nofun⟩,⟨_,_,rfl,⟨a,rfl,h.imp (λh=>⟨id,h⟩) λh _=> .inr h⟩,rfl⟩,⟨ns,rfl,rfl⟩,λs v H' hs _ r=>by
  subst hs;exact r.1⟩
end
end Q
namespace Q
open PySem PyProof.Rows L2 KR
theorem aTl {l:W.OpenLaw} {w:World} {K:W.Frag} {h:Heap} {mg:Str->Option Value} {fa aW Cnum Ctake Crest Ccho Cb0 Cb1 Cb2 Cb3 Cb4 CR CG CJ f10 f11 f12 f13 f14 f15 f16 f17 f18 f19 f20 f21 f22 f23 f24 f25 f26 f27 f28 f29 f30 f31 f32 f33 f34 f35 f36 f37 f38 f39 f40 f41 f42 f43 f44 f45 f46 f47 f48 f49 f50 f51 f52 f53 f54 f55 f56 f57 f58 f59 f60 f61 f62 f63 f64 f65 f66 f67 f68 f69 f70 f71 f72 f73 f74 f75 f76 f77 f78:Addr} {g10 g11 g12 g13 g14 g15 g16 g17 g18 g19 g20 g21 g22 g23 g24 g25 g26 g27 g28 g29 g30 g31 g32 g33 g34 g35 g36 g37 g38 g39 g40 g41 g42 g43 g44 g45 g46 g47 g48 g49 g50 g51 g52 g53 g54 g55 g56 g57 g58 g59 g60 g61 g62 g63 g64 g65 g66 g67 g68 g69 g70 g71 g72 g73 g74 g75 g76 g77 g78:FuncData} {odW:Option Addr} {nW:Nat} {slW:Array (Option Value)} {tF tW1 tW2 tW3 tW4 tW5 tW6 tW7 t_GREATEST_NUMBER t_GREATEST_DIVISOR t_GREATEST_BACK t_GREATEST_STEP t_MOST_STEPS_terms t_MOST_DEPTH t_MOST_PARTS t_MOST_TAKES t_GREATEST_MODULUS t_MOST_ROUNDS t_MOST_SPOTS t_GREATEST_FIXED t_MOST_LINES t_GREATEST_SIZE t_MOST_PLACES t_MOST_FIGURES t_MOST_STEPS_term_texts t_MOST_WITHIN:Tok} (X:K.In h) (G:h.Ns mainGlobals mg) (hfa:mg "law"=some (.ref fa))
  (aCnum:GN K "Number" Cnum) (aCtake:GN K "Take" Ctake) (aCrest:GN K "Rest" Crest) (aCcho:GN K "Chosen" Ccho)
  (aCb0:GN K "Added" Cb0) (aCb1:GN K "Lessened" Cb1) (aCb2:GN K "Multiplied" Cb2) (aCb3:GN K "Least" Cb3)
  (aCb4:GN K "Most" Cb4) (aCR:GN K "TermReader" CR) (aCG:GN K "Grid" CG) (aCJ:GN K "Job" CJ)
  (a10:GN K "is_whole" f10) (F10:Fun K "is_whole" "is_whole" tK f10 g10) (a11:GN K "is_within" f11) (F11:Fun K "is_within" "is_within" qU f11 g11)
  (a12:GN K "is_rim" f12) (F12:Fun K "is_rim" "is_rim" zK f12 g12) (a13:GN K "product" f13) (F13:Fun K "product" "product" vZ f13 g13)
  (a14:GN K "check_lines" f14) (F14:Fun K "check_lines" "check_lines" mX f14 g14) (a15:GN K "are_steps" f15) (F15:Fun K "are_steps" "are_steps" mO f15 g15)
  (a16:GN K "lines_of" f16) (F16:Fun K "lines_of" "lines_of" oY f16 g16) (a17:GN K "first_fault" f17) (F17:Fun K "first_fault" "first_fault" jL f17 g17)
  (a18:GN K "check_term" f18) (F18:Fun K "check_term" "check_term" oX f18 g18) (a19:GN K "read_term" f19) (F19:Fun K "read_term" "read_term" qQ f19 g19)
  (a20:GN K "is_row" f20) (F20:Fun K "is_row" "is_row" uN f20 g20) (a21:GN K "are_rows" f21) (F21:Fun K "are_rows" "are_rows" oN f21 g21)
  (a22:GN K "_law_cell" f22) (F22:Fun K "_law_cell" "_law_cell" rH f22 g22) (a23:GN K "_law_mixed" f23) (F23:Fun K "_law_mixed" "_law_mixed" oZ f23 g23)
  (a24:GN K "_law_twice" f24) (F24:Fun K "_law_twice" "_law_twice" pI f24 g24) (a25:GN K "_law_draw" f25) (F25:Fun K "_law_draw" "_law_draw" qK f25 g25)
  (a26:GN K "_law_well" f26) (F26:Fun K "_law_well" "_law_well" rB f26 g26) (a27:GN K "_law_lines" f27) (F27:Fun K "_law_lines" "_law_lines" iK f27 g27)
  (a28:GN K "_law_take" f28) (F28:Fun K "_law_take" "_law_take" mF f28 g28) (a29:GN K "_law_term" f29) (F29:Fun K "_law_term" "_law_term" mK f29 g29)
  (a30:GN K "_law_world" f30) (F30:Fun K "_law_world" "_law_world" bW f30 g30) (a31:GN K "_law_job" f31) (F31:Fun K "_law_job" "_law_job" tX f31 g31)
  (a32:GN K "law" f32) (F32:Fun K "law" "law" aCb f32 g32) (a33:GN K "number_by_rim" f33) (F33:Fun K "number_by_rim" "number_by_rim" kE f33 g33)
  (a34:GN K "mirrored" f34) (F34:Fun K "mirrored" "mirrored" tR f34 g34) (a35:GN K "with_line" f35) (F35:Fun K "with_line" "with_line" qL f35 g35)
  (a36:GN K "leans_of" f36) (F36:Fun K "leans_of" "leans_of" oR f36 g36) (a37:GN K "_law_along" f37) (F37:Fun K "_law_along" "_law_along" pD f37 g37)
  (a38:GN K "_law_leans" f38) (F38:Fun K "_law_leans" "_law_leans" oO f38 g38) (a39:GN K "pair_by" f39) (F39:Fun K "pair_by" "pair_by" aNh f39 g39)
  (a40:GN K "read_written" f40) (F40:Fun K "read_written" "read_written" yV f40 g40) (M41:Meth K Cnum "inner" f41) (F41:Fun K "inner" "Term.inner" lH f41 g41)
  (M42:Meth K Cnum "takes" f42) (F42:Fun K "takes" "Term.takes" lG f42 g42) (M43:Meth K Cnum "depth" f43) (F43:Fun K "depth" "Term.depth" iZ f43 g43)
  (M44:Meth K Cnum "parts" f44) (F44:Fun K "parts" "Term.parts" iM f44 g44) (M45:Meth K Ccho "own_fault" f45) (F45:Fun K "own_fault" "Term.own_fault" fU f45 g45)
  (M46:Meth K Cnum "__init__" f46) (F46:Fun K "__init__" "Number.__init__" aHi f46 g46) (M47:Meth K Cnum "own_fault" f47) (F47:Fun K "own_fault" "Number.own_fault" dZ f47 g47)
  (M48:Meth K Ctake "__init__" f48) (F48:Fun K "__init__" "Take.__init__" aFx f48 g48) (M49:Meth K Ctake "takes" f49) (F49:Fun K "takes" "Take.takes" lE f49 g49)
  (M50:Meth K Ctake "own_fault" f50) (F50:Fun K "own_fault" "Take.own_fault" fX f50 g50) (M51:Meth K Cb0 "__init__" f51) (F51:Fun K "__init__" "Paired.__init__" aHj f51 g51)
  (M52:Meth K Cb0 "inner" f52) (F52:Fun K "inner" "Paired.inner" iR f52 g52) (M53:Meth K Crest "__init__" f53) (F53:Fun K "__init__" "Rest.__init__" aF5 f53 g53)
  (M54:Meth K Crest "inner" f54) (F54:Fun K "inner" "Rest.inner" lD f54 g54) (M55:Meth K Crest "own_fault" f55) (F55:Fun K "own_fault" "Rest.own_fault" fZ f55 g55)
  (M56:Meth K Ccho "__init__" f56) (F56:Fun K "__init__" "Chosen.__init__" aG3 f56 g56) (M57:Meth K Ccho "inner" f57) (F57:Fun K "inner" "Chosen.inner" iY f57 g57)
  (M58:Meth K CR "__init__" f58) (F58:Fun K "__init__" "TermReader.__init__" aDd f58 g58) (M59:Meth K CR "ahead" f59) (F59:Fun K "ahead" "TermReader.ahead" aAs f59 g59)
  (M60:Meth K CR "pass_by" f60) (F60:Fun K "pass_by" "TermReader.pass_by" aDu f60 g60) (M61:Meth K CR "figure_is_ahead" f61) (F61:Fun K "figure_is_ahead" "TermReader.figure_is_ahead" aG6 f61 g61)
  (M62:Meth K CR "read_figures" f62) (F62:Fun K "read_figures" "TermReader.read_figures" aDx f62 g62) (M63:Meth K CR "read_number" f63) (F63:Fun K "read_number" "TermReader.read_number" aGq f63 g63)
  (M64:Meth K CR "read_take" f64) (F64:Fun K "read_take" "TermReader.read_take" aCo f64 g64) (M65:Meth K CR "read_word" f65) (F65:Fun K "read_word" "TermReader.read_word" yJ f65 g65)
  (M66:Meth K CR "read_bracket" f66) (F66:Fun K "read_bracket" "TermReader.read_bracket" uI f66 g66) (M67:Meth K CR "read_behind" f67) (F67:Fun K "read_behind" "TermReader.read_behind" rR f67 g67)
  (M68:Meth K CR "read_part" f68) (F68:Fun K "read_part" "TermReader.read_part" yC f68 g68) (M69:Meth K CG "__init__" f69) (F69:Fun K "__init__" "Grid.__init__" kI f69 g69)
  (M70:Meth K CG "lines" f70) (F70:Fun K "lines" "Grid.lines" pM f70 g70) (M71:Meth K CG "places_many" f71) (F71:Fun K "places_many" "Grid.places_many" gZ f71 g71)
  (M72:Meth K CJ "__init__" f72) (F72:Fun K "__init__" "Job.__init__" jB f72 g72) (M73:Meth K CJ "deep" f73) (F73:Fun K "deep" "Job.deep" pH f73 g73)
  (M74:Meth K CG "beside" f74) (F74:Fun K "beside" "Grid.beside" mQ f74 g74) (M75:Meth K CG "all_places" f75) (F75:Fun K "all_places" "Grid.all_places" iJ f75 g75)
  (M76:Meth K CJ "where" f76) (F76:Fun K "where" "Job.where" qT f76 g76) (M77:Meth K CJ "reads_of" f77) (F77:Fun K "reads_of" "Job.reads_of" iT f77 g77)
  (M78:Meth K CJ "all_spots" f78) (F78:Fun K "all_spots" "Job.all_spots" gR f78 g78) (kCnum:CK K Cnum ["value"]) (kCtake:CK K Ctake ["back","steps"])
  (kCrest:CK K Crest ["one","by"]) (kCcho:CK K Ccho ["test","one","other"]) (kCb0:CK K Cb0 ["one","other"]) (kCb1:CK K Cb1 ["one","other"])
  (kCb2:CK K Cb2 ["one","other"]) (kCb3:CK K Cb3 ["one","other"]) (kCb4:CK K Cb4 ["one","other"]) (kCR:CK K CR ["text","gone"])
  (kCG:CK K CG ["sizes","rims"]) (kCJ:CK K CJ ["taken","grid","term","modulus","rounds","first"]) (e0:FI K Cb1 "__init__" f51) (e1:FI K Cb2 "__init__" f51)
  (e2:FI K Cb3 "__init__" f51) (e3:FI K Cb4 "__init__" f51) (e4:FI K Ctake "inner" f41) (e5:FI K Cb1 "inner" f52)
  (e6:FI K Cb2 "inner" f52) (e7:FI K Cb3 "inner" f52) (e8:FI K Cb4 "inner" f52) (e9:FI K Crest "takes" f42)
  (e10:FI K Ccho "takes" f42) (e11:FI K Cb0 "takes" f42) (e12:FI K Cb1 "takes" f42) (e13:FI K Cb2 "takes" f42)
  (e14:FI K Cb3 "takes" f42) (e15:FI K Cb4 "takes" f42) (e16:FI K Ctake "depth" f43) (e17:FI K Crest "depth" f43)
  (e18:FI K Ccho "depth" f43) (e19:FI K Cb0 "depth" f43) (e20:FI K Cb1 "depth" f43) (e21:FI K Cb2 "depth" f43)
  (e22:FI K Cb3 "depth" f43) (e23:FI K Cb4 "depth" f43) (e24:FI K Ctake "parts" f44) (e25:FI K Crest "parts" f44)
  (e26:FI K Ccho "parts" f44) (e27:FI K Cb0 "parts" f44) (e28:FI K Cb1 "parts" f44) (e29:FI K Cb2 "parts" f44)
  (e30:FI K Cb3 "parts" f44) (e31:FI K Cb4 "parts" f44) (e32:FI K Cb0 "own_fault" f45) (e33:FI K Cb1 "own_fault" f45)
  (e34:FI K Cb2 "own_fault" f45) (e35:FI K Cb3 "own_fault" f45) (e36:FI K Cb4 "own_fault" f45) (nd:[Cnum,Ctake,Crest,Ccho,Cb0,Cb1,Cb2,Cb3,Cb4].Nodup)
  (ndR:CR∉[Cnum,Ctake,Crest,Ccho,Cb0,Cb1,Cb2,Cb3,Cb4]) (qF:Dp K mainGlobals "FIGURES"=some (some (.str "0123456789" tF))) (aWd:GN K "WORDS" aW) (lWd:K.lookup aW=some ⟨.type "tuple",odW,.seq #[.str "+" tW1,.str "-" tW2,.str "*" tW3,.str "min" tW4,.str "max" tW5,.str "rest" tW6,.str "?" tW7] nW,slW⟩)
  (z_isinstance:Dp K mainGlobals "isinstance"=some none) (z_int:Dp K mainGlobals "int"=some none) (z_bool:Dp K mainGlobals "bool"=some none) (z_str:Dp K mainGlobals "str"=some none)
  (z_tuple:Dp K mainGlobals "tuple"=some none) (z_list:Dp K mainGlobals "list"=some none) (z_len:Dp K mainGlobals "len"=some none) (z_range:Dp K mainGlobals "range"=some none)
  (z_enumerate:Dp K mainGlobals "enumerate"=some none) (z_max:Dp K mainGlobals "max"=some none) (z_min:Dp K mainGlobals "min"=some none) (z_sorted:Dp K mainGlobals "sorted"=some none)
  (z_sum:Dp K mainGlobals "sum"=some none) (z_set:Dp K mainGlobals "set"=some none) (z_all:Dp K mainGlobals "all"=some none) (z_any:Dp K mainGlobals "any"=some none)
  (z_zip:Dp K mainGlobals "zip"=some none) (z_abs:Dp K mainGlobals "abs"=some none) (z_dict:Dp K mainGlobals "dict"=some none) (q_GREATEST_NUMBER:Dp K mainGlobals "GREATEST_NUMBER"=some (some (.int 1000000000000 t_GREATEST_NUMBER)))
  (q_GREATEST_DIVISOR:Dp K mainGlobals "GREATEST_DIVISOR"=some (some (.int 1000000000 t_GREATEST_DIVISOR))) (q_GREATEST_BACK:Dp K mainGlobals "GREATEST_BACK"=some (some (.int 3 t_GREATEST_BACK))) (q_GREATEST_STEP:Dp K mainGlobals "GREATEST_STEP"=some (some (.int 9 t_GREATEST_STEP))) (q_MOST_STEPS_terms:Dp K mainGlobals "MOST_STEPS_terms"=some (some (.int 3 t_MOST_STEPS_terms)))
  (q_MOST_DEPTH:Dp K mainGlobals "MOST_DEPTH"=some (some (.int 12 t_MOST_DEPTH))) (q_MOST_PARTS:Dp K mainGlobals "MOST_PARTS"=some (some (.int 60 t_MOST_PARTS))) (q_MOST_TAKES:Dp K mainGlobals "MOST_TAKES"=some (some (.int 6 t_MOST_TAKES))) (q_GREATEST_MODULUS:Dp K mainGlobals "GREATEST_MODULUS"=some (some (.int 1000000000 t_GREATEST_MODULUS)))
  (q_MOST_ROUNDS:Dp K mainGlobals "MOST_ROUNDS"=some (some (.int 12 t_MOST_ROUNDS))) (q_MOST_SPOTS:Dp K mainGlobals "MOST_SPOTS"=some (some (.int 120 t_MOST_SPOTS))) (q_GREATEST_FIXED:Dp K mainGlobals "GREATEST_FIXED"=some (some (.int 1000000000 t_GREATEST_FIXED))) (q_MOST_LINES:Dp K mainGlobals "MOST_LINES"=some (some (.int 3 t_MOST_LINES)))
  (q_GREATEST_SIZE:Dp K mainGlobals "GREATEST_SIZE"=some (some (.int 9 t_GREATEST_SIZE))) (q_MOST_PLACES:Dp K mainGlobals "MOST_PLACES"=some (some (.int 40 t_MOST_PLACES))) (q_MOST_FIGURES:Dp K mainGlobals "MOST_FIGURES"=some (some (.int 13 t_MOST_FIGURES))) (q_MOST_STEPS_term_texts:Dp K mainGlobals "MOST_STEPS_term_texts"=some (some (.int 3 t_MOST_STEPS_term_texts)))
  (q_MOST_WITHIN:Dp K mainGlobals "MOST_WITHIN"=some (some (.int 12 t_MOST_WITHIN)))
  :∃fd:FuncData,(∀(s:Shared) (v:Value),BindsTo s fd ⟨[v],[]⟩ [("_law_script",v)])/\∀base:Heap,K.In base->base.Ns mainGlobals mg->bB l.prog w K mg base CX0 31 fa fd ["_law_script"] (spV (aK5 K)):=by
 have m:∀{n:Str} {f:Addr},GN K n f->mg n=some (.ref f):=λh=>Ez X G h;have mn:∀{n:Str},Dp K mainGlobals n=some none->mg n=none:=λh=>W.mg_none_of X G h;have e:=hfa.symm.trans (m a32);cases e;have T:Txt mg:=⟨mn z_isinstance,mn z_int,mn z_bool,mn z_str,mn z_tuple,mn z_list,mn z_len,mn z_range,mn z_enumerate,mn z_max,mn z_min,mn z_sorted,mn z_sum,mn z_set,mn z_all,mn z_any,mn z_zip,mn z_abs,mn z_dict,⟨_,Ez X G q_GREATEST_NUMBER⟩,⟨_,Ez X G q_GREATEST_DIVISOR⟩,⟨_,Ez X G q_GREATEST_BACK⟩,⟨_,Ez X G q_GREATEST_STEP⟩,⟨_,Ez X G q_MOST_STEPS_terms⟩,⟨_,Ez X G q_MOST_DEPTH⟩,⟨_,Ez X G q_MOST_PARTS⟩,⟨_,Ez X G q_MOST_TAKES⟩,⟨_,Ez X G q_GREATEST_MODULUS⟩,⟨_,Ez X G q_MOST_ROUNDS⟩,⟨_,Ez X G q_MOST_SPOTS⟩,⟨_,Ez X G q_GREATEST_FIXED⟩,⟨_,Ez X G q_MOST_LINES⟩,⟨_,Ez X G q_GREATEST_SIZE⟩,⟨_,Ez X G q_MOST_PLACES⟩,⟨_,Ez X G q_MOST_FIGURES⟩,⟨_,Ez X G q_MOST_STEPS_term_texts⟩,⟨_,Ez X G q_MOST_WITHIN⟩⟩;have T2:KR.Txt K mg:=⟨T.isinstance,T.int,T.tuple,T.len,T.any,T.str,T.c_MOST_FIGURES,T.c_MOST_STEPS_term_texts,T.c_MOST_WITHIN⟩;have F0:=F32;obtain⟨⟨_,_,y1,y2,y3,y4,y5,y6,_,rfl,_⟩,_⟩:=F0;refine⟨W.fnOf "law" "law" (jN aCb) (fV aCb) (aC aCb) .none y1 y2 y3 y4 y5 y6,λs v=> .of_eq rfl,λbase _ _=>?_⟩;have cal:∀{CX:CXT} {k:Nat} {f:Addr} {fd:FuncData} {n x qn:Str} {st:Stmt} {ps:List Str} {sp:Sp},Fun K x qn st f fd->bB l.prog w K mg base CX k f fd ps sp->GN K n f->Binds K fd ps []->Cal l.prog w K mg base CX k n ps sp:=λF h a b=>⟨_,_,h,m a,F.kp,b⟩;let N:Cn:=⟨Cnum,Ctake,Crest,Ccho,λk=>match k with|0=>Cb0|1=>Cb1|2=>Cb2|3=>Cb3|4=>Cb4⟩;have nd:(zR N).Nodup:=nd;have c5:∀k,CK K (N.bin k) ["one","other"]:=λk=>by
  match k with
  |0=>exact kCb0
  |1=>exact kCb1
  |2=>exact kCb2
  |3=>exact kCb3
  |4=>exact kCb4
 have nR:aEn N CR:=λt e=>ndR (e▸Bt (aGm N t));have cl:∀C,IsC N C->Cls K C:=λC hC=>by
  rcases hC with rfl|rfl|rfl|rfl|⟨k,rfl⟩
  ·exact kCnum.c
  ·exact kCtake.c
  ·exact kCrest.c
  ·exact kCcho.c
  ·exact(c5 k).c
 have D_i:jZ l.prog w K mg base N 1 "inner" (jD N):=aJh nd F41 F52 F54 F57 cl kCrest.fl kCcho.fl (λk=>(c5 k).fl) M41 (mth M41 e4) M54 M57 (λk=>by
  match k with
  |0=>exact M52
  |1=>exact(mth M52 e5)
  |2=>exact(mth M52 e6)
  |3=>exact(mth M52 e7)
  |4=>exact(mth M52 e8))
 have D_t:=aB2 (P:=l.prog) (w:=w) (base:=base) nd F42 F49 cl kCtake.fl (λC hC ne=>by
  rcases hC with rfl|rfl|rfl|rfl|⟨k,rfl⟩
  ·exact M42
  ·exact absurd rfl ne
  ·exact(mth M42 e9)
  ·exact(mth M42 e10)
  ·match k with
   |0=>exact(mth M42 e11)
   |1=>exact(mth M42 e12)
   |2=>exact(mth M42 e13)
   |3=>exact(mth M42 e14)
   |4=>exact(mth M42 e15)) M49 D_i T 8
 have D_d:=aBy (P:=l.prog) (w:=w) (base:=base) F43 cl (λC hC=>by
  rcases hC with rfl|rfl|rfl|rfl|⟨k,rfl⟩
  ·exact M43
  ·exact(mth M43 e16)
  ·exact(mth M43 e17)
  ·exact(mth M43 e18)
  ·match k with
   |0=>exact(mth M43 e19)
   |1=>exact(mth M43 e20)
   |2=>exact(mth M43 e21)
   |3=>exact(mth M43 e22)
   |4=>exact(mth M43 e23)) D_i T 8
 have D_p:=aB7 (P:=l.prog) (w:=w) (base:=base) F44 cl (λC hC=>by
  rcases hC with rfl|rfl|rfl|rfl|⟨k,rfl⟩
  ·exact M44
  ·exact(mth M44 e24)
  ·exact(mth M44 e25)
  ·exact(mth M44 e26)
  ·match k with
   |0=>exact(mth M44 e27)
   |1=>exact(mth M44 e28)
   |2=>exact(mth M44 e29)
   |3=>exact(mth M44 e30)
   |4=>exact(mth M44 e31)) D_i T 8
 have c10:=cal F10 (aLg F10 T) a10 (fb1 "thing" F10);have c11:=cal F11 (aKk F11 c10) a11 (fb3 "thing" "least" "most" F11);have c15:=cal F15 (aO2 F15 c11 T) a15 (fb1 "thing" F15);have D_f:jZ l.prog w K mg base N 4 "own_fault" (pY N):=aJs nd F45 F47 F50 F55 cl kCnum.fl kCtake.fl kCrest.fl c11 c15 T M47 M50 M55 M45 (λk=>by
  match k with
  |0=>exact(mth M45 e32)
  |1=>exact(mth M45 e33)
  |2=>exact(mth M45 e34)
  |3=>exact(mth M45 e35)
  |4=>exact(mth M45 e36))
 have c17:=aNt F17 (m a17) D_i D_f 8;have c16:=cal F16 (aGb F16 D_t T) a16 (fb1 "term" F16);have c18:=cal F18 (aJ7 F18 (by decide) c17 c16 D_t D_d D_p T) a18 (fb1 "term" F18);have R5:∀k,Mkr l.prog w K mg base (N.bin k) (bnm k) ["self","one","other"] (aDq K "one" "other"):=λk=>by
  match k with
  |0=>exact⟨⟨_,_,rC F51,mkO kCb0 M51,m aCb0,(fb3 "self" "one" "other" F51)⟩⟩
  |1=>exact⟨⟨_,_,rC F51,mkO kCb1 (mth M51 e0),m aCb1,(fb3 "self" "one" "other" F51)⟩⟩
  |2=>exact⟨⟨_,_,rC F51,mkO kCb2 (mth M51 e1),m aCb2,(fb3 "self" "one" "other" F51)⟩⟩
  |3=>exact⟨⟨_,_,rC F51,mkO kCb3 (mth M51 e2),m aCb3,(fb3 "self" "one" "other" F51)⟩⟩
  |4=>exact⟨⟨_,_,rC F51,mkO kCb4 (mth M51 e3),m aCb4,(fb3 "self" "one" "other" F51)⟩⟩
 have M:aFf l.prog w K mg base N:=⟨⟨⟨_,_,aMi F46,mkO kCnum M46,m aCnum,(fb2 "self" "value" F46)⟩⟩,⟨⟨_,_,aNv F48,mkO kCtake M48,m aCtake,(fb3 "self" "back" "steps" F48)⟩⟩,⟨⟨_,_,aOj F53,mkO kCrest M53,m aCrest,(fb3 "self" "one" "by" F53)⟩⟩,⟨⟨_,_,aMa F56,mkO kCcho M56,m aCcho,(fb4 "self" "test" "one" "other" F56)⟩⟩,R5,kCnum.cf,kCtake.cf,kCrest.cf,kCcho.cf,λk=>(c5 k).cf⟩;have Wd:Words K aW:=λH=> .inr ⟨_,_,_,lWd,rfl,rfl,(by show 7<=sizeLine;decide),.cons ⟨_,rfl⟩ (.cons ⟨_,rfl⟩ (.cons ⟨_,rfl⟩ (.cons ⟨_,rfl⟩ (.cons ⟨_,rfl⟩ (.cons ⟨_,rfl⟩ (.cons ⟨_,rfl⟩ .nil))))))⟩;have D_ahead:=jA (P:=l.prog) (w:=w) (mg:=mg) (base:=base) kCR.c M59 (fb1 "self" F59) (aN9 F59 kCR.cf);have D_pass:=jA (P:=l.prog) (w:=w) (mg:=mg) (base:=base) kCR.c M60 (fb2 "self" "signs" F60) (aQ5 F60 kCR.cf D_ahead);have D_fig:=jA (P:=l.prog) (w:=w) (mg:=mg) (base:=base) kCR.c M61 (fb1 "self" F61) (aTd F61 D_ahead (Ez X G qF));have D_figs:=jA (P:=l.prog) (w:=w) (mg:=mg) (base:=base) kCR.c M62 (fb1 "self" F62) (aPg F62 kCR.cf D_ahead D_pass D_fig T2);have D_num:=jA (P:=l.prog) (w:=w) (mg:=mg) (base:=base) kCR.c M63 (fb1 "self" F63) (aTb F63 D_ahead D_pass D_figs);have D_rtake:=jA (P:=l.prog) (w:=w) (mg:=mg) (base:=base) kCR.c M64 (fb1 "self" F64) (aKx F64 D_ahead D_pass D_num M.take M.c2 T2);have D_word:=jA (P:=l.prog) (w:=w) (mg:=mg) (base:=base) kCR.c M65 (fb1 "self" F65) (aQc F65 D_ahead D_pass (m aWd) Wd T2);have c39:=cal F39 (aJc F39 M) a39 (fb3 "word" "one" "other" F39);have D_part:=aEm kCR.c nR M T2 F66 F67 F68 M66 M67 M68 D_ahead D_pass D_figs D_num D_rtake D_word c39 8;have R_rd:Mkr l.prog w K mg base CR "TermReader" ["self","text"] (aT4 K):=⟨⟨_,_,aKh F58,mkO kCR M58,m aCR,(fb2 "self" "text" F58)⟩⟩;have c40:=cal F40 (aKp (aGg F40 R_rd kCR.cf nR D_part T2)) a40 (fb1 "text" F40);have c19:=cal F19 (aLk (k:=15) F19 c40 c18) a19 (fb1 "text" F19);have c12:=cal F12 (aLh F12 c11 T) a12 (fb1 "thing" F12);have c13:=cal F13 (aQa F13) a13 (fb1 "sizes" F13);have c14:=cal F14 (aM3 F14 c11 c12 T) a14 (fb2 "sizes" "rims" F14);have c20:=cal F20 (aLn F20 c11 T) a20 (fb3 "thing" "many" "modulus" F20);have c21:=cal F21 (aGy F21 c20 T) a21 (fb4 "thing" "deep" "many" "modulus" F21);have D_lines:=jA (P:=l.prog) (w:=w) (mg:=mg) (base:=base) kCG.c M70 (fb1 "self" F70) (aMj F70 kCG.fl T);have D_many:=jA (P:=l.prog) (w:=w) (mg:=mg) (base:=base) kCG.c M71 (fb1 "self" F71) (aP6 F71 kCG.fl c13);have D_deep:=jA (P:=l.prog) (w:=w) (mg:=mg) (base:=base) kCJ.c M73 (fb1 "self" F73) (aQl F73 ⟨kCJ.c,λf hf=>kCJ.na f (by rw [List.mem_singleton.mp hf];exact Af)⟩ T);have M_Grid:MkU l.prog w K mg base 5 CG "Grid" ["self","sizes","rims"] aHc:=⟨⟨_,_,aOb F69 kCG.fl c14 c13 T,mkO kCG M69,m aCG,(fb3 "self" "sizes" "rims" F69)⟩⟩;have M_Job:MkU l.prog w K mg base 14 CJ "Job" ["self","grid","term","modulus","rounds","first"] (aHg N CG):=⟨⟨_,_,aOf F72 kCJ.fl c18 c16 c11 c21 D_t D_lines D_many D_deep T,mkO kCJ M72,m aCJ,(fb6 "self" "grid" "term" "modulus" "rounds" "first" F72)⟩⟩;have c22:=cal F22 (aQq F22 T) a22 (fb2 "_law_script" "_law_k" F22);have c23:=cal F23 (aL2 F23) a23 (fb2 "_law_cell_here" "_law_k" F23);have c24:=cal F24 (aO4 F24 c23) a24 (fb2 "_law_cell_here" "_law_k" F24);have c25:=cal F25 (aQs F25 c24) a25 (fb2 "_law_well_here" "_law_most" F25);have c26:=cal F26 (aQv F26 c22 T) a26 (fb2 "_law_script" "_law_k" F26);have c27:=cal F27 (aI6 F27 c25 T) a27 (fb1 "_law_well_here" F27);have c28:=cal F28 (aNs F28 c25 T) a28 (fb2 "_law_well_here" "_law_many" F28);have c29:=cal F29 (aOu F29 c25 T) a29 (fb2 "_law_well_here" "_law_takes" F29);have c30:=cal F30 (aOs F30 c26 c27 c28 c25 c29 T) a30 (fb3 "_law_script" "_law_k" "_law_most" F30);have c31:=cal F31 (aQ6 F31 M_Grid M_Job c19 T) a31 (fb1 "_law_world_here" F31);have c34:=cal F34 (aTt F34) a34 (fb2 "size" "number" F34);have c33:=cal F33 (aTc F33 c34) a33 (fb3 "rim" "size" "number" F33);have D_bes:=jA (P:=l.prog) (w:=w) (mg:=mg) (base:=base) kCG.c M74 (fb3 "self" "place" "steps" F74) (aU0 F74 kCG.fl c33 T);have D_where:=jA (P:=l.prog) (w:=w) (mg:=mg) (base:=base) kCJ.c M76 (fb3 "self" "spot" "take" F76) (aKt (N:=N) F76 kCJ.fl D_bes T);have D_reads:=jA (P:=l.prog) (w:=w) (mg:=mg) (base:=base) kCJ.c M77 (fb2 "self" "spot" F77) (aMm F77 kCJ.fl D_where T);have c36:=cal F36 (aKu F36 D_reads T) a36 (fb2 "job" "spot" F36);have c35:=cal F35 (aQp F35 T) a35 (fb2 "places" "size" F35);have D_allp:=jA (P:=l.prog) (w:=w) (mg:=mg) (base:=base) kCG.c M75 (fb1 "self" F75) (aPz F75 kCG.fl c35 T);have D_alls:=jA (P:=l.prog) (w:=w) (mg:=mg) (base:=base) kCJ.c M78 (fb1 "self" F78) (aQd (N:=N) F78 kCJ.fl D_allp T);have c37:=cal F37 (aNm F37 T) a37 (fb3 "_law_x" "_law_size" "_law_rim" F37);have c38:=cal F38 (aJa F38 c37 T) a38 (fb2 "_law_world_here" "_law_spot" F38);exact aS8 F32 c30 c31 c38 c36 D_alls T
theorem aU7 {l:W.OpenLaw} {q:Program} {loose:List Str} {XP:(Str->Option Value)->Heap->Prop} {YP:World->Heap->Prop} {d:DefRec} {K:Params->W.Frag} (hn:l.most=some 63) (hdf:d.params.defaults=[])
  (hY:∀(w:World) (h:Heap),YP w h->(K w.params).In h)
  (F:∀(w:World) (mg:Str->Option Value) (fa:Addr) (h:Heap),(K w.params).In h->h.Ns mainGlobals mg->mg d.name=some (.ref fa)->
   ∃fd:FuncData,(∀(s:Shared) (u:Value),BindsTo s fd ⟨[u],[]⟩ [("_law_script",u)])/\∀base:Heap,(K w.params).In base->base.Ns mainGlobals mg->bB l.prog w (K w.params) mg base CX0 31 fa fd ["_law_script"] (spV (aK5 (K w.params)))):
  W.WalkO q loose XP YP l.row.toRowW d [] (λf vs=>Pc f vs):=
 L2.aQo (n:=63) (k:=31) (x:="_law_script") (CX:=λ_=>CX0) (sp:=λw=>spV (aK5 (K w.params))) hn (by decide) hdf ⟨rfl,by decide,by decide⟩ hY F (λ_ _ _ _ _ _ hS=>aVa hS) λ_ _ _ _ _ z=>z
end Q
namespace PySem.W.Fast
def tw10009341783230631096:=()
def tw10038987824611824709:=()
def tw10066970848737665724:=()
def tw10161441026142654870:=()
def tw10215296436657590262:=()
def tw10217461291827365165:=()
def tw10263458752408359103:=()
def tw1027068606306716331:=()
def tw10284691964186453573:=()
def tw10328877586012356524:=()
def tw10345629267732310683:=()
def tw10415828292715072883:=()
def tw10421018883591101085:=()
def tw10423501734306099206:=()
def tw10498978184243814292:=()
def tw10538192037833711506:=()
def tw10546036252022774248:=()
def tw10577807572788988396:=()
def tw10586052041244484852:=()
def tw10596286529539167462:=()
def tw10616456847152943754:=()
def tw10663407117036177252:=()
def tw10681871386536737400:=()
def tw10713509853422540489:=()
def tw10738080269030075546:=()
def tw10741632142762344171:=()
def tw10767676004095505534:=()
def tw1079417094106217431:=()
def tw10903864097056458918:=()
def tw10907515933911842641:=()
def tw10940807841362359911:=()
def tw10974276972823335695:=()
def tw10976160222848999655:=()
def tw10994866438117689065:=()
def tw11057701271687002296:=()
def tw11096141439829261720:=()
def tw11114161692818635224:=()
def tw11175277637609757430:=()
def tw11243854440386817137:=()
def tw11265430443424529751:=()
def tw11340239234782790827:=()
def tw11344645712283483699:=()
def tw11365960058306325812:=()
def tw11371967073607403704:=()
def tw11376735445928195265:=()
def tw11397905177098720045:=()
def tw11455298140430838580:=()
def tw11480587175282787948:=()
def tw11571295609045608081:=()
def tw1157217251878568642:=()
def tw11580154834222468716:=()
def tw1158657523623859813:=()
def tw11590767013884746335:=()
def tw11616110913558205767:=()
def tw11658426772267649988:=()
def tw11808414805592808186:=()
def tw11817118648458055792:=()
def tw11828939067534222115:=()
def tw11911532558907255178:=()
def tw12026002524807375957:=()
def tw12028981683274462003:=()
def tw12182313906653406377:=()
def tw12201981034177743572:=()
def tw12202359634523409060:=()
def tw12204621848097510281:=()
def tw12263612094113156346:=()
def tw12291503006376729693:=()
def tw12360753474820759482:=()
def tw12362170520233656209:=()
def tw12410306663730409583:=()
def tw12494671740217465051:=()
def tw12521536261364709098:=()
def tw12541080517440407714:=()
def tw12577465696601818900:=()
def tw1258285643606679547:=()
def tw12584653831875127520:=()
def tw12598177832403875172:=()
def tw12641860711684307155:=()
def tw12654119958274964484:=()
def tw12676955768601140718:=()
def tw12680668473287882253:=()
def tw12714785228058336066:=()
def tw12760129683404496957:=()
def tw12774535139910109223:=()
def tw1281724938626182679:=()
def tw12867517114845953839:=()
def tw12924767469289827285:=()
def tw12936687660703991720:=()
def tw1294264635808767987:=()
def tw12958690354370294951:=()
def tw12961620401084078924:=()
def tw12978261602177687341:=()
def tw13006677984253538378:=()
def tw13036950151065918023:=()
def tw13042378128049272289:=()
def tw13044525794820238011:=()
def tw13064207708452558652:=()
def tw13073624345349230204:=()
def tw13079198086642357602:=()
def tw13185818819183916006:=()
def tw13203003114756019249:=()
def tw13220606673277714261:=()
def tw13231445461988972577:=()
def tw13249972242292883265:=()
def tw13255061762203022031:=()
def tw13273576566381688096:=()
def tw1331578752374801738:=()
def tw13321309095271639812:=()
def tw13357419601285124967:=()
def tw13360639208645377998:=()
def tw13435553439612717060:=()
def tw13450537087398424724:=()
def tw13493394662189759623:=()
def tw13525695388427764417:=()
def tw13532039205418217088:=()
def tw13564502697603871676:=()
def tw1357628890071113417:=()
def tw13595868609395345161:=()
def tw13606469796507552277:=()
def tw13613205164109416322:=()
def tw13640160998262359391:=()
def tw136671601232822420:=()
def tw13675113390182158150:=()
def tw13683041514767659707:=()
def tw13705742185658848667:=()
def tw13719714460499986395:=()
def tw13759727411666469827:=()
def tw13784650993793606611:=()
def tw13786953730009935668:=()
def tw1381254185375555074:=()
def tw13839984990516512334:=()
def tw13915130856264252185:=()
def tw13917964746014900756:=()
def tw13947900062391767432:=()
def tw14100858762691587016:=()
def tw14142913238763510897:=()
def tw14199966154069894603:=()
def tw14206902506448586843:=()
def tw14218829391115614896:=()
def tw14334918528076594316:=()
def tw14383375509573562845:=()
def tw14479400939038464637:=()
def tw14489302218508288205:=()
def tw1451559079781925487:=()
def tw14580550281561225328:=()
def tw14625093924324019995:=()
def tw14647564501171807180:=()
def tw14690412200115692810:=()
def tw14705448164466972237:=()
def tw14748174776122783797:=()
def tw14820000347511002130:=()
def tw14921042045432366273:=()
def tw14940914224236710950:=()
def tw15003624356048330644:=()
def tw15016871373180918314:=()
def tw15023778323686925811:=()
def tw15116701169572646277:=()
def tw15156336447772381448:=()
def tw15174364084863252439:=()
def tw15230892357710407850:=()
def tw15246686170218415894:=()
def tw15307656641310164719:=()
def tw15371588848203941203:=()
def tw15377385041639626506:=()
def tw15388664271382562483:=()
def tw15390676693066750051:=()
def tw15445146226092834319:=()
def tw15459383512386894980:=()
def tw15480915872677973650:=()
def tw15553925652940191805:=()
def tw1559314131754474803:=()
def tw15698280520916106086:=()
def tw15720588015040115068:=()
def tw15732662687484153909:=()
def tw15743014199918107700:=()
def tw15805108470411575407:=()
def tw15836395682501258951:=()
def tw15930490525416912174:=()
def tw16048672646364574477:=()
def tw16056413406585144579:=()
def tw16058420973620696880:=()
def tw1607767661524994741:=()
def tw16138674801264004243:=()
def tw16141814014030456876:=()
def tw16214990477300975073:=()
def tw16226376371794930552:=()
def tw16246215533771006956:=()
def tw16324548017535768852:=()
def tw16347214024310516746:=()
def tw16396505466406739761:=()
def tw16420852480800888482:=()
def tw16426160347866246587:=()
def tw16489401467510916889:=()
def tw16563391902521668442:=()
def tw16584726950991920968:=()
def tw16732355549731675983:=()
def tw16760397183707555707:=()
def tw16764830820947313505:=()
def tw16794502341109805681:=()
def tw16805677976444860306:=()
def tw16828312527414157585:=()
def tw16834870257779761989:=()
def tw16892723839063510875:=()
def tw16915283917752263387:=()
def tw1692523715622267044:=()
def tw17011263776107070087:=()
def tw17052298650894466523:=()
def tw17070687597616974818:=()
def tw17193277685457972987:=()
def tw17211258936720037401:=()
def tw1721139615383153471:=()
def tw1724723409377413384:=()
def tw17299853125438388088:=()
def tw17338566024538575327:=()
def tw17353440311358177812:=()
def tw17358449177013652341:=()
def tw17399450532791590773:=()
def tw17406622899252051226:=()
def tw17423484096539216257:=()
def tw1743524007197137586:=()
def tw17467469607016585690:=()
def tw17520619771184059618:=()
def tw17534429536905524662:=()
def tw17564714683185189575:=()
def tw17588931149347079685:=()
def tw17607298517905272337:=()
def tw17621622351883300346:=()
def tw1763086330241690228:=()
def tw17648953461503244939:=()
def tw17702535876689725656:=()
def tw17731577762452965087:=()
def tw17748967557263632299:=()
def tw17763652367534230619:=()
def tw17766633137696552824:=()
def tw17810398967469389683:=()
def tw17816362850497728595:=()
def tw17837921336875891417:=()
def tw17841732923728466850:=()
def tw17857553141375514842:=()
def tw17888797174582953449:=()
def tw1791018633687680038:=()
def tw17999623761360996281:=()
def tw18020878247808291491:=()
def tw18196923551527426041:=()
def tw18215107292176548446:=()
def tw18221692897795704517:=()
def tw18240389577476952159:=()
def tw18272905138213838885:=()
def tw18276421799800662432:=()
def tw185765412805028730:=()
def tw1915105687127039518:=()
def tw1922784887767568251:=()
def tw1932120990680729506:=()
def tw196585431344443683:=()
def tw1976024045652479341:=()
def tw1988851896778236912:=()
def tw2059569568139854276:=()
def tw2060442294448664038:=()
def tw2097961033734312618:=()
def tw2117141926162285222:=()
def tw2156486570272367926:=()
def tw2189554628867109893:=()
def tw2199743523505131936:=()
def tw22251412270659180:=()
def tw2308310716416328768:=()
def tw2493855976539088766:=()
def tw2576004891554462308:=()
def tw2599783735792838727:=()
def tw2623698200490622662:=()
def tw2687103951196998822:=()
def tw2695327880891564933:=()
def tw2848624679772385700:=()
def tw2864927959582883801:=()
def tw2875278705928911049:=()
def tw3014672228461768040:=()
def tw3022937860023816858:=()
def tw3159514787634608606:=()
def tw3189179818137221988:=()
def tw3219633517439992463:=()
def tw3245666420592586377:=()
def tw3262050234333361282:=()
def tw3310129860878400440:=()
def tw3323398757288584707:=()
def tw3351537936661596570:=()
def tw3362536951134672249:=()
def tw3392224344903767291:=()
def tw341446459571602892:=()
def tw3416017977014624662:=()
def tw3540213913606672098:=()
def tw3664337495035953428:=()
def tw3674193288235801603:=()
def tw3715869241604314878:=()
def tw3758029756523048995:=()
def tw3799020440761761494:=()
def tw380139403259590975:=()
def tw3865989498593262460:=()
def tw391055073952711811:=()
def tw3935065858133007289:=()
def tw3947959897845320807:=()
def tw3951954389428546232:=()
def tw3967110527140299003:=()
def tw4017649900847063706:=()
def tw4021195450419266374:=()
def tw4072260748379579838:=()
def tw4073034997624296721:=()
def tw4120331127154791665:=()
def tw4134615417070758683:=()
def tw4148449578134267154:=()
def tw4178105080017440334:=()
def tw4199674830947201747:=()
def tw4200585640935051880:=()
def tw4210037200137744144:=()
def tw4228224508070141532:=()
def tw4275748655150746210:=()
def tw4303333562297025324:=()
def tw4305159492786709085:=()
def tw4346886748164198596:=()
def tw4347591277091541742:=()
def tw4393794547518744474:=()
def tw4395871953475581403:=()
def tw4402047180081647942:=()
def tw4413124073786885592:=()
def tw4490321703631641350:=()
def tw455906524247390586:=()
def tw4567658909084121890:=()
def tw4596636379994887739:=()
def tw4602711205368083685:=()
def tw4604103593854771702:=()
def tw4646948277098482217:=()
def tw4648120339637111905:=()
def tw467377176553819245:=()
def tw4728778536904590576:=()
def tw4794154596080784122:=()
def tw4838284453541481862:=()
def tw4893364379636174237:=()
def tw4907762632007585285:=()
def tw4920232648792565296:=()
def tw4944174758230194322:=()
def tw4949397889196498735:=()
def tw4979626868288107896:=()
def tw5107117268585453299:=()
def tw5108146788870558205:=()
def tw5140712096855537591:=()
def tw5141659917990615901:=()
def tw5144261391734296554:=()
def tw5156688531989539665:=()
def tw5162357700245844428:=()
def tw5193647494435057169:=()
def tw5261363693173422731:=()
def tw5278421191913064728:=()
def tw5279794684416186892:=()
def tw5282720075984671360:=()
def tw5287734934577699404:=()
def tw5288766758867602057:=()
def tw5372516710496230405:=()
def tw5395402922383448970:=()
def tw5414648824890203729:=()
def tw544441112457560497:=()
def tw5465035379542414945:=()
def tw5467131907188729236:=()
def tw5467476884190433137:=()
def tw5540003224689838792:=()
def tw5583567198479309469:=()
def tw5650117597196825519:=()
def tw5755120259190936536:=()
def tw5762975656366987500:=()
def tw5779530724370890597:=()
def tw5785733263374692323:=()
def tw57898518727091521:=()
def tw5827056938462556920:=()
def tw5852067776842367791:=()
def tw5883404584956027320:=()
def tw5889570927002404975:=()
def tw5904555466108147044:=()
def tw5910567631960559313:=()
def tw5913324899632138936:=()
def tw5918064850738838362:=()
def tw5978323454245950293:=()
def tw6006909938783705432:=()
def tw6087953222226750147:=()
def tw6142582016062981547:=()
def tw6152679954158017191:=()
def tw6192335346873564334:=()
def tw6214007157060867326:=()
def tw6249866999336732752:=()
def tw6269264892297837130:=()
def tw6302740434059971326:=()
def tw6331344392616520555:=()
def tw6420884086316557460:=()
def tw6473803843363877934:=()
def tw6491997025869384182:=()
def tw6541903847201667034:=()
def tw6581184008508422140:=()
def tw6597457191099759264:=()
def tw6601637479548618747:=()
def tw661126778395947234:=()
def tw6666416910202682159:=()
def tw6715288569574497841:=()
def tw6788329944318173553:=()
def tw6801632986897364131:=()
def tw6833510236780440145:=()
def tw6843634116644463730:=()
def tw6849471100858205663:=()
def tw6874541841340269380:=()
def tw70186787227078560:=()
def tw7020380917004372162:=()
def tw7031617135647182862:=()
def tw7060861809258456061:=()
def tw7109261103973380730:=()
def tw7158983207982730990:=()
def tw72871088033188686:=()
def tw7306194580761427331:=()
def tw734847905274977785:=()
def tw7442731463424675259:=()
def tw7450546487680034256:=()
def tw7457541628716139607:=()
def tw7477833137411358974:=()
def tw7498002740454443486:=()
def tw7521512697905532504:=()
def tw7572328159177044345:=()
def tw7656335532229508256:=()
def tw7664884500962226847:=()
def tw7717025623622928577:=()
def tw7728119164463058118:=()
def tw7729742577381424860:=()
def tw774742216595260386:=()
def tw7748286059632337409:=()
def tw7754197099526506329:=()
def tw7766491975753387627:=()
def tw7785836575655539247:=()
def tw7802834991691465439:=()
def tw7863764088580175981:=()
def tw7916731531711772935:=()
def tw7987458641849378827:=()
def tw80297019098834477:=()
def tw8089410105207811351:=()
def tw8090273281328127220:=()
def tw8098987106380140866:=()
def tw8105224702592062557:=()
def tw8113509375835937251:=()
def tw8139760343606307231:=()
def tw8156514023610172482:=()
def tw8171473582517005870:=()
def tw8186855336743205080:=()
def tw8222872869332818052:=()
def tw8278412962007093093:=()
def tw8381385074539330945:=()
def tw843349889340612840:=()
def tw8475215906737401030:=()
def tw8507013668179233661:=()
def tw8577652975815607965:=()
def tw866684533287515747:=()
def tw8678643721267603733:=()
def tw8711645706343697810:=()
def tw8723215870715628901:=()
def tw8804685829994968562:=()
def tw8818646599814670129:=()
def tw8848557214913468100:=()
def tw8888173410777400902:=()
def tw893083320334208220:=()
def tw8949093919497185959:=()
def tw9006303218898915821:=()
def tw9021115353099532839:=()
def tw9047542805578789491:=()
def tw9103072676321475998:=()
def tw9112868604393660011:=()
def tw911966007073113143:=()
def tw916772971590380357:=()
def tw9177087551847983175:=()
def tw9222469707970194948:=()
def tw9248786377468762063:=()
def tw9267082460863849063:=()
def tw929275048648428708:=()
def tw9295388938600658218:=()
def tw9362577579117701228:=()
def tw9411866478686642040:=()
def tw9425647845427137821:=()
def tw9434119686611324867:=()
def tw9440663610488726052:=()
def tw944846798852908887:=()
def tw9457378132550836388:=()
def tw9479350981687318671:=()
def tw9496257249363446349:=()
def tw9509483431594906718:=()
def tw9515994625895628903:=()
def tw9563113718657207347:=()
def tw9595158098347788678:=()
def tw9660993789934465522:=()
def tw9704510462066976632:=()
def tw9706050756355964652:=()
def tw9770071134403612959:=()
def tw9794051248918554162:=()
def tw9892920635187526429:=()
def tw9924508481510873903:=()
def tw9964789690549522800:=()
end PySem.W.Fast
open PySem PySem.W PyProof.Rows
set_option maxRecDepth 100000 in
set_option maxHeartbeats 0 in
theorem PySem.Challenge.cw_slanttiles_k31_what_a_spot_leans_on_holds : PySem.Challenge.rw_slanttiles_k31_what_a_spot_leans_on.Holds := by
  w_on; o_law; k_head; (case hw => w_witness2)
  k_fill
  refine Q.aU7 (l := PySem.Challenge.rw_slanttiles_k31_what_a_spot_leans_on) rfl rfl (fun w h Y => PySem.W.kIn_of Y) ?F
  case F =>
    intro w mg fa h KY G hmg
    refine' Q.aTl KY G hmg ?aCnum ?aCtake ?aCrest ?aCcho ?aCb0 ?aCb1 ?aCb2 ?aCb3 ?aCb4 ?aCR ?aCG ?aCJ ?a10 ?F10 ?a11 ?F11 ?a12 ?F12 ?a13 ?F13 ?a14 ?F14 ?a15 ?F15 ?a16 ?F16 ?a17 ?F17 ?a18 ?F18 ?a19 ?F19 ?a20 ?F20 ?a21 ?F21 ?a22 ?F22 ?a23 ?F23 ?a24 ?F24 ?a25 ?F25 ?a26 ?F26 ?a27 ?F27 ?a28 ?F28 ?a29 ?F29 ?a30 ?F30 ?a31 ?F31 ?a32 ?F32 ?a33 ?F33 ?a34 ?F34 ?a35 ?F35 ?a36 ?F36 ?a37 ?F37 ?a38 ?F38 ?a39 ?F39 ?a40 ?F40 ?M41 ?F41 ?M42 ?F42 ?M43 ?F43 ?M44 ?F44 ?M45 ?F45 ?M46 ?F46 ?M47 ?F47 ?M48 ?F48 ?M49 ?F49 ?M50 ?F50 ?M51 ?F51 ?M52 ?F52 ?M53 ?F53 ?M54 ?F54 ?M55 ?F55 ?M56 ?F56 ?M57 ?F57 ?M58 ?F58 ?M59 ?F59 ?M60 ?F60 ?M61 ?F61 ?M62 ?F62 ?M63 ?F63 ?M64 ?F64 ?M65 ?F65 ?M66 ?F66 ?M67 ?F67 ?M68 ?F68 ?M69 ?F69 ?M70 ?F70 ?M71 ?F71 ?M72 ?F72 ?M73 ?F73 ?M74 ?F74 ?M75 ?F75 ?M76 ?F76 ?M77 ?F77 ?M78 ?F78 ?kCnum ?kCtake ?kCrest ?kCcho ?kCb0 ?kCb1 ?kCb2 ?kCb3 ?kCb4 ?kCR ?kCG ?kCJ ?e0 ?e1 ?e2 ?e3 ?e4 ?e5 ?e6 ?e7 ?e8 ?e9 ?e10 ?e11 ?e12 ?e13 ?e14 ?e15 ?e16 ?e17 ?e18 ?e19 ?e20 ?e21 ?e22 ?e23 ?e24 ?e25 ?e26 ?e27 ?e28 ?e29 ?e30 ?e31 ?e32 ?e33 ?e34 ?e35 ?e36 ?nd ?ndR ?qF ?aWd ?lWd ?z_isinstance ?z_int ?z_bool ?z_str ?z_tuple ?z_list ?z_len ?z_range ?z_enumerate ?z_max ?z_min ?z_sorted ?z_sum ?z_set ?z_all ?z_any ?z_zip ?z_abs ?z_dict ?q_GREATEST_NUMBER ?q_GREATEST_DIVISOR ?q_GREATEST_BACK ?q_GREATEST_STEP ?q_MOST_STEPS_terms ?q_MOST_DEPTH ?q_MOST_PARTS ?q_MOST_TAKES ?q_GREATEST_MODULUS ?q_MOST_ROUNDS ?q_MOST_SPOTS ?q_GREATEST_FIXED ?q_MOST_LINES ?q_GREATEST_SIZE ?q_MOST_PLACES ?q_MOST_FIGURES ?q_MOST_STEPS_term_texts ?q_MOST_WITHIN
    case aCnum | aCtake | aCrest | aCcho | aCb0 | aCb1 | aCb2 | aCb3 | aCb4 | aCR | aCG | aCJ | a10 | a11 | a12 | a13 | a14 | a15 | a16 | a17 | a18 | a19 | a20 | a21 | a22 | a23 | a24 | a25 | a26 | a27 | a28 | a29 | a30 | a31 | a32 | a33 | a34 | a35 | a36 | a37 | a38 | a39 | a40 | e0 | e1 | e2 | e3 | e4 | e5 | e6 | e7 | e8 | e9 | e10 | e11 | e12 | e13 | e14 | e15 | e16 | e17 | e18 | e19 | e20 | e21 | e22 | e23 | e24 | e25 | e26 | e27 | e28 | e29 | e30 | e31 | e32 | e33 | e34 | e35 | e36 | aWd => change _ = _; k_is
    case M41 | M42 | M43 | M44 | M45 | M46 | M47 | M48 | M49 | M50 | M51 | M52 | M53 | M54 | M55 | M56 | M57 | M58 | M59 | M60 | M61 | M62 | M63 | M64 | M65 | M66 | M67 | M68 | M69 | M70 | M71 | M72 | M73 | M74 | M75 | M76 | M77 | M78 => exact ⟨by k_is, by k_is, by k_is⟩
    case kCnum => exact ⟨⟨by k_is, by k_is, by k_is, by k_is⟩, Q.naS (by k_is) Q.na0, by k_is, by k_is⟩
    case kCtake | kCrest | kCb0 | kCb1 | kCb2 | kCb3 | kCb4 | kCR | kCG => exact ⟨⟨by k_is, by k_is, by k_is, by k_is⟩, Q.naS (by k_is) (Q.naS (by k_is) Q.na0), by k_is, by k_is⟩
    case kCcho => exact ⟨⟨by k_is, by k_is, by k_is, by k_is⟩, Q.naS (by k_is) (Q.naS (by k_is) (Q.naS (by k_is) Q.na0)), by k_is, by k_is⟩
    case kCJ => exact ⟨⟨by k_is, by k_is, by k_is, by k_is⟩, Q.naS (by k_is) (Q.naS (by k_is) (Q.naS (by k_is) (Q.naS (by k_is) (Q.naS (by k_is) (Q.naS (by k_is) Q.na0))))), by k_is, by k_is⟩
    case nd | ndR => decide
    case qF | lWd | z_isinstance | z_int | z_bool | z_str | z_tuple | z_list | z_len | z_range | z_enumerate | z_max | z_min | z_sorted | z_sum | z_set | z_all | z_any | z_zip | z_abs | z_dict | q_GREATEST_NUMBER | q_GREATEST_DIVISOR | q_GREATEST_BACK | q_GREATEST_STEP | q_MOST_STEPS_terms | q_MOST_DEPTH | q_MOST_PARTS | q_MOST_TAKES | q_GREATEST_MODULUS | q_MOST_ROUNDS | q_MOST_SPOTS | q_GREATEST_FIXED | q_MOST_LINES | q_GREATEST_SIZE | q_MOST_PLACES | q_MOST_FIGURES | q_MOST_STEPS_term_texts | q_MOST_WITHIN => k_is
    case F10 | F11 | F12 | F13 | F14 | F15 | F16 | F17 | F18 | F19 | F20 | F21 | F22 | F23 | F24 | F25 | F26 | F27 | F28 | F29 | F30 | F31 | F32 | F33 | F34 | F35 | F36 | F37 | F38 | F39 | F40 | F41 | F42 | F43 | F44 | F45 | F46 | F47 | F48 | F49 | F50 | F51 | F52 | F53 | F54 | F55 | F56 | F57 | F58 | F59 | F60 | F61 | F62 | F63 | F64 | F65 | F66 | F67 | F68 | F69 | F70 | F71 | F72 | F73 | F74 | F75 | F76 | F77 | F78 => exact L2.aUm (by k_is) (by k_is) (by k_is)


