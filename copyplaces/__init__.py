"""Copyplaces: giving means a copy, but where must one really be made?"""
