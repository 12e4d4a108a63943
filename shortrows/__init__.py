"""Rows written shorter the oftener they are used."""
