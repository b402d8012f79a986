"""Tests of unseenstocks."""
